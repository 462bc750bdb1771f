/-
  Numbers appended to a slice of the call's own; two slices that lie apart.
-/
import Derived.Test.YtaeollnaigphlaaDoorGc
set_option linter.unusedVariables false
set_option linter.unusedSimpArgs false
namespace Go.Proofs.YtaeollnaigphlaaDoor
open Go.RowKit

theorem intsV_append (a b : List Int) : intsV (a ++ b) = intsV a ++ intsV b := by simp [intsV]
theorem OwnInts.append2 {w : World} {B : Nat} {u : Value} {l m : List Int} {A : Option Addr} {c : Nat} (ty : TypeId) (h : OwnInts w B u l) (hv : IntsAt w (.slice A m.length c) m) (hlen : l.length + m.length ≤ 100000000) (hb : B ≤ w.heap.size) :
    ∃ u' w', (Builtin.append_ #[25, 25] ty #[u, .slice A m.length c]).run Tryd.prog w = .ok u' w' ∧ OwnInts w' B u' (l ++ m) ∧ w.grownBy w' u.ownBlock ∧ (u'.ownBlock = u.ownBlock ∨ u'.ownBlock = some w.heap.size) := by
  obtain ⟨i0, I0, I1, I2, I3⟩ := info_parts Tryd.infoInt
  obtain ⟨A', c', hv', hA⟩ := hv
  simp only [Value.slice.injEq, true_and] at hv'
  obtain ⟨rfl, rfl⟩ := hv'
  obtain ⟨u', w', hr, ho, hg, hbb⟩ := own_append2 (P := Tryd.prog) ty Tryd.underlying25 I0 I1 I2 I3 rfl (by decide) h (A := A) (m := m.length) c (news := intsV m) (by simp [intsV]) (fun h0 => by
    obtain ⟨b, o, rfl, hb, hc⟩ := hA h0
    refine ⟨_, rfl, fun j x hj => ?_⟩
    rw [Addr.add_lit]
    simp only [intsV, List.getElem?_map, Option.map_eq_some_iff] at hj
    obtain ⟨y, hy, rfl⟩ := hj
    exact hc j y hy) (fun x hx => by
    obtain ⟨y, _, rfl⟩ := List.mem_map.1 hx
    rfl) (by unfold maxLen; omega) (by omega) hb
  exact ⟨u', w', hr, by unfold OwnInts; rw [List.length_append, intsV_append]; exact ho, hg, hbb⟩
theorem OwnInts.appendS {w : World} {B : Nat} {u : Value} {l m : List Int} {A : Option Addr} {c : Nat} (ty : TypeId) (h : OwnInts w B u l) (hv : IntsAt w (.slice A m.length c) m) (hlen : l.length + m.length ≤ 100000000) (hb : B ≤ w.heap.size) :
    ∃ u' w', (Builtin.append_ #[25, 25] ty #[u, .slice A m.length c]).run Tryd.prog w = .ok u' w' ∧ OwnInts w' B u' (l ++ m) ∧ w.grownBy w' u.ownBlock := by
  obtain ⟨v', w', hr, h2, h3, _⟩ := OwnInts.append2 ty h hv hlen hb
  exact ⟨v', w', hr, h2, h3⟩
theorem ints_one (v : World) (x : Int) : IntsAt (v.alloc (.cells #[.int .i64 x] 3)) (.slice (some ⟨v.heap.size, 0, none⟩) 1 1) [x] := by
  refine ⟨_, 1, rfl, fun _ => ⟨v.heap.size, 0, rfl, by simp, fun j p hj => ?_⟩⟩
  match j with
  | 0 => simp at hj; subst hj; exact blk_cell (blk_new v _) 0 _ rfl
  | j + 1 => simp at hj
/-- Two slices that lie in blocks of their own. -/
def Apart (d r : Value) : Prop := d.ownBlock = none ∨ d.ownBlock ≠ r.ownBlock
theorem Apart.symm' {d r : Value} (h : Apart d r) : Apart r d := by
  unfold Apart at *
  cases hr : r.ownBlock with
  | none => exact .inl rfl
  | some k =>
    right
    rcases h with h | h
    · rw [h]; simp
    · rw [hr] at h; exact Ne.symm h
/-- A slice that grows lies where it lay, or in a new block. -/
theorem Apart.grows {w w' : World} {d u r : Value} (h : Apart d r) (hu : u.ownBlock = d.ownBlock ∨ ∀ k, u.ownBlock = some k → w.heap.size ≤ k) (hr : ∀ k, r.ownBlock = some k → k < w.heap.size) : Apart u r := by
  unfold Apart at *
  rcases hu with hu | hu
  · rw [hu]; exact h
  · cases huk : u.ownBlock with
    | none => exact .inl rfl
    | some k =>
      right
      intro he
      have h1 := hu k huk
      have h2 := hr k he.symm
      omega

end Go.Proofs.YtaeollnaigphlaaDoor
