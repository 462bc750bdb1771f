/-
  Several texts in one: Ls, Si.
-/
import Derived.Test.YtbcclhahpcbadaaK01
import Derived.Deep.Slices
import Derived.Deep.Fields
import Derived.ChangeSame
import Derived.SliceStrings
import Derived.Test.YtbcclhahpcbadaaK18
/-
  Arguments that are slices of structs, opened to cells.
-/
set_option linter.unusedVariables false
set_option linter.unusedSimpArgs false
namespace Go.Proofs.Ytbcclhahpcbadaa
open Go.ChangeShapes Go.WideShapes Go.Deep Go.RowKit
section
variable {H : Type} {enc : TypeId × Value → H} {P : Program} {w : World} {base : Nat} {spare : Nat → Bool} {held : Bool}
theorem open_slice_fields {t e : TypeId} {fs : Array Field} {fuel : Nat} {cs : List Value} {x : DataW H × List MemPlace} (ht : P.underlying t = some (.slice e)) (he : P.underlying e = some (.struct fs))
    (hone : oneCellFields P fs = true) (hC : P.cellsOf e = fs.size) (h : DataW.trod enc P w base spare held fuel t cs = some x) :
    (cs = [.slice none 0 0] ∧ x = (.nil, [])) ∨
    ∃ (a : Addr) (len cap m : Nat) (D : Nat → DataW H) (Pl : Nat → List MemPlace), cs = [.slice (some a) len cap] ∧ base ≤ a.block ∧ len ≤ cap ∧ cap ≤ maxLen ∧ m = (if spare a.block then cap else len) ∧
      x = (.slice ((List.range len).map D) ((List.range (m - len)).map fun j => D (len + j)), MemPlace.row a (m * fs.size) ++ (List.range m).flatMap Pl) ∧
      ∀ i, i < m → ∃ (ys : List (DataW H × List MemPlace)) (n : Nat), D i = .agg (ys.map (·.1)) ∧ Pl i = ys.flatMap (·.2) ∧ ys.length = fs.size ∧
        ∀ (j : Nat) (f : Field), fs[j]? = some f → ∃ (v : Value) (y : DataW H × List MemPlace), w.cell? (a.add (i * fs.size + j)) = some v ∧ ys[j]? = some y ∧ DataW.trod enc P w base spare held n f.type [v] = some y := by
  rcases open_slice ht h with h0 | ⟨a, len, cap, m, n, D, Pl, hcs, hb, hl, hm, hmm, hx, hi⟩
  · exact .inl h0
  · refine .inr ⟨a, len, cap, m, D, Pl, hcs, hb, hl, hm, hmm, by rw [hC] at hx; exact hx, fun i him => ?_⟩
    obtain ⟨cs', hc, ht'⟩ := hi i him
    rw [hC] at hc
    obtain ⟨ys, n', hn', hy, hlen, hyl, hf⟩ := DataW.trod_struct he ht'
    obtain ⟨_, hcl, hat⟩ := World.cells?_some hc
    simp only [Prod.mk.injEq] at hy
    refine ⟨ys, n', hy.1, hy.2, hyl, fun j f hj => ?_⟩
    obtain ⟨ho, hk⟩ := hone_of hone j f hj
    have hjl : j < fs.size := (Array.getElem?_eq_some_iff.1 hj).1
    have hcell := hat j hjl
    have hv : cs'[j]? = some (cs'[j]'(by omega)) := List.getElem?_eq_getElem (by omega)
    have h1 := hf j f hj
    rw [ho, hk] at h1
    have hone' : (cs'.drop j).take 1 = [cs'[j]'(by omega)] := by
      rw [List.drop_eq_getElem_cons (by omega)]
      rfl
    rw [hone'] at h1
    have hys : ys[j]? = some (ys[j]'(by omega)) := List.getElem?_eq_getElem (by omega)
    refine ⟨_, _, ?_, hys, h1.trans hys⟩
    rw [← Go.Deep.add_add, hcell, hv]

/-- The number in a cell. -/
def numIn : Option Value → Int
  | some (.int _ n) => n
  | _ => 0

theorem open_pairs {t e : TypeId} {f0 f1 : Field} {fuel len cap : Nat} {A : Option Addr} {x : DataW H × List MemPlace} (ht : P.underlying t = some (.slice e)) (he : P.underlying e = some (.struct #[f0, f1]))
    (hone : oneCellFields P #[f0, f1] = true) (hC : P.cellsOf e = 2) (t0 : P.underlying f0.type = some (.int .i64)) (t1 : P.underlying f1.type = some (.int .i64))
    (h : DataW.trod enc P w base (fun _ => true) held fuel t [.slice A len cap] = some x) :
    len ≤ maxLen ∧ ∃ f : Nat → Int × Int, 0 < len → ∃ b o, A = some ⟨b, o, none⟩ ∧ b < w.heap.size ∧ ∀ j, j < len → w.cell? ⟨b, o + j * 2, none⟩ = some (.int .i64 (f j).1) ∧ w.cell? ⟨b, o + j * 2 + 1, none⟩ = some (.int .i64 (f j).2) ∧
      (-9223372036854775808 ≤ (f j).1 ∧ (f j).1 ≤ 9223372036854775807) ∧ -9223372036854775808 ≤ (f j).2 ∧ (f j).2 ≤ 9223372036854775807 := by
  rcases open_slice_fields ht he hone hC h with ⟨h0, _⟩ | ⟨a, l, c, m, D, Pl, hcs, _, hl, hm, hmm, _, hi⟩
  · simp at h0
    obtain ⟨rfl, rfl, rfl⟩ := h0
    exact ⟨by simp [maxLen], fun _ => (0, 0), fun h => by omega⟩
  · simp at hcs
    obtain ⟨rfl, rfl, rfl⟩ := hcs
    have hmc : m = cap := by simpa using hmm
    subst hmc
    refine ⟨by omega, fun j => (numIn (w.cell? (a.add (j * 2))), numIn (w.cell? (a.add (j * 2 + 1)))), fun hpos => ?_⟩
    have key : ∀ j, j < len → (∃ n, w.cell? (a.add (j * 2)) = some (.int .i64 n) ∧ -9223372036854775808 ≤ n ∧ n ≤ 9223372036854775807) ∧ (∃ n, w.cell? (a.add (j * 2 + 1)) = some (.int .i64 n) ∧ -9223372036854775808 ≤ n ∧ n ≤ 9223372036854775807) := fun j hj => by
      obtain ⟨ys, n, _, _, _, hf⟩ := hi j (by omega)
      obtain ⟨v0, y0, c0, _, h0⟩ := hf 0 f0 rfl
      obtain ⟨v1, y1, c1, _, h1⟩ := hf 1 f1 rfl
      obtain ⟨n0, e0, _, w0⟩ := DataW.trod_int t0 h0
      obtain ⟨n1, e1, _, w1⟩ := DataW.trod_int t1 h1
      simp at e0 e1
      subst e0 e1
      exact ⟨⟨n0, by simpa using c0, bounds_i64 w0⟩, ⟨n1, by simpa using c1, bounds_i64 w1⟩⟩
    obtain ⟨b, o, spot⟩ := a
    have hspot : spot = none := by
      obtain ⟨⟨n, hn, _⟩, _⟩ := key 0 hpos
      simpa [Addr.add] using World.cell?_spot hn
    subst hspot
    refine ⟨b, o, rfl, ?_, fun j hj => ?_⟩
    · obtain ⟨⟨n, hn, _⟩, _⟩ := key 0 hpos
      rw [Addr.add_lit] at hn
      exact block_lt_of_cell hn
    · obtain ⟨⟨n, hn, b0, b1⟩, ⟨m, hm, d0, d1⟩⟩ := key j hj
      rw [Addr.add_lit] at hn hm
      rw [← Nat.add_assoc] at hm
      simp only [Addr.add_lit, ← Nat.add_assoc]
      rw [hn, hm]
      exact ⟨rfl, rfl, ⟨b0, b1⟩, d0, d1⟩
theorem open_texts {t e : TypeId} {fuel len cap : Nat} {A : Option Addr} {x : DataW H × List MemPlace} (ht : P.underlying t = some (.slice e)) (he : P.underlying e = some .string) (hC : P.cellsOf e = 1)
    (h : DataW.trod enc P w base (fun _ => true) held fuel t [.slice A len cap] = some x) :
    len ≤ maxLen ∧ ∃ ts : List ByteArray, ts.length = len ∧ (0 < len → ∃ b o, A = some ⟨b, o, none⟩ ∧ b < w.heap.size ∧ ∀ j t, ts[j]? = some t → w.cell? ⟨b, o + j, none⟩ = some (.string t)) := by
  rcases open_strings ht he hC h with ⟨h0, _⟩ | ⟨a, l, c, ss, hcs, _, hl, hm, hss, _, hc, hsz⟩
  · simp at h0
    obtain ⟨rfl, rfl, rfl⟩ := h0
    exact ⟨by simp [maxLen], [], rfl, fun h => by omega⟩
  · simp at hcs
    obtain ⟨rfl, rfl, rfl⟩ := hcs
    have hlen : ss.length = cap := by simpa using hss
    refine ⟨by omega, ss.take len, by rw [List.length_take]; omega, fun hpos => ?_⟩
    obtain ⟨b, o, spot⟩ := a
    have hspot : spot = none := by simpa [Addr.add] using World.cell?_spot (hc 0 (by omega))
    subst hspot
    have hc' : ∀ j, j < ss.length → w.cell? ⟨b, o + j, none⟩ = some (.string (ss.getD j ByteArray.empty)) := fun j hj => by
      have := hc j hj; rwa [Addr.add_lit] at this
    refine ⟨b, o, rfl, block_lt_of_cell (hc' 0 (by omega)), fun j t hj => ?_⟩
    rw [List.getElem?_take] at hj
    split at hj
    · rw [hc' j (by omega), List.getD, hj]
      rfl
    · simp at hj
end
end Go.Proofs.Ytbcclhahpcbadaa
/-
  Arguments that are slices of timers, opened; the walk of the statement SleepNext.
-/
set_option linter.unusedVariables false
set_option linter.unusedSimpArgs false
namespace Go.Proofs.Ytbcclhahpcbadaa
open Go.RowKit

open Go.ChangeShapes Go.WideShapes Go.Deep in
theorem open_timers {H : Type} {enc : TypeId × Value → H} {P : Program} {w : World} {base : Nat} {held : Bool} {t e : TypeId} {f0 f1 : Field} {fuel len cap : Nat} {A : Option Addr} {x : DataW H × List MemPlace} (ht : P.underlying t = some (.slice e)) (he : P.underlying e = some (.struct #[f0, f1]))
    (hone : oneCellFields P #[f0, f1] = true) (hC : P.cellsOf e = 2) (t0 : P.underlying f0.type = some (.int .i64)) (t1 : P.underlying f1.type = some (.int .i64))
    (h : DataW.trod enc P w base (fun _ => true) held fuel t [.slice A len cap] = some x) :
    len ≤ maxLen ∧ ∃ xs : List (Int × Int), xs.length = len ∧ PairsAt w (.slice A len cap) xs ∧ ∀ p ∈ xs, i64ok p.1 ∧ i64ok p.2 := by
  rcases open_slice_fields ht he hone hC h with ⟨h0, _⟩ | ⟨a, l, c, m, D, Pl, hcs, _, hl, hm, hmm, _, hi⟩
  · simp at h0
    obtain ⟨rfl, rfl, rfl⟩ := h0
    exact ⟨by simp [maxLen], [], rfl, pairs_none _, by simp⟩
  · simp at hcs
    obtain ⟨rfl, rfl, rfl⟩ := hcs
    have hmc : m = cap := by simpa using hmm
    subst hmc
    have key : ∀ j, j < len → ∃ p : Int × Int, w.cell? (a.add (j * 2)) = some (.int .i64 p.1) ∧ w.cell? (a.add (j * 2 + 1)) = some (.int .i64 p.2) ∧ i64ok p.1 ∧ i64ok p.2 := fun j hj => by
      obtain ⟨ys, n, _, _, _, hf⟩ := hi j (by omega)
      obtain ⟨v0, y0, c0, _, h0⟩ := hf 0 f0 rfl
      obtain ⟨v1, y1, c1, _, h1⟩ := hf 1 f1 rfl
      obtain ⟨n0, e0, _, w0⟩ := DataW.trod_int t0 h0
      obtain ⟨n1, e1, _, w1⟩ := DataW.trod_int t1 h1
      simp at e0 e1
      subst e0 e1
      exact ⟨(n0, n1), by simpa using c0, by simpa using c1, bounds_i64 w0, bounds_i64 w1⟩
    refine ⟨by omega, (List.range len).map fun j => if h : j < len then (key j h).choose else (0, 0), by simp, ⟨some a, m, by simp, by simpa using hl, fun hpos => ?_⟩, ?_⟩
    · obtain ⟨b, o, spot⟩ := a
      have hl0 : 0 < len := by simpa using hpos
      have hspot : spot = none := by
        obtain ⟨_, hc0, _⟩ := key 0 hl0
        simpa [Addr.add] using World.cell?_spot hc0
      subst hspot
      refine ⟨b, o, rfl, ?_, fun j p hj => ?_⟩
      · obtain ⟨_, hc0, _⟩ := key 0 hl0
        rw [Addr.add_lit] at hc0
        exact block_lt_of_cell hc0
      · rw [List.getElem?_map] at hj
        have hjl : j < len := by
          rcases Nat.lt_or_ge j len with h | h
          · exact h
          · rw [List.getElem?_eq_none (by simpa using h)] at hj; simp at hj
        rw [List.getElem?_range hjl] at hj
        simp only [Option.map_some, Option.some.injEq, hjl, dif_pos] at hj
        obtain ⟨k0, k1, _⟩ := (key j hjl).choose_spec
        rw [hj] at k0 k1
        rw [Addr.add_lit] at k0 k1
        exact ⟨k0, by rw [← Nat.add_assoc] at k1; exact k1⟩
    · intro p hp
      obtain ⟨i, hi', rfl⟩ := List.mem_map.1 hp
      have hil := List.mem_range.1 hi'
      rw [dif_pos hil]
      exact (key i hil).choose_spec.2.2
theorem Sl.head_le {p : Int × Int} {l : List (Int × Int)} (h : Sl.May (p :: l)) : ∀ q ∈ p :: l, p.1 ≤ q.1 := by
  intro q hq
  rcases List.mem_cons.1 hq with rfl | hq
  · exact Int.le_refl _
  · have := (List.pairwise_cons.1 h.2.1).1 q hq
    unfold Sl.lt at this
    omega
theorem Sl.due_head {p : Int × Int} {l : List (Int × Int)} : 0 < (Sl.due (p :: l) p.1).length ∧ Sl.due (p :: l) (p.1 - 1) = [] := by
  have h1 : 1 ≤ Sl.many (p :: l) p.1 := Sl.many_next (k := 0) (Nat.zero_le _) rfl (Int.le_refl _)
  have h2 := Sl.many_le (p :: l) p.1
  have h3 : 0 = Sl.many (p :: l) (p.1 - 1) := Sl.many_eq (k := 0) (Nat.zero_le _) fun q hq => by simp at hq; subst hq; omega
  refine ⟨?_, ?_⟩
  · unfold Sl.due
    rw [List.length_map, List.length_take]; omega
  · unfold Sl.due
    rw [← h3]; rfl
end Go.Proofs.Ytbcclhahpcbadaa
