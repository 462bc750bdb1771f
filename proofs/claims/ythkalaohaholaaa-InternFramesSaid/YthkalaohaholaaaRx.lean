/-
  Records in slices that were the call's own ahead of a drawn region (or nil), appended to in it. No function of the program is named.
-/
import Derived.Test.YthkalaohaholaaaRz
import Derived.Test.YthkalaohaholaaaGc
set_option linter.unusedVariables false
set_option linter.unusedSimpArgs false
namespace Go.Proofs.Ythkalaohaholaaa
open Go.RowKit

section
variable {α : Type} {m : Nat} {f : α → List Value} {w w' : World} {v : Value} {xs ys : List α} {e : TypeId} {B : Nat}
theorem OwnRows.low {M : Nat} (h : OwnRows e m f w B v xs) (hl : LowSame M w w') (hlt : ∀ k, v.ownBlock = some k → k < M) : OwnRows e m f w' B v xs := by
  refine ⟨h.1, ?_⟩
  rcases h.2 with h1 | ⟨g, cap, cur, rfl, hb, hg, rest⟩
  · exact .inl h1
  · exact .inr ⟨g, cap, cur, rfl, hb, (hl g (hlt g rfl)).trans hg, rest⟩
/-- The block that such a slice lies in; another one where it lies in none. -/
theorem OwnRows.block (h : OwnRows e m f w B v xs) (n : Nat) (hn : B ≤ n ∧ n < w.heap.size) : ∃ g, B ≤ g ∧ g < w.heap.size ∧ ∀ k, v.ownBlock = some k → k = g := by
  cases hv : v.ownBlock with
  | none => exact ⟨n, hn.1, hn.2, fun k hk => by cases hk⟩
  | some k => have := h.lt k hv; exact ⟨k, this.1, this.2, fun j hj => by cases hj; rfl⟩
theorem OwnRows.appendZ {P : Program} {t : TypeId} (ty : TypeId) {bytes : Nat} {i : TypeInfo} {z : Value} (ht : P.underlying t = some (.slice e)) (hi : P.info? e = some i) (hz : i.zero = some z) (hsize : i.size = m) (hby : i.bytes = bytes) (hzs : z.cells.size = m) (hsz : 0 < m)
    (hf : ∀ x, (f x).length = m) (h1 : ∀ x, ∀ u ∈ f x, u.oneCell' = true) {w0 : World} {g : Nat} (h0 : Ext w0 w) (h : OwnRows e m f w w0.heap.size v xs) (hg : ∀ k, v.ownBlock = some k → k = g) {A : Option Addr} {k c : Nat} (hk : k = ys.length) (hv : RowsAt m f w (.slice A k c) ys) (h63 : xs.length + ys.length ≤ maxLen) (hbytes : (xs.length + ys.length) * bytes ≤ 140737488355328) :
    ∃ v' w', (Builtin.append_ #[t, t] ty #[v, .slice A k c]).run P w = .ok v' w' ∧ (∃ A' c', v' = .slice A' (xs.length + ys.length) c') ∧ OwnRows e m f w' w0.heap.size v' (xs ++ ys) ∧ Upd g w w' ∧ OwnRows e m f w' w0.heap.size v xs := by
  have hin : InB [⟨v, g, g + 1⟩] v := fun k hk => ⟨⟨v, g, g + 1⟩, by simp, by have := hg k hk; simp only; omega, by have := hg k hk; simp only; omega⟩
  obtain ⟨v', w', hr, hform, ho, hc, _⟩ := RowG.append (P := P) ty ht hi hz hsize hby hzs hsz hf h1 h0 (M := w0.heap.size) ⟨h, hin⟩ (Nat.le_refl _) h0.size hk hv h63 hbytes
  refine ⟨v', w', hr, hform, ho.1, ⟨hc.new.os.trans hc.old.os.symm, hc.new.tape.trans hc.old.tape.symm, hc.new.output.trans hc.old.output.symm, hc.size, fun b hb hne => hc.same b hb fun g' hg' => ?_⟩, hc.owns h (Nat.le_refl _)⟩
  simp only [List.mem_cons, List.not_mem_nil, or_false] at hg'
  subst hg'
  simp only
  have : b ≠ g := fun e => hne (by rw [e])
  omega
/-- One record of a region's own, in a block from M on. -/
def OneRow (M : Nat) (e : TypeId) (f : α → List Value) (w : World) (v : Value) (x : α) : Prop := ∃ b, v = .slice (some ⟨b, 0, none⟩) 1 1 ∧ M ≤ b ∧ w.heap[b]? = some (.cells (f x).toArray e (0, 0))
theorem OneRow.ext {M : Nat} {x : α} (h : OneRow M e f w v x) (hx : Ext w w') : OneRow M e f w' v x := by
  obtain ⟨b, h1, h2, h3⟩ := h
  exact ⟨b, h1, h2, hx.blk h3⟩
theorem OneRow.updz {M g : Nat} {x : α} (h : OneRow M e f w v x) (hu : Upd g w w') (hg : g < M) : OneRow M e f w' v x := by
  obtain ⟨b, h1, h2, h3⟩ := h
  exact ⟨b, h1, h2, hu.blk h3 (by omega)⟩
theorem OneRow.made {M : Nat} (hM : M ≤ w.heap.size) (x : α) : OneRow M e f (w.alloc (.cells (f x).toArray e)) (.slice (some ⟨w.heap.size, 0, none⟩) 1 1) x := ⟨_, rfl, hM, blk_new w _⟩
theorem OneRow.rows {M : Nat} {x : α} (h : OneRow M e f w v x) : RowsAt (f x).length f w v [x] := by
  obtain ⟨b, rfl, h2, h3⟩ := h
  refine ⟨_, _, rfl, Nat.le_refl _, fun _ => ⟨b, 0, rfl, blk_lt h3, fun j y hj i u hu => ?_⟩⟩
  have hj0 : j = 0 := by have := (List.getElem?_eq_some_iff.1 hj).1; simpa using this
  subst hj0
  simp only [List.getElem?_cons_zero, Option.some.injEq] at hj
  subst hj
  rw [Nat.zero_mul, Nat.add_zero, Nat.zero_add]
  exact blk_cell h3 i u (by simpa using hu)
end

end Go.Proofs.Ythkalaohaholaaa
