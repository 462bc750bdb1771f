/-
  Slices whose cells lie in a given range of blocks; slices of slices of records. No function of the program is named.
-/
import Derived.Test.YthkalaohaholaaaGc
import Derived.Test.YthkalaohaholaaaGe
set_option linter.unusedVariables false
set_option linter.unusedSimpArgs false
namespace Go.Proofs.Ythkalaohaholaaa
open Go.RowKit

/-- Only blocks of S, and new ones, may have changed. -/
structure But (S : Nat → Prop) (w w' : World) : Prop where
  os : w'.os = w.os
  tape : w'.tape = w.tape
  output : w'.output = w.output
  size : w.heap.size ≤ w'.heap.size
  block : ∀ i, i < w.heap.size → ¬ S i → w'.heap[i]? = w.heap[i]?
section
variable {S T : Nat → Prop} {a b c : World}
theorem But.refl (S : Nat → Prop) (w : World) : But S w w := ⟨rfl, rfl, rfl, Nat.le_refl _, fun _ _ _ => rfl⟩
theorem But.trans (h : But S a b) (k : But S b c) : But S a c :=
  ⟨k.os.trans h.os, k.tape.trans h.tape, k.output.trans h.output, Nat.le_trans h.size k.size, fun i hi hn => (k.block i (Nat.lt_of_lt_of_le hi h.size) hn).trans (h.block i hi hn)⟩
theorem But.wide (h : But S a b) (hs : ∀ i, i < a.heap.size → S i → T i) : But T a b := ⟨h.os, h.tape, h.output, h.size, fun i hi hn => h.block i hi fun e => hn (hs i hi e)⟩
theorem But.ext (h : Ext a b) : But S a b := ⟨h.os, h.tape, h.output, h.size, fun i hi _ => h.block i hi⟩
theorem But.upd {g : Nat} (h : Upd g a b) (hg : S g) : But S a b := ⟨h.os, h.tape, h.output, h.size, fun i hi hn => h.block i hi fun e => hn (by injection e with e; subst e; exact hg)⟩
theorem But.toExt (h : But S a b) (hs : ∀ i, i < a.heap.size → ¬ S i) : Ext a b := ⟨h.os, h.tape, h.output, h.size, fun i hi => h.block i hi (hs i hi)⟩
theorem But.after {w : World} (h : Ext w a) (k : But S a b) (hs : ∀ i, S i → w.heap.size ≤ i) : Ext w b :=
  ⟨k.os.trans h.os, k.tape.trans h.tape, k.output.trans h.output, Nat.le_trans h.size k.size, fun i hi => (k.block i (Nat.lt_of_lt_of_le hi h.size) fun e => by have := hs i e; omega).trans (h.block i hi)⟩
theorem But.blk {o : Obj} {i : Nat} (h : But S a b) (hb : a.heap[i]? = some o) (hn : ¬ S i) : b.heap[i]? = some o := (h.block i (blk_lt hb) hn).trans hb
theorem But.cell {i o : Nat} (h : But S a b) (hi : i < a.heap.size) (hn : ¬ S i) : b.cell? ⟨i, o, none⟩ = a.cell? ⟨i, o, none⟩ := World.cell?_of_block (h.block i hi hn)
end
/-- A slice of records, its cells in blocks from L on below H. -/
def RowsIn {α : Type} (L H m : Nat) (f : α → List Value) (w : World) (v : Value) (xs : List α) : Prop :=
  ∃ A c, v = .slice A xs.length c ∧ xs.length ≤ c ∧ (0 < xs.length → ∃ b o, A = some ⟨b, o, none⟩ ∧ L ≤ b ∧ b < H ∧ b < w.heap.size ∧ ∀ j x, xs[j]? = some x → ∀ i u, (f x)[i]? = some u → w.cell? ⟨b, o + j * m + i, none⟩ = some u)
section
variable {α : Type} {L H m : Nat} {f : α → List Value} {w w' : World} {v : Value} {xs : List α}
theorem RowsIn.rows (h : RowsIn L H m f w v xs) : RowsAt m f w v xs := by
  obtain ⟨A, c, rfl, hc, hA⟩ := h
  exact ⟨A, c, rfl, hc, fun h0 => by obtain ⟨b, o, h1, _, _, h2, h3⟩ := hA h0; exact ⟨b, o, h1, h2, h3⟩⟩
theorem RowsIn.but {S : Nat → Prop} (h : RowsIn L H m f w v xs) (k : But S w w') (hs : ∀ b, L ≤ b → b < H → ¬ S b) : RowsIn L H m f w' v xs := by
  obtain ⟨A, c, rfl, hc, hA⟩ := h
  refine ⟨A, c, rfl, hc, fun h0 => ?_⟩
  obtain ⟨b, o, h1, h2, h3, h4, h5⟩ := hA h0
  exact ⟨b, o, h1, h2, h3, Nat.lt_of_lt_of_le h4 k.size, fun j x hj i u hu => by rw [k.cell h4 (hs b h2 h3)]; exact h5 j x hj i u hu⟩
theorem RowsIn.ext (h : RowsIn L H m f w v xs) (k : Ext w w') : RowsIn L H m f w' v xs := h.but (S := fun _ => False) (But.ext k) fun _ _ _ h => h
theorem RowsIn.mono {L' H' : Nat} (h : RowsIn L H m f w v xs) (hl : L' ≤ L) (hh : H ≤ H') : RowsIn L' H' m f w v xs := by
  obtain ⟨A, c, rfl, hc, hA⟩ := h
  exact ⟨A, c, rfl, hc, fun h0 => by obtain ⟨b, o, h1, h2, h3, h4, h5⟩ := hA h0; exact ⟨b, o, h1, by omega, by omega, h4, h5⟩⟩
theorem RowsIn.nil (w : World) (A : Option Addr) (c : Nat) : RowsIn (α := α) L H m f w (.slice A 0 c) [] := ⟨A, c, rfl, Nat.zero_le _, fun h => by simp at h⟩
theorem OwnRows.rowsIn {e : TypeId} {B : Nat} (hf : ∀ x, (f x).length = m) (h : OwnRows e m f w B v xs) : RowsIn B w.heap.size m f w v xs := by
  obtain ⟨A, c, rfl, hc, hA⟩ := OwnRows.rows hf h
  refine ⟨A, c, rfl, hc, fun h0 => ?_⟩
  obtain ⟨b, o, rfl, h2, h3⟩ := hA h0
  have h1 : (Value.slice (some ⟨b, o, none⟩) xs.length c).ownBlock = some b := rfl
  exact ⟨b, o, rfl, (h.lt b h1).1, h2, h2, h3⟩
theorem RowsAt.cell {A : Option Addr} {n c : Nat} (h : RowsAt m f w (.slice A n c) xs) (hn : 0 < xs.length) : ∃ b o, A = some ⟨b, o, none⟩ ∧ b < w.heap.size ∧ ∀ j x, xs[j]? = some x → ∀ i u, (f x)[i]? = some u → w.cell? ⟨b, o + j * m + i, none⟩ = some u := by
  obtain ⟨A', c', hv, _, hA⟩ := h
  simp only [Value.slice.injEq] at hv
  obtain ⟨rfl, _, _⟩ := hv
  exact hA hn
theorem RowsAt.rowsIn (h : RowsAt m f w v xs) : RowsIn 0 w.heap.size m f w v xs := by
  obtain ⟨A, c, rfl, hc, hA⟩ := h
  exact ⟨A, c, rfl, hc, fun h0 => by obtain ⟨b, o, h1, h2, h3⟩ := hA h0; exact ⟨b, o, h1, Nat.zero_le _, h2, h2, h3⟩⟩
end
def oneL (v : Value) : List Value := [v]
theorem oneL_len (v : Value) : (oneL v).length = 1 := rfl
/-- A slice of slices of records. -/
def NestAt {α : Type} (m : Nat) (f : α → List Value) (w : World) (v : Value) (xss : List (List α)) : Prop :=
  ∃ vs : List Value, vs.length = xss.length ∧ RowsAt 1 oneL w v vs ∧ ∀ (i : Nat) u xs, vs[i]? = some u → xss[i]? = some xs → RowsAt m f w u xs
def NestIn {α : Type} (L H m : Nat) (f : α → List Value) (w : World) (v : Value) (xss : List (List α)) : Prop :=
  ∃ vs : List Value, vs.length = xss.length ∧ RowsIn L H 1 oneL w v vs ∧ ∀ (i : Nat) u xs, vs[i]? = some u → xss[i]? = some xs → RowsIn L H m f w u xs
section
variable {α : Type} {L H m : Nat} {f : α → List Value} {w w' : World} {v : Value} {xss : List (List α)}
theorem NestAt.ext (h : NestAt m f w v xss) (k : Ext w w') : NestAt m f w' v xss := by
  obtain ⟨vs, h1, h2, h3⟩ := h
  exact ⟨vs, h1, h2.ext k, fun i u xs a b => (h3 i u xs a b).ext k⟩
theorem NestIn.nest (h : NestIn L H m f w v xss) : NestAt m f w v xss := by
  obtain ⟨vs, h1, h2, h3⟩ := h
  exact ⟨vs, h1, h2.rows, fun i u xs a b => (h3 i u xs a b).rows⟩
theorem NestIn.but {S : Nat → Prop} (h : NestIn L H m f w v xss) (k : But S w w') (hs : ∀ b, L ≤ b → b < H → ¬ S b) : NestIn L H m f w' v xss := by
  obtain ⟨vs, h1, h2, h3⟩ := h
  exact ⟨vs, h1, h2.but k hs, fun i u xs a b => (h3 i u xs a b).but k hs⟩
theorem NestIn.ext (h : NestIn L H m f w v xss) (k : Ext w w') : NestIn L H m f w' v xss := h.but (S := fun _ => False) (But.ext k) fun _ _ _ h => h
theorem NestAt.form (h : NestAt m f w v xss) : ∃ A c, v = .slice A xss.length c ∧ xss.length ≤ c := by
  obtain ⟨vs, h1, h2, _⟩ := h
  rw [← h1]; exact h2.form
/-- One of the inner slices. -/
theorem NestAt.one {A : Option Addr} {n c : Nat} (h : NestAt m f w (.slice A n c) xss) {i : Nat} {xs : List α} (hi : xss[i]? = some xs) : ∃ b o u, A = some ⟨b, o, none⟩ ∧ b < w.heap.size ∧ w.cell? ⟨b, o + i, none⟩ = some u ∧ RowsAt m f w u xs := by
  obtain ⟨vs, h1, h2, h3⟩ := h
  have hl : i < xss.length := (List.getElem?_eq_some_iff.1 hi).1
  have hv : vs[i]? = some vs[i] := List.getElem?_eq_getElem (by omega)
  obtain ⟨b, o, hA, hb, hc⟩ := h2.cell (by omega)
  have := hc i _ hv 0 _ rfl
  rw [Nat.mul_one, Nat.add_zero] at this
  exact ⟨b, o, _, hA, hb, this, h3 i _ xs hv hi⟩
theorem NestAt.lens {A : Option Addr} {n c : Nat} (h : NestAt m f w (.slice A n c) xss) : n = xss.length := by
  obtain ⟨A', c', hv, _⟩ := h.form
  simp only [Value.slice.injEq] at hv
  exact hv.2.1
end

end Go.Proofs.Ythkalaohaholaaa
