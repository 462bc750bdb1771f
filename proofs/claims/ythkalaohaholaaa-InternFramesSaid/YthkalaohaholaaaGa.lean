/-
  Laws on memory that name no function of the program: blocks that stay, numbers in slices, slices of the call's own.
-/
import Derived.Test.YthkalaohaholaaaLa
import Derived.Test.YthkalaohaholaaaLp
import Derived.Deep.AppendLies
import Derived.Deep.QuietTactic
import Derived.BigQuiet
set_option linter.unusedVariables false
set_option linter.unusedSimpArgs false
namespace Go.Proofs.Ythkalaohaholaaa
open Go.RowKit

theorem Ext.box {w v : World} {cs : Array Value} {t : TypeId} (h : Ext (w.alloc (.cells cs t)) v) (i : Nat) (x : Value) (hx : cs[i]? = some x) : v.cell? ⟨w.heap.size, i, none⟩ = some x := by
  rw [Below.cell h (by simp), World.cell?_alloc_new]
  simp [hx]
/-- Only block g may have changed. -/
def Upd (g : Nat) (w w' : World) : Prop := w.grownBy w' (some g)
theorem Upd.refl (g : Nat) (w : World) : Upd g w w := World.grownBy.refl w _
theorem Upd.trans {g : Nat} {a b c : World} (h : Upd g a b) (k : Upd g b c) : Upd g a c :=
  ⟨k.os.trans h.os, k.tape.trans h.tape, k.output.trans h.output, Nat.le_trans h.size k.size, fun i hi hne => (k.block i (Nat.lt_of_lt_of_le hi h.size) hne).trans (h.block i hi hne)⟩
theorem Upd.drew {g : Nat} {a b : World} (h : Upd g a b) : Upd g a b.drew := ⟨h.os, h.tape, h.output, h.size, h.block⟩
theorem Upd.drewN {g : Nat} {a b : World} (h : Upd g a b) (n : Nat) : Upd g a (b.drewN n) := ⟨h.os, h.tape, h.output, h.size, h.block⟩
theorem Upd.ext {g : Nat} {a b : World} (h : Ext a b) : Upd g a b := ⟨h.os, h.tape, h.output, h.size, fun i hi _ => h.block i hi⟩
theorem Upd.set {g : Nat} {a b : World} (h : Upd g a b) (i : Nat) (u : Value) : Upd g a (b.setCell ⟨g, i, none⟩ u) :=
  h.trans ⟨rfl, rfl, rfl, by simp [World.setCell], fun k _ hne => Below.heap_setCell _ _ _ _ (by rintro rfl; exact hne rfl)⟩
theorem Ext.upd {g : Nat} {a b c : World} (h : Ext a b) (k : Upd g b c) (hg : a.heap.size ≤ g) : Ext a c :=
  Below.grown h k h.size (by intro k hk; injection hk with hk; omega)
theorem Ext.grownBy {w w' : World} (hx : Ext w w') : w.grownBy w' none := ⟨hx.os, hx.tape, hx.output, hx.size, fun k hk _ => hx.block k hk⟩
/-- Where one block alone turns every other one stays. -/
theorem Upd.blk {g b : Nat} {w w' : World} {o : Obj} (h : Upd g w w') (hb : w.heap[b]? = some o) (hne : b ≠ g) : w'.heap[b]? = some o :=
  (h.block b (Array.getElem?_eq_some_iff.1 hb).1 (fun e => hne (by injection e))).trans hb
theorem Ext.blk {b : Nat} {w w' : World} {o : Obj} (h : Ext w w') (hb : w.heap[b]? = some o) : w'.heap[b]? = some o :=
  (h.block b (Array.getElem?_eq_some_iff.1 hb).1).trans hb
theorem Upd.sz {g : Nat} {w w' : World} (h : Upd g w w') : w.heap.size ≤ w'.heap.size := h.size
/-- What turns alone g and blocks that were not there. -/
theorem Upd.more {g r : Nat} {a b c : World} (h : Upd g a b) (k : b.grownBy c (some r)) (hr : a.heap.size ≤ r) : Upd g a c :=
  ⟨k.os.trans h.os, k.tape.trans h.tape, k.output.trans h.output, Nat.le_trans h.size k.size, fun i hi hne => (k.block i (Nat.lt_of_lt_of_le hi h.size) (fun e => by injection e with e; omega)).trans (h.block i hi hne)⟩
theorem Upd.more' {g : Nat} {a b c : World} {row : Option Nat} (h : Upd g a b) (k : b.grownBy c row) (hr : ∀ r, row = some r → a.heap.size ≤ r) : Upd g a c :=
  ⟨k.os.trans h.os, k.tape.trans h.tape, k.output.trans h.output, Nat.le_trans h.size k.size, fun i hi hne => (k.block i (Nat.lt_of_lt_of_le hi h.size) (fun e => by have := hr i e.symm; omega)).trans (h.block i hi hne)⟩
theorem Upd.newset {g : Nat} {a b : World} (h : Upd g a b) {p : Addr} (hp : a.heap.size ≤ p.block) (u : Value) : Upd g a (b.setCell p u) :=
  ⟨h.os, h.tape, h.output, by simpa [World.setCell] using h.size, fun i hi hne => (Below.heap_setCell b p u i (by omega)).trans (h.block i hi hne)⟩
theorem setCell_row {a b : World} {g : Nat} (h : a.grownBy b (some g)) (i : Nat) (u : Value) : a.grownBy (b.setCell ⟨g, i, none⟩ u) (some g) :=
  ⟨h.os, h.tape, h.output, by simpa [World.setCell] using h.size, fun k hk hne => (Below.heap_setCell b ⟨g, i, none⟩ u k (fun e => hne (by rw [e]))).trans (h.block k hk hne)⟩
theorem blk_cell {w : World} {b : Nat} {cs : Array Value} {t : TypeId} {fr : Nat × Nat} (h : w.heap[b]? = some (.cells cs t fr)) (i : Nat) (x : Value) (hx : cs[i]? = some x) : w.cell? ⟨b, i, none⟩ = some x := by
  rw [cell_of_row w b i cs t fr h, hx]
theorem blk_lt {w : World} {b : Nat} {o : Obj} (h : w.heap[b]? = some o) : b < w.heap.size := (Array.getElem?_eq_some_iff.1 h).1
theorem blk_set {w : World} {b : Nat} {cs : Array Value} {t : TypeId} (h : w.heap[b]? = some (.cells cs t (0, 0))) (i : Nat) (u : Value) : (w.setCell ⟨b, i, none⟩ u).heap[b]? = some (.cells (cs.setIfInBounds i u) t (0, 0)) := heap_setCell_same w b i _ _ _ h
theorem blk_set_other {w : World} {b : Nat} {o : Obj} (h : w.heap[b]? = some o) (p : Addr) (hp : p.block ≠ b) (u : Value) : (w.setCell p u).heap[b]? = some o := (Below.heap_setCell w p u b (Ne.symm hp)).trans h
theorem blk_alloc {w : World} {b : Nat} {o : Obj} (h : w.heap[b]? = some o) (q : Obj) : (w.alloc q).heap[b]? = some o := (Below.heap_alloc w q b (blk_lt h)).trans h
theorem blk_new (w : World) (q : Obj) : (w.alloc q).heap[w.heap.size]? = some q := heap_alloc_new w q
/-- A slice of numbers. -/
def IntsAt (w : World) (v : Value) (xs : List Int) : Prop :=
  ∃ A c, v = .slice A xs.length c ∧ (0 < xs.length → ∃ b o, A = some ⟨b, o, none⟩ ∧ b < w.heap.size ∧ ∀ j x, xs[j]? = some x → w.cell? ⟨b, o + j, none⟩ = some (.int .i64 x))
theorem IntsAt.ext {w w' : World} {v : Value} {xs : List Int} (h : IntsAt w v xs) (hx : Ext w w') : IntsAt w' v xs := by
  obtain ⟨A, c, rfl, hA⟩ := h
  refine ⟨A, c, rfl, fun h0 => ?_⟩
  obtain ⟨b, o, hb, hlt, hc⟩ := hA h0
  exact ⟨b, o, hb, Nat.lt_of_lt_of_le hlt hx.size, fun j x hj => by rw [Below.cell hx hlt]; exact hc j x hj⟩
theorem IntsAt.grown {w w' : World} {A : Option Addr} {c : Nat} {xs : List Int} {row : Option Nat} (h : IntsAt w (.slice A xs.length c) xs) (hg : w.grownBy w' row) (hne : ∀ b o, 0 < xs.length → A = some ⟨b, o, none⟩ → some b ≠ row) : IntsAt w' (.slice A xs.length c) xs := by
  obtain ⟨A', c', hv, hA⟩ := h
  simp only [Value.slice.injEq, true_and] at hv
  obtain ⟨rfl, rfl⟩ := hv
  refine ⟨A, c, rfl, fun h0 => ?_⟩
  obtain ⟨b, o, rfl, hb, hc⟩ := hA h0
  exact ⟨b, o, rfl, Nat.lt_of_lt_of_le hb hg.size, fun j x hj => hg.cell (hc j x hj) (hne b o h0 rfl)⟩
theorem IntsAt.lt {w : World} {b o n c : Nat} {xs : List Int} (h : IntsAt w (.slice (some ⟨b, o, none⟩) n c) xs) (h0 : 0 < xs.length) : b < w.heap.size := by
  obtain ⟨A', c', hv, hA⟩ := h
  simp only [Value.slice.injEq] at hv
  obtain ⟨b', o', hb, hlt, _⟩ := hA h0
  rw [← hv.1] at hb
  simp only [Option.some.injEq, Addr.mk.injEq] at hb
  omega
theorem ints_set {w : World} {v : Value} {xs : List Int} (h : IntsAt w v xs) {g : Nat} (hg : ∀ A c b o, v = .slice A xs.length c → 0 < xs.length → A = some ⟨b, o, none⟩ → b ≠ g) (i : Nat) (u : Value) : IntsAt (w.setCell ⟨g, i, none⟩ u) v xs := by
  obtain ⟨A, c, rfl, h1⟩ := h
  refine ⟨A, c, rfl, fun h0 => ?_⟩
  obtain ⟨b, o, rfl, hb, hc⟩ := h1 h0
  have hne := hg _ _ b o rfl h0 rfl
  refine ⟨b, o, rfl, by simpa [World.setCell] using hb, fun j x hj => ?_⟩
  rw [← hc j x hj]
  exact World.cell?_of_block (Below.heap_setCell w ⟨g, i, none⟩ u b hne)
theorem ints_of_row {w : World} {a : Option Addr} {len cap : Nat} {zs : List Int} (h : IsRow .i64 w a len cap zs) : IntsAt w (.slice a len cap) (zs.take len) ∧ (zs.take len).length = len ∧ ∀ x ∈ zs.take len, (Lit.int .i64 x).wf = true := by
  rcases h with ⟨rfl, rfl, rfl, rfl⟩ | ⟨x, rfl, hl, hm, hz, hc, hw⟩
  · exact ⟨⟨none, 0, rfl, fun h => by simp at h⟩, rfl, fun x hx => by simp at hx⟩
  · have hlen : (zs.take len).length = len := by rw [List.length_take]; omega
    refine ⟨⟨some x, cap, by rw [hlen], fun h0 => ?_⟩, hlen, fun y hy => hw y (List.mem_of_mem_take hy)⟩
    rw [hlen] at h0
    obtain ⟨b, o, rfl, hc'⟩ := ints_at hc (by omega)
    refine ⟨b, o, rfl, block_lt_of_cell (hc' 0 (by omega)), fun j y hj => ?_⟩
    rw [List.getElem?_take] at hj
    split at hj
    · rename_i hjl
      rw [hc' j (by omega)]
      rw [List.getD, hj]
      rfl
    · simp at hj
theorem Try.infoInt : (Try.prog.info? 3).map (fun i => (i.zero, i.size, i.bytes)) = some (some (.int .i64 0), 1, 8) := by kernel_rfl
def intsV (xs : List Int) : List Value := xs.map (Value.int .i64)
/-- A slice of numbers of the call's own, in blocks from B on. -/
def OwnInts (w : World) (B : Nat) (v : Value) (xs : List Int) : Prop := w.ownsRow B 3 1 v xs.length (intsV xs)
theorem OwnInts.nil (w : World) (B : Nat) : OwnInts w B (.slice none 0 0) [] := ⟨by simp [intsV], .inl ⟨rfl, rfl⟩⟩
theorem OwnInts.kept {w w' : World} {B : Nat} {v : Value} {xs : List Int} {g : Nat} (h : OwnInts w B v xs) (hg : w.grownBy w' (some g)) (hlt : g < B) : OwnInts w' B v xs := by
  refine World.ownsRow.kept h hg ?_
  cases hv : v.ownBlock with
  | none => exact .inl rfl
  | some k => right; have := (World.ownsRow.lt h k hv).1; intro he; injection he; omega
theorem OwnInts.alloc {w : World} {B : Nat} {v : Value} {xs : List Int} (h : OwnInts w B v xs) (o : Obj) : OwnInts (w.alloc o) B v xs := World.ownsRow.alloc h o
theorem OwnInts.ext {w w' : World} {B : Nat} {v : Value} {xs : List Int} (h : OwnInts w B v xs) (hx : Ext w w') : OwnInts w' B v xs :=
  World.ownsRow.kept h ⟨hx.os, hx.tape, hx.output, hx.size, fun k hk _ => hx.block k hk⟩ (row := none) (by cases hv : v.ownBlock <;> simp)
theorem OwnInts.ints {w : World} {B : Nat} {v : Value} {xs : List Int} (h : OwnInts w B v xs) : ∃ A c, v = .slice A xs.length c ∧ IntsAt w (.slice A xs.length c) xs := by
  rcases h.2 with ⟨rfl, h0⟩ | ⟨g, cap, cur, rfl, hb, hg, hnc, hcm, hcs, htake⟩
  · obtain rfl := List.eq_nil_of_length_eq_zero h0
    exact ⟨none, 0, rfl, none, 0, rfl, fun h => by simp at h⟩
  · refine ⟨_, cap, rfl, _, _, rfl, fun _ => ⟨g, 0, rfl, (Array.getElem?_eq_some_iff.1 hg).1, fun j x hj => ?_⟩⟩
    have hjl : j < xs.length := (List.getElem?_eq_some_iff.1 hj).1
    have := World.ownsRow.cellAt h j (by simpa using hjl)
    rw [Nat.zero_add, this]
    simp [intsV, hj]
theorem OwnInts.far {w : World} {B : Nat} {A : Option Addr} {n c : Nat} {xs : List Int} (h : OwnInts w B (.slice A n c) xs) {b o : Nat} (hA : A = some ⟨b, o, none⟩) : B ≤ b := by
  subst hA
  exact (World.ownsRow.lt h b rfl).1
theorem OwnInts.form {w : World} {B : Nat} {v : Value} {xs : List Int} (h : OwnInts w B v xs) : ∃ A c, v = .slice A xs.length c := by
  obtain ⟨A, c, hv, _⟩ := h.ints; exact ⟨A, c, hv⟩
theorem intsV_snoc (xs : List Int) (x : Int) : intsV (xs ++ [x]) = intsV xs ++ [.int .i64 x] := by simp [intsV]

end Go.Proofs.Ythkalaohaholaaa
