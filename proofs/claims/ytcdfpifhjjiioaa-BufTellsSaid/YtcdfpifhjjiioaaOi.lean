/-
  A slice of numbers that the call itself makes and appends to; blocks that stay as they are where one block alone turns.
-/
import Derived.Test.YtcdfpifhjjiioaaKa
import Derived.Deep.AppendLies
set_option linter.unusedVariables false
set_option linter.unusedSimpArgs false
namespace Go.Proofs.Ytcdfpifhjjiioaa
open Go.RowKit

theorem Try.infoInt : (Try.prog.info? 3).map (fun i => (i.zero, i.size, i.bytes)) = some (some (.int .i64 0), 1, 8) := by kernel_rfl
def intsV (xs : List Int) : List Value := xs.map (Value.int .i64)
/-- A slice of numbers of the call's own, in blocks from B on. -/
def OwnInts (w : World) (B : Nat) (v : Value) (xs : List Int) : Prop := w.ownsRow B 3 1 v xs.length (intsV xs)
theorem OwnInts.nil (w : World) (B : Nat) : OwnInts w B (.slice none 0 0) [] := ⟨by simp [intsV], .inl ⟨rfl, rfl⟩⟩
theorem OwnInts.kept {w w' : World} {B : Nat} {v : Value} {xs : List Int} {g : Nat} (h : OwnInts w B v xs) (hg : w.grownBy w' (some g)) (hlt : g < B) : OwnInts w' B v xs := by
  refine World.ownsRow.kept h hg ?_
  cases hv : v.ownBlock with
  | none => exact .inl rfl
  | some k => right; have := (World.ownsRow.lt h k hv).1; intro he; injection he; omega
theorem OwnInts.alloc {w : World} {B : Nat} {v : Value} {xs : List Int} (h : OwnInts w B v xs) (o : Obj) : OwnInts (w.alloc o) B v xs := World.ownsRow.alloc h o
theorem OwnInts.ext {w w' : World} {B : Nat} {v : Value} {xs : List Int} (h : OwnInts w B v xs) (hx : Ext w w') : OwnInts w' B v xs :=
  World.ownsRow.kept h ⟨hx.os, hx.tape, hx.output, hx.size, fun k hk _ => hx.block k hk⟩ (row := none) (by cases hv : v.ownBlock <;> simp)
theorem OwnInts.ints {w : World} {B : Nat} {v : Value} {xs : List Int} (h : OwnInts w B v xs) : ∃ A c, v = .slice A xs.length c ∧ IntsAt w (.slice A xs.length c) xs := by
  rcases h.2 with ⟨rfl, h0⟩ | ⟨g, cap, cur, rfl, hb, hg, hnc, hcm, hcs, htake⟩
  · obtain rfl := List.eq_nil_of_length_eq_zero h0
    exact ⟨none, 0, rfl, none, 0, rfl, fun h => by simp at h⟩
  · refine ⟨_, cap, rfl, _, _, rfl, fun _ => ⟨g, 0, rfl, (Array.getElem?_eq_some_iff.1 hg).1, fun j x hj => ?_⟩⟩
    have hjl : j < xs.length := (List.getElem?_eq_some_iff.1 hj).1
    have := World.ownsRow.cellAt h j (by simpa using hjl)
    rw [Nat.zero_add, this]
    simp [intsV, hj]
theorem OwnInts.far {w : World} {B : Nat} {A : Option Addr} {n c : Nat} {xs : List Int} (h : OwnInts w B (.slice A n c) xs) {b o : Nat} (hA : A = some ⟨b, o, none⟩) : B ≤ b := by
  subst hA
  exact (World.ownsRow.lt h b rfl).1
theorem OwnInts.form {w : World} {B : Nat} {v : Value} {xs : List Int} (h : OwnInts w B v xs) : ∃ A c, v = .slice A xs.length c := by
  obtain ⟨A, c, hv, _⟩ := h.ints; exact ⟨A, c, hv⟩
theorem intsV_snoc (xs : List Int) (x : Int) : intsV (xs ++ [x]) = intsV xs ++ [.int .i64 x] := by simp [intsV]

/-- Where one block alone turns every other one stays. -/
theorem Upd.blk {g b : Nat} {w w' : World} {o : Obj} (h : Upd g w w') (hb : w.heap[b]? = some o) (hne : b ≠ g) : w'.heap[b]? = some o :=
  (h.block b (Array.getElem?_eq_some_iff.1 hb).1 (fun e => hne (by injection e))).trans hb
theorem Ext.blk {b : Nat} {w w' : World} {o : Obj} (h : Ext w w') (hb : w.heap[b]? = some o) : w'.heap[b]? = some o :=
  (h.block b (Array.getElem?_eq_some_iff.1 hb).1).trans hb
theorem Upd.sz {g : Nat} {w w' : World} (h : Upd g w w') : w.heap.size ≤ w'.heap.size := h.size
/-- What turns alone g and blocks that were not there. -/
theorem Upd.more {g r : Nat} {a b c : World} (h : Upd g a b) (k : b.grownBy c (some r)) (hr : a.heap.size ≤ r) : Upd g a c :=
  ⟨k.os.trans h.os, k.tape.trans h.tape, k.output.trans h.output, Nat.le_trans h.size k.size, fun i hi hne => (k.block i (Nat.lt_of_lt_of_le hi h.size) (fun e => by injection e with e; omega)).trans (h.block i hi hne)⟩
theorem Upd.more' {g : Nat} {a b c : World} {row : Option Nat} (h : Upd g a b) (k : b.grownBy c row) (hr : ∀ r, row = some r → a.heap.size ≤ r) : Upd g a c :=
  ⟨k.os.trans h.os, k.tape.trans h.tape, k.output.trans h.output, Nat.le_trans h.size k.size, fun i hi hne => (k.block i (Nat.lt_of_lt_of_le hi h.size) (fun e => by have := hr i e.symm; omega)).trans (h.block i hi hne)⟩
theorem Upd.newset {g : Nat} {a b : World} (h : Upd g a b) {p : Addr} (hp : a.heap.size ≤ p.block) (u : Value) : Upd g a (b.setCell p u) :=
  ⟨h.os, h.tape, h.output, by simpa [World.setCell] using h.size, fun i hi hne => (Below.heap_setCell b p u i (by omega)).trans (h.block i hi hne)⟩
theorem setCell_row {a b : World} {g : Nat} (h : a.grownBy b (some g)) (i : Nat) (u : Value) : a.grownBy (b.setCell ⟨g, i, none⟩ u) (some g) :=
  ⟨h.os, h.tape, h.output, by simpa [World.setCell] using h.size, fun k hk hne => (Below.heap_setCell b ⟨g, i, none⟩ u k (fun e => hne (by rw [e]))).trans (h.block k hk hne)⟩
theorem blk_cell {w : World} {b : Nat} {cs : Array Value} {t : TypeId} {fr : Nat × Nat} (h : w.heap[b]? = some (.cells cs t fr)) (i : Nat) (x : Value) (hx : cs[i]? = some x) : w.cell? ⟨b, i, none⟩ = some x := by
  rw [cell_of_row w b i cs t fr h, hx]
theorem blk_lt {w : World} {b : Nat} {o : Obj} (h : w.heap[b]? = some o) : b < w.heap.size := (Array.getElem?_eq_some_iff.1 h).1
theorem blk_set {w : World} {b : Nat} {cs : Array Value} {t : TypeId} (h : w.heap[b]? = some (.cells cs t (0, 0))) (i : Nat) (u : Value) : (w.setCell ⟨b, i, none⟩ u).heap[b]? = some (.cells (cs.setIfInBounds i u) t (0, 0)) := heap_setCell_same w b i _ _ _ h
theorem blk_set_other {w : World} {b : Nat} {o : Obj} (h : w.heap[b]? = some o) (p : Addr) (hp : p.block ≠ b) (u : Value) : (w.setCell p u).heap[b]? = some o := (Below.heap_setCell w p u b (Ne.symm hp)).trans h
theorem blk_alloc {w : World} {b : Nat} {o : Obj} (h : w.heap[b]? = some o) (q : Obj) : (w.alloc q).heap[b]? = some o := (Below.heap_alloc w q b (blk_lt h)).trans h
theorem blk_new (w : World) (q : Obj) : (w.alloc q).heap[w.heap.size]? = some q := heap_alloc_new w q

theorem hU_next {U S : World → Prop} {k z : Nat} {T : Value → World → Prop} {ps : List (Nat × (Value → World → Prop))} (h : (∀ w, S w → U w) ∧ ∀ p ∈ (k, T) :: ps, p.1 = z ∨ ∀ u w, p.2 u w → U w) (u : Value) (hk : k ≠ z := by decide) : (∀ w, T u w → U w) ∧ ∀ p ∈ ps, p.1 = z ∨ ∀ u w, p.2 u w → U w :=
  ⟨((h.2 (k, T) (by simp)).resolve_left hk) u, fun p hp => h.2 p (List.mem_cons_of_mem _ hp)⟩
section
variable {P : Program} {ops : Array Oper} {Q : Exit → Act → World → Prop} {md : Region.Mode}
/-- The next operation that turns the world, at Oper.wp. -/
theorem ph_oper {S : World → Prop} {T : Value → World → Prop} {ps : List (Nat × (Value → World → Prop))} {k f : Nat} {o : Oper} {listed : Array Bool} {a : Act} (hr : Region.ready md ops listed = [k])
    (hk : ops[k]? = some o) (hw : Region.wanted o (yielded ops a.tmps) = true)
    (hc : ∀ w, S w → ∀ K : Act → World → Prop, (∀ v w', T v w' → K (a.put o.dst v) w') → o.wp P a w K Q)
    (h : ∀ v, (∃ w, T v w) → wpPh P md ops Q (T v) ps f (listed.setIfInBounds k true) (a.put o.dst v)) : wpPh P md ops Q S ((k, T) :: ps) (f + 1) listed a :=
  ph_turn hr fun w hS => by
    unfold wpOp
    simp only [hk, hw, if_true]
    left
    exact hc w hS _ fun v w' hT => ⟨v, hT, h v ⟨w', hT⟩⟩
end

end Go.Proofs.Ytcdfpifhjjiioaa
