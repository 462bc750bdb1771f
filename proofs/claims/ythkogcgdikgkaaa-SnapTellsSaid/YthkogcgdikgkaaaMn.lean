/-
  Decoding of snaps as plain mathematics; what the walk of snap.Decode keeps.
-/
import Derived.Test.YthkogcgdikgkaaaMl
import Derived.Test.YthkogcgdikgkaaaWh
import Derived.Test.YthkogcgdikgkaaaRz
set_option linter.unusedVariables false
set_option linter.unusedSimpArgs false
namespace Go.Proofs.Ythkogcgdikgkaaa
open Go.RowKit Go.Maps

theorem Wi.num_val (s : ByteArray) (a e : Int) : 0 ≤ (Wi.num s a e).1 ∧ (Wi.num s a e).1 < 4611686018427387904 := by
  unfold Wi.num
  split
  · split
    · rename_i h
      have := Va.t_range s a h
      exact ⟨this.1, this.2.1⟩
    · simp
  · simp
theorem rdnum_eq (g : Nat) (s : ByteArray) (a e m a1 e1 : Int) (hx : Wi.num s a e = (m, a1, e1)) (w : World) (h : RD w g s a e) (hs : s.size ≤ maxLen) :
    Calls Try.prog 20 #[.pointer (some ⟨g, 0, none⟩)] w fun r w' => r = .returned (.int .i64 m) ∧ RD w' g s a1 e1 ∧ Upd g w w' := by
  have := num_any g s a e w h hs; rw [hx] at this; exact this
/-- The Ps' numbers, k pairs of them, from a place on; the place and the error behind. -/
def snStP (s : ByteArray) (a e : Int) : Nat → List (Int × Int) × Int × Int
  | 0 => ([], a, e)
  | k + 1 =>
    let r := snStP s a e k
    let x := Wi.num s r.2.1 r.2.2
    let y := Wi.num s x.2.1 x.2.2
    (r.1 ++ [(x.1, y.1)], y.2.1, y.2.2)
def snStG (s : ByteArray) (a e : Int) : Nat → List Gs4 × Int × Int
  | 0 => ([], a, e)
  | k + 1 =>
    let r := snStG s a e k
    let x := Wi.num s r.2.1 r.2.2
    let y := Wi.num s x.2.1 x.2.2
    let z := Wi.num s y.2.1 y.2.2
    let u := Wi.num s z.2.1 z.2.2
    (r.1 ++ [(x.1, y.1, z.1, u.1)], u.2.1, u.2.2)
theorem snStP_len (s : ByteArray) (a e : Int) (k : Nat) : (snStP s a e k).1.length = k := by
  induction k with
  | zero => rfl
  | succ k ih => simp [snStP, ih]
theorem snStG_len (s : ByteArray) (a e : Int) (k : Nat) : (snStG s a e k).1.length = k := by
  induction k with
  | zero => rfl
  | succ k ih => simp [snStG, ih]
def Sn.zero : Sn := ⟨0, [], []⟩
def snDec (s : ByteArray) : Sn × Int :=
  let x := Wi.num s 0 0
  let y := Wi.num s x.2.1 x.2.2
  if 64 < y.1 then (Sn.zero, 80) else
  let p := snStP s y.2.1 y.2.2 y.1.toNat
  let z := Wi.num s p.2.1 p.2.2
  if 1000 < z.1 then (Sn.zero, 80) else
  let q := snStG s z.2.1 z.2.2 z.1.toNat
  if q.2.2 ≠ 0 then (Sn.zero, q.2.2) else
  if Wi.fin s q.2.1 q.2.2 = true ∧ Sn.may ⟨x.1, p.1, q.1⟩ = true then (⟨x.1, p.1, q.1⟩, 0) else (Sn.zero, 80)
theorem snPC_len (p : Int × Int) : (snPCells p).length = 2 := rfl
theorem snGC_len (p : Gs4) : (snGCells p).length = 4 := rfl
theorem snPC_one (p : Int × Int) : ∀ u ∈ snPCells p, u.oneCell' = true := by
  intro u hu
  simp only [snPCells, List.mem_cons, List.not_mem_nil, or_false] at hu
  rcases hu with rfl | rfl <;> rfl
theorem snGC_one (p : Gs4) : ∀ u ∈ snGCells p, u.oneCell' = true := by
  intro u hu
  simp only [snGCells, List.mem_cons, List.not_mem_nil, or_false] at hu
  rcases hu with rfl | rfl | rfl | rfl <;> rfl
theorem Try.infoPStat : (Try.prog.info? 46).map (fun i => (i.zero, i.size, i.bytes)) = some (some (.agg #[.int .i64 0, .int .i64 0]), 2, 16) := by kernel_rfl
theorem Try.infoGStat : (Try.prog.info? 36).map (fun i => (i.zero, i.size, i.bytes)) = some (some (.agg #[.int .i64 0, .int .i64 0, .int .i64 0, .int .i64 0]), 4, 32) := by kernel_rfl
/-- One record of a block of its own. -/
theorem rows_one {α : Type} {m : Nat} {f : α → List Value} (v : World) (x : α) (t : TypeId) (g : Nat) (hg : g = v.heap.size) : RowsAt m f (v.alloc (.cells (f x).toArray t)) (.slice (some ⟨g, 0, none⟩) 1 1) [x] := by
  subst hg
  refine ⟨_, 1, rfl, by simp, fun _ => ⟨v.heap.size, 0, rfl, by simp, fun j p hj i u hu => ?_⟩⟩
  match j, hj with
  | 0, hj =>
    simp only [List.getElem?_cons_zero, Option.some.injEq] at hj
    subst hj
    refine blk_cell (blk_new v _) _ _ ?_
    rw [List.getElem?_toArray]
    simpa using hu
theorem blk_set3 {w : World} {b : Nat} {t : TypeId} {a0 a1 a2 : Value} (h : w.heap[b]? = some (.cells #[a0, a1, a2] t (0, 0))) (x0 x1 x2 : Value) : (((w.setCell ⟨b, 0, none⟩ x0).setCell ⟨b, 1, none⟩ x1).setCell ⟨b, 2, none⟩ x2).heap[b]? = some (.cells #[x0, x1, x2] t (0, 0)) :=
  blk_set (blk_set (blk_set h 0 x0) 1 x1) 2 x2
theorem Ext.set3 {a b : World} {k : Nat} (h : Ext a b) (hk : a.heap.size ≤ k) (x0 x1 x2 : Value) : Ext a (((b.setCell ⟨k, 0, none⟩ x0).setCell ⟨k, 1, none⟩ x1).setCell ⟨k, 2, none⟩ x2) := ((h.setCell hk x0).setCell hk x1).setCell hk x2
theorem Upd.set3 {k : Nat} (b : World) (x0 x1 x2 : Value) : Upd k b (((b.setCell ⟨k, 0, none⟩ x0).setCell ⟨k, 1, none⟩ x1).setCell ⟨k, 2, none⟩ x2) := (((Upd.refl k b).set 0 x0).set 1 x1).set 2 x2
theorem snAt_zero (w : World) : SnAt w (.agg #[.int .i64 0, .slice none 0 0, .slice none 0 0]) Sn.zero := ⟨none, 0, none, 0, rfl, RowsAt.nil _, RowsAt.nil _⟩
/-- What stays along a decoding: the reader, the snap's box, the result's. -/
structure DecI (w : World) (g sb r0 : Nat) (s : ByteArray) (bx : Array Value) (a e : Int) (wr : World) : Prop where
  rd : RD wr g s a e
  box : wr.heap[sb]? = some (.cells bx 25 (0, 0))
  res : wr.heap[r0]? = some (.cells #[.int .i64 0, .slice none 0 0, .slice none 0 0] 25 (0, 0))
  ext : Ext w wr
  o1 : w.heap.size ≤ r0
  o2 : r0 < g
  o3 : g < sb
section
variable {w wr w' : World} {g sb r0 : Nat} {s : ByteArray} {bx : Array Value} {a e a1 e1 : Int}
theorem DecI.upd (h : DecI w g sb r0 s bx a e wr) (hu : Upd g wr w') (hr : RD w' g s a1 e1) : DecI w g sb r0 s bx a1 e1 w' :=
  ⟨hr, hu.blk h.box (by have := h.o3; omega), hu.blk h.res (by have := h.o2; omega), h.ext.upd hu (by have := h.o1; have := h.o2; omega), h.o1, h.o2, h.o3⟩
theorem DecI.put {row : Option Nat} (h : DecI w g sb r0 s bx a e wr) (hu : wr.grownBy w' row) (hrow : ∀ r, row = some r → sb < r) (i : Nat) (u : Value) : DecI w g sb r0 s (bx.setIfInBounds i u) a e (w'.setCell ⟨sb, i, none⟩ u) := by
  have keep : ∀ {b : Nat} {o : Obj}, b ≤ sb → wr.heap[b]? = some o → w'.heap[b]? = some o := fun {b o} hb ho => (hu.block b (blk_lt ho) (fun he => by have := hrow b he.symm; omega)).trans ho
  have o1 := h.o1
  have o2 := h.o2
  have o3 := h.o3
  refine ⟨blk_set_other (keep (by omega) h.rd) _ (by simp only; omega) _, blk_set (keep (Nat.le_refl _) h.box) i u, blk_set_other (keep (by omega) h.res) _ (by simp only; omega) _, ?_, o1, o2, o3⟩
  refine Ext.setCell (Below.grown h.ext hu h.ext.size fun r hr => ?_) (by simp only; omega) u
  have := hrow r hr
  omega
theorem DecI.ex (h : DecI w g sb r0 s bx a e wr) (hx : Ext wr w') : DecI w g sb r0 s bx a e w' :=
  ⟨h.rd.ext hx, hx.blk h.box, hx.blk h.res, h.ext.trans hx, h.o1, h.o2, h.o3⟩
theorem DecI.drewN (h : DecI w g sb r0 s bx a e wr) (n : Nat) : DecI w g sb r0 s bx a e (wr.drewN n) := ⟨h.rd.drewN n, h.box, h.res, h.ext.drewN n, h.o1, h.o2, h.o3⟩
theorem DecI.c0 (h : DecI w g sb r0 s bx a e wr) (i : Nat) (x : Value) (hx : bx[i]? = some x) : wr.cell? ⟨sb, i, none⟩ = some x := blk_cell h.box i x hx
theorem DecI.fz (h : DecI w g sb r0 s bx a e wr) (i : Nat) : wr.frozen? ⟨sb, i, none⟩ = false := frozen_of_row wr sb i _ _ h.box
theorem DecI.fr (h : DecI w g sb r0 s bx a e wr) (i : Nat) : wr.frozen? ⟨r0, i, none⟩ = false := frozen_of_row wr r0 i _ _ h.res
end

end Go.Proofs.Ythkogcgdikgkaaa
