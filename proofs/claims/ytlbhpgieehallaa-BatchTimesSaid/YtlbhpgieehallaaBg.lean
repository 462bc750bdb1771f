/-
  The document's answers, of batches: Decode.
-/
import Derived.Test.YtlbhpgieehallaaBf
import Derived.Test.YtlbhpgieehallaaBc
import Derived.Test.YtlbhpgieehallaaWh
set_option linter.unusedVariables false
set_option linter.unusedSimpArgs false
namespace Go.Proofs.Ytlbhpgieehallaa
open Go.RowKit

/-- Both blocks of the answer hold nothing. -/
def BTwo (w v : World) : Prop := v.heap[w.heap.size]? = some ((.cells #[.int .i64 0, .int .i64 0, .int .i64 0, .string ⟨#[]⟩] 23)) ∧ v.heap[w.heap.size + 1]? = some ((.cells #[.int .i64 0, .int .i64 0, .int .i64 0, .string ⟨#[]⟩] 23)) ∧ Ext w v
theorem btwo_new (w : World) : BTwo w ((w.alloc ((.cells #[.int .i64 0, .int .i64 0, .int .i64 0, .string ⟨#[]⟩] 23))).alloc ((.cells #[.int .i64 0, .int .i64 0, .int .i64 0, .string ⟨#[]⟩] 23))) :=
  ⟨blk_alloc (blk_new w _) _, by have := blk_new (w.alloc ((.cells #[.int .i64 0, .int .i64 0, .int .i64 0, .string ⟨#[]⟩] 23))) ((.cells #[.int .i64 0, .int .i64 0, .int .i64 0, .string ⟨#[]⟩] 23)); rwa [World.size_alloc] at this, ((Ext.refl w).alloc _).alloc _⟩
theorem BTwo.ext {w v v' : World} (h : BTwo w v) (hx : Ext v v') : BTwo w v' := ⟨hx.blk h.1, hx.blk h.2.1, h.2.2.trans hx⟩
theorem BTwo.set {w v : World} (h : BTwo w v) {p : Addr} (hp : w.heap.size + 2 ≤ p.block) (u : Value) : BTwo w (v.setCell p u) :=
  ⟨blk_set_other h.1 _ (by omega) _, blk_set_other h.2.1 _ (by omega) _, h.2.2.setCell (by omega) _⟩
theorem BTwo.upd {w v v' : World} {g : Nat} (h : BTwo w v) (hu : Upd g v v') (hg : w.heap.size + 2 ≤ g) : BTwo w v' :=
  ⟨hu.blk h.1 (by omega), hu.blk h.2.1 (by omega), h.2.2.upd hu (by omega)⟩
/-- The answer's blocks, the reader's, and the batch's that is read. -/
def RB (w : World) (cs : Array Value) (s : ByteArray) (a e : Int) (v : World) : Prop := RQ v (w.heap.size + 1 + 1) s a e ∧ v.heap[w.heap.size + 1 + 1 + 1]? = some (.cells cs 23 (0, 0)) ∧ BTwo w v
theorem RB.call {w : World} {cs : Array Value} {s : ByteArray} {a e a' e' : Int} {v v' : World} (h : RB w cs s a e v) (hr : RQ v' (w.heap.size + 1 + 1) s a' e') (hu : Upd (w.heap.size + 1 + 1) v v') : RB w cs s a' e' v' :=
  ⟨hr, hu.blk h.2.1 (by omega), h.2.2.upd hu (by omega)⟩
theorem RB.set {w : World} {cs : Array Value} {s : ByteArray} {a e : Int} {v : World} (h : RB w cs s a e v) (i : Nat) (u : Value) : RB w (cs.setIfInBounds i u) s a e (v.setCell ⟨w.heap.size + 1 + 1 + 1, i, none⟩ u) :=
  ⟨(Below.heap_setCell v _ u _ (by simp)).trans h.1, blk_set h.2.1 i u, h.2.2.set (by simp) u⟩
theorem RB.new (w : World) (s : ByteArray) (a : Int) : RB w #[.int .i64 0, .int .i64 0, .int .i64 0, .string ⟨#[]⟩] s a 0 ((((w.alloc ((.cells #[.int .i64 0, .int .i64 0, .int .i64 0, .string ⟨#[]⟩] 23))).alloc ((.cells #[.int .i64 0, .int .i64 0, .int .i64 0, .string ⟨#[]⟩] 23))).alloc (.cells #[.string s, .int .i64 a, .int .i64 0, .int .i64 0] 56)).alloc ((.cells #[.int .i64 0, .int .i64 0, .int .i64 0, .string ⟨#[]⟩] 23))) := by
  refine ⟨?_, ?_, ((btwo_new w).ext (((Ext.refl _).alloc _).alloc _))⟩
  · have := blk_alloc (blk_new ((w.alloc ((.cells #[.int .i64 0, .int .i64 0, .int .i64 0, .string ⟨#[]⟩] 23))).alloc ((.cells #[.int .i64 0, .int .i64 0, .int .i64 0, .string ⟨#[]⟩] 23))) (.cells #[.string s, .int .i64 a, .int .i64 0, .int .i64 0] 56)) ((.cells #[.int .i64 0, .int .i64 0, .int .i64 0, .string ⟨#[]⟩] 23))
    simpa [RQ, RR, Wi.frm] using this
  · have := blk_new (((w.alloc ((.cells #[.int .i64 0, .int .i64 0, .int .i64 0, .string ⟨#[]⟩] 23))).alloc ((.cells #[.int .i64 0, .int .i64 0, .int .i64 0, .string ⟨#[]⟩] 23))).alloc (.cells #[.string s, .int .i64 a, .int .i64 0, .int .i64 0] 56)) ((.cells #[.int .i64 0, .int .i64 0, .int .i64 0, .string ⟨#[]⟩] 23))
    simpa using this
theorem qnum_eq {g : Nat} {s : ByteArray} {a e a' e' : Int} {w : World} (r : Int) (h : RQ w g s a e) (hs : s.size ≤ maxLen) (hq : Wi.num s a e = (r, a', e')) :
    Calls Try.prog 28 #[.pointer (some ⟨g, 0, none⟩)] w fun x w' => x = .returned (.int .i64 r) ∧ RQ w' g s a' e' ∧ Upd g w w' := by
  have := qnum_any g s a e w h hs; rw [hq] at this; exact this
theorem qtext_eq {g : Nat} {s : ByteArray} {a e a' e' : Int} {w : World} (r : ByteArray) (h : RQ w g s a e) (hs : s.size ≤ maxLen) (h0 : 0 ≤ a) (h1 : a ≤ s.size) (hq : Wi.text s a e = (r, a', e')) :
    Calls Try.prog 29 #[.pointer (some ⟨g, 0, none⟩)] w fun x w' => x = .returned (.string r) ∧ RQ w' g s a' e' ∧ Upd g w w' := by
  have := qtext_any g s a e w h hs h0 h1; rw [hq] at this; exact this
set_option maxRecDepth 100000 in
set_option maxHeartbeats 1000000 in
theorem rbdec_out (s : ByteArray) (a : Int) (w : World) (h : a < 0 ∨ (s.size : Int) < a) :
    Calls Try.prog 10 #[.string s, .int .i64 a] w (BDec (Bt.zero, 0, 1) w) := by
  have HTW := Lib.hid (btwo_new w)
  have z0 := blk_cell HTW.out.1 0 (.int .i64 0) rfl
  have z1 := blk_cell HTW.out.1 1 (.int .i64 0) rfl
  have z2 := blk_cell HTW.out.1 2 (.int .i64 0) rfl
  have z3 := blk_cell HTW.out.1 3 (.string ⟨#[]⟩) rfl
  have y0 := frozen_of_row _ _ 0 _ _ HTW.out.1
  have y1 := frozen_of_row _ _ 1 _ _ HTW.out.1
  have y2 := frozen_of_row _ _ 2 _ _ HTW.out.1
  have y3 := frozen_of_row _ _ 3 _ _ HTW.out.1
  have x0 := blk_cell HTW.out.2.1 0 (.int .i64 0) rfl
  have x1 := blk_cell HTW.out.2.1 1 (.int .i64 0) rfl
  have x2 := blk_cell HTW.out.2.1 2 (.int .i64 0) rfl
  have x3 := blk_cell HTW.out.2.1 3 (.string ⟨#[]⟩) rfl
  rcases (by omega : a < 0 ∨ (0 ≤ a ∧ (s.size : Int) < a)) with h0 | ⟨h0, h1⟩
  all_goals
    clear h
    go_enter Try.func10, Try.ntmps10
    go_wp2
    clear z0 z1 z2 z3 y0 y1 y2 y3 x0 x1 x2 x3
    have t0 := blk_cell HTW.out.1 0 (.int .i64 0) rfl
    have t1 := blk_cell HTW.out.1 1 (.int .i64 0) rfl
    have t2 := blk_cell HTW.out.1 2 (.int .i64 0) rfl
    have t3 := blk_cell HTW.out.1 3 (.string ⟨#[]⟩) rfl
    refine bodyPost_ret (v := .tuple #[(.agg #[.int .i64 0, .int .i64 0, .int .i64 0, .string ⟨#[]⟩]), .int .i64 0, .int .i64 1]) (by simp [results, Try.results10, go_sem, t0, t1, t2, t3]) rfl ⟨rfl, ?_⟩
    first | exact HTW.out.2.2 | exact Ext.set4 HTW.out.2.2 _ _ _ _
set_option maxRecDepth 100000 in
set_option maxHeartbeats 1000000 in
theorem rbdec_short (s : ByteArray) (w : World) (hs : s.size ≤ maxLen) :
    Calls Try.prog 10 #[.string s, .int .i64 (s.size : Int)] w (BDec (Bt.zero, 0, 10) w) := by
  unfold maxLen at hs
  have HTW := Lib.hid (btwo_new w)
  have z0 := blk_cell HTW.out.1 0 (.int .i64 0) rfl
  have z1 := blk_cell HTW.out.1 1 (.int .i64 0) rfl
  have z2 := blk_cell HTW.out.1 2 (.int .i64 0) rfl
  have z3 := blk_cell HTW.out.1 3 (.string ⟨#[]⟩) rfl
  have y0 := frozen_of_row _ _ 0 _ _ HTW.out.1
  have y1 := frozen_of_row _ _ 1 _ _ HTW.out.1
  have y2 := frozen_of_row _ _ 2 _ _ HTW.out.1
  have y3 := frozen_of_row _ _ 3 _ _ HTW.out.1
  have x0 := blk_cell HTW.out.2.1 0 (.int .i64 0) rfl
  have x1 := blk_cell HTW.out.2.1 1 (.int .i64 0) rfl
  have x2 := blk_cell HTW.out.2.1 2 (.int .i64 0) rfl
  have x3 := blk_cell HTW.out.2.1 3 (.string ⟨#[]⟩) rfl
  have hd0 : decide ((s.size : Int) < 0) = false := by simp
  go_enter Try.func10, Try.ntmps10
  go_wp2
  clear z0 z1 z2 z3 y0 y1 y2 y3 x0 x1 x2 x3
  have t0 := blk_cell HTW.out.1 0 (.int .i64 0) rfl
  have t1 := blk_cell HTW.out.1 1 (.int .i64 0) rfl
  have t2 := blk_cell HTW.out.1 2 (.int .i64 0) rfl
  have t3 := blk_cell HTW.out.1 3 (.string ⟨#[]⟩) rfl
  refine bodyPost_ret (v := .tuple #[(.agg #[.int .i64 0, .int .i64 0, .int .i64 0, .string ⟨#[]⟩]), .int .i64 0, .int .i64 10]) (by simp [results, Try.results10, go_sem, t0, t1, t2, t3]) rfl ⟨rfl, ?_⟩
  first | exact HTW.out.2.2 | exact Ext.set4 HTW.out.2.2 _ _ _ _
set_option maxRecDepth 100000 in
set_option maxHeartbeats 1000000 in
theorem rbdec_mark (s : ByteArray) (a : Nat) (w : World) (hs : s.size ≤ maxLen) (h : a < s.size) (h66 : s[a] ≠ 66) :
    Calls Try.prog 10 #[.string s, .int .i64 a] w (BDec (Bt.zero, 0, 50) w) := by
  unfold maxLen at hs
  have HTW := Lib.hid (btwo_new w)
  have z0 := blk_cell HTW.out.1 0 (.int .i64 0) rfl
  have z1 := blk_cell HTW.out.1 1 (.int .i64 0) rfl
  have z2 := blk_cell HTW.out.1 2 (.int .i64 0) rfl
  have z3 := blk_cell HTW.out.1 3 (.string ⟨#[]⟩) rfl
  have y0 := frozen_of_row _ _ 0 _ _ HTW.out.1
  have y1 := frozen_of_row _ _ 1 _ _ HTW.out.1
  have y2 := frozen_of_row _ _ 2 _ _ HTW.out.1
  have y3 := frozen_of_row _ _ 3 _ _ HTW.out.1
  have x0 := blk_cell HTW.out.2.1 0 (.int .i64 0) rfl
  have x1 := blk_cell HTW.out.2.1 1 (.int .i64 0) rfl
  have x2 := blk_cell HTW.out.2.1 2 (.int .i64 0) rfl
  have x3 := blk_cell HTW.out.2.1 3 (.string ⟨#[]⟩) rfl
  have hd0 : decide ((a : Int) < 0) = false := by simp
  have hd2 : ((a : Int) == (s.size : Int)) = false := by simp; omega
  have hb : (s[a].toNat : Int) ≤ 255 := by have := s[a].toNat_lt; omega
  have hb6 : ((s[a].toNat : Int) == 66) = false := by
    simp
    intro he
    apply h66
    apply UInt8.toNat_inj.1
    have : s[a].toNat = 66 := by omega
    rw [this]; rfl
  have hb7 : ((s[a].toNat : Int) != 66) = true := by simpa using hb6
  clear h66
  go_enter Try.func10, Try.ntmps10
  go_wp2
  clear z0 z1 z2 z3 y0 y1 y2 y3 x0 x1 x2 x3
  have t0 := blk_cell HTW.out.1 0 (.int .i64 0) rfl
  have t1 := blk_cell HTW.out.1 1 (.int .i64 0) rfl
  have t2 := blk_cell HTW.out.1 2 (.int .i64 0) rfl
  have t3 := blk_cell HTW.out.1 3 (.string ⟨#[]⟩) rfl
  refine bodyPost_ret (v := .tuple #[(.agg #[.int .i64 0, .int .i64 0, .int .i64 0, .string ⟨#[]⟩]), .int .i64 0, .int .i64 50]) (by simp [results, Try.results10, go_sem, t0, t1, t2, t3]) rfl ⟨rfl, ?_⟩
  first | exact HTW.out.2.2 | exact Ext.set4 HTW.out.2.2 _ _ _ _
/-- What the last region's loads need, ahead of the store and behind it. -/
def RC (w : World) (b : Nat) (cs : Array Value) (s : ByteArray) (a e : Int) (v : World) : Prop := v.heap[b]? = some (.cells cs 23 (0, 0)) ∧ RQ v (w.heap.size + 1 + 1) s a e
def RBD (w : World) (b : Nat) (ds cs : Array Value) (s : ByteArray) (a e : Int) (_ : Value) (v : World) : Prop :=
  (v.heap[w.heap.size]? = some (.cells ds 23 (0, 0)) ∧ Ext w v) ∧ RC w b cs s a e v
theorem RC.set {w : World} {b : Nat} {cs : Array Value} {s : ByteArray} {a e : Int} {v : World} (h : RC w b cs s a e v) (hb : w.heap.size ≠ b) (i : Nat) (u : Value) : RC w b cs s a e (v.setCell ⟨w.heap.size, i, none⟩ u) :=
  ⟨blk_set_other h.1 _ hb _, (Below.heap_setCell v _ u _ (by simp; omega)).trans h.2⟩
theorem RC.set4 {w : World} {b : Nat} {cs : Array Value} {s : ByteArray} {a e : Int} {v : World} (h : RC w b cs s a e v) (hb : w.heap.size ≠ b) (x0 x1 x2 x3 : Value) :
    RC w b cs s a e ((((v.setCell ⟨w.heap.size, 0, none⟩ x0).setCell ⟨w.heap.size, 1, none⟩ x1).setCell ⟨w.heap.size, 2, none⟩ x2).setCell ⟨w.heap.size, 3, none⟩ x3) := (((h.set hb 0 _).set hb 1 _).set hb 2 _).set hb 3 _
set_option maxRecDepth 100000 in
set_option maxHeartbeats 1000000 in
theorem rbdec_err (s : ByteArray) (a : Nat) (w : World) (hs : s.size ≤ maxLen) (h : a < s.size) (h66 : s[a] = 66) (gn a1 e1 st a2 e2 ba a3 e3 : Int) (bo : ByteArray) (a4 e4 : Int) (h1 : Wi.num s ((a : Int) + 1) 0 = (gn, a1, e1)) (h2 : Wi.num s a1 e1 = (st, a2, e2)) (h3 : Wi.num s a2 e2 = (ba, a3, e3)) (h4 : Wi.text s a3 e3 = (bo, a4, e4)) (he : ¬ e4 = 0) :
    Calls Try.prog 10 #[.string s, .int .i64 a] w (BDec (Bt.zero, 0, e4) w) := by
  have hb1 : (e4 == 0) = false := by simpa using he
  have hb2 : (e4 != 0) = true := by simpa using he
  clear he
  have HA3 : Hid (0 ≤ a3 ∧ a3 ≤ (s.size : Int)) := Lib.hid (by
    have r1 := Wi.num_range s ((a : Int) + 1) 0 (by omega) (by omega)
    rw [h1] at r1
    have r2 := Wi.num_range s a1 e1 r1.1 r1.2
    rw [h2] at r2
    have r3 := Wi.num_range s a2 e2 r2.1 r2.2
    rw [h3] at r3
    exact r3)
  have HS := Lib.hid hs
  have H1 := Lib.hid h1
  have H2 := Lib.hid h2
  have H3 := Lib.hid h3
  have H4 := Lib.hid h4
  clear h1 h2 h3 h4
  unfold maxLen at hs
  have hd0 : decide ((a : Int) < 0) = false := by simp
  have hd2 : ((a : Int) == (s.size : Int)) = false := by simp; omega
  have hb6 : (s[a].toNat : Int) = 66 := by rw [h66]; rfl
  clear h66
  have HN := Lib.hid (RB.new w s ((a : Int) + 1))
  go_enter Try.func10, Try.ntmps10
  go_wp2_with fail
  refine (qnum_eq _ HN.out.1 HS.out H1.out).mono ?_
  rintro r w1 ⟨rfl, hr1, hu1⟩
  have HB1 := Lib.hid (HN.out.call hr1 hu1)
  clear hr1 hu1 hd0 hd2 hb6
  have z := blk_cell HB1.out.2.1 0 _ rfl
  have y := frozen_of_row _ _ 0 _ _ HB1.out.2.1
  go_wp2_with fail
  refine (qnum_eq _ (HB1.out.set 0 _).1 HS.out H2.out).mono ?_
  rintro r w2 ⟨rfl, hr2, hu2⟩
  have HB2 := Lib.hid ((HB1.out.set 0 _).call hr2 hu2)
  clear hr2 hu2 z y
  have z := blk_cell HB2.out.2.1 1 _ rfl
  have y := frozen_of_row _ _ 1 _ _ HB2.out.2.1
  go_wp2_with fail
  refine (qnum_eq _ (HB2.out.set 1 _).1 HS.out H3.out).mono ?_
  rintro r w3 ⟨rfl, hr3, hu3⟩
  have HB3 := Lib.hid ((HB2.out.set 1 _).call hr3 hu3)
  clear hr3 hu3 z y
  have z := blk_cell HB3.out.2.1 2 _ rfl
  have y := frozen_of_row _ _ 2 _ _ HB3.out.2.1
  go_wp2_with fail
  refine (qtext_eq _ (HB3.out.set 2 _).1 HS.out HA3.out.1 HA3.out.2 H4.out).mono ?_
  rintro r w4 ⟨rfl, hr4, hu4⟩
  have HB4 := Lib.hid ((HB3.out.set 2 _).call hr4 hu4)
  clear hr4 hu4 z y
  have HB5 : Hid (RB w #[.int .i64 gn, .int .i64 st, .int .i64 ba, .string bo] s a4 _ (w4.setCell ⟨w.heap.size + 1 + 1 + 1, 3, none⟩ (.string bo))) := Lib.hid (HB4.out.set 3 (.string bo))
  have z := blk_cell HB4.out.2.1 3 _ rfl
  have y := frozen_of_row _ _ 3 _ _ HB4.out.2.1
  have ze := RR.c2 HB5.out.1
  clear HB1 HB2 HB3 HN
  go_wp2
  clear z y ze
  have HB6 := Lib.hid HB5.out
  generalize w4.setCell ⟨w.heap.size + 1 + 1 + 1, 3, none⟩ (.string bo) = w5 at *
  have HTW : Hid (BTwo w w5.drew) := Lib.hid ⟨HB6.out.2.2.1, HB6.out.2.2.2.1, HB6.out.2.2.2.2.drew⟩
  have HRR : Hid (RQ w5.drew (w.heap.size + 1 + 1) s a4 e4) := Lib.hid HB6.out.1
  generalize hq3 : w5.drew = w4' at *
  have HCC : Hid (RC w (w.heap.size + 1) #[.int .i64 0, .int .i64 0, .int .i64 0, .string ⟨#[]⟩] s a4 e4 w4') := Lib.hid ⟨HTW.out.2.1, HRR.out⟩
  refine region_g 99 (RC w (w.heap.size + 1) #[.int .i64 0, .int .i64 0, .int .i64 0, .string ⟨#[]⟩] s a4 e4) (fun v => v = w4') (by kernel_rfl) hq3 ?_
  clear hq3
  have HG : ∀ (l : Array Bool) v, v = w4' → l.getD 99 false = false → RC w (w.heap.size + 1) #[.int .i64 0, .int .i64 0, .int .i64 0, .string ⟨#[]⟩] s a4 e4 v := fun _ v h _ => h ▸ HCC.out
  have K0 : ∀ v, RC w (w.heap.size + 1) #[.int .i64 0, .int .i64 0, .int .i64 0, .string ⟨#[]⟩] s a4 e4 v → v.cell? ⟨w.heap.size + 1, 0, none⟩ = some (.int .i64 0) := fun v hv => blk_cell hv.1 0 _ rfl
  have K1 : ∀ v, RC w (w.heap.size + 1) #[.int .i64 0, .int .i64 0, .int .i64 0, .string ⟨#[]⟩] s a4 e4 v → v.cell? ⟨w.heap.size + 1, 1, none⟩ = some (.int .i64 0) := fun v hv => blk_cell hv.1 1 _ rfl
  have K2 : ∀ v, RC w (w.heap.size + 1) #[.int .i64 0, .int .i64 0, .int .i64 0, .string ⟨#[]⟩] s a4 e4 v → v.cell? ⟨w.heap.size + 1, 2, none⟩ = some (.int .i64 0) := fun v hv => blk_cell hv.1 2 _ rfl
  have K3 : ∀ v, RC w (w.heap.size + 1) #[.int .i64 0, .int .i64 0, .int .i64 0, .string ⟨#[]⟩] s a4 e4 v → v.cell? ⟨w.heap.size + 1, 3, none⟩ = some (.string ⟨#[]⟩) := fun v hv => blk_cell hv.1 3 _ rfl
  have K4 : ∀ v, RC w (w.heap.size + 1) #[.int .i64 0, .int .i64 0, .int .i64 0, .string ⟨#[]⟩] s a4 e4 v → v.cell? ⟨w.heap.size + 1 + 1, 2, none⟩ = some (.int .i64 e4) := fun v hv => RR.c2 hv.2
  refine g_take (HG _) (i := 0) (v := ?_) rfl (by kernel_rfl) (by kernel_rfl) (by kernel_rfl) (by kernel_rfl) (by kernel_rfl) (fun _ _ _ h => h) (Still.yes (by kernel_rfl) fun w hS => ?_) ?_
  rotate_left 1
  · skip
    go_simp
    refine gives_mk ?_ rfl
    with_reducible rfl
  refine g_take (HG _) (i := 1) (v := ?_) rfl (by kernel_rfl) (by kernel_rfl) (by kernel_rfl) (by kernel_rfl) (by kernel_rfl) (fun _ _ _ h => h) (Still.yes (by kernel_rfl) fun w hS => ?_) ?_
  rotate_left 1
  · skip
    go_simp
    refine gives_mk ?_ rfl
    with_reducible rfl
  refine g_take (HG _) (i := 2) (v := ?_) rfl (by kernel_rfl) (by kernel_rfl) (by kernel_rfl) (by kernel_rfl) (by kernel_rfl) (fun _ _ _ h => h) (Still.yes (by kernel_rfl) fun w hS => ?_) ?_
  rotate_left 1
  · skip
    go_simp
    refine gives_mk ?_ rfl
    with_reducible rfl
  refine g_take (HG _) (i := 3) (v := ?_) rfl (by kernel_rfl) (by kernel_rfl) (by kernel_rfl) (by kernel_rfl) (by kernel_rfl) (fun _ _ _ h => h) (Still.yes (by kernel_rfl) fun w hS => ?_) ?_
  rotate_left 1
  · skip
    go_simp
    refine gives_mk ?_ rfl
    with_reducible rfl
  refine g_take (HG _) (i := 4) (v := ?_) rfl (by kernel_rfl) (by kernel_rfl) (by kernel_rfl) (by kernel_rfl) (by kernel_rfl) (fun _ _ _ h => h) (Still.yes (by kernel_rfl) fun w hS => ?_) ?_
  rotate_left 1
  · skip
    go_simp
    refine gives_mk ?_ rfl
    with_reducible rfl
  refine g_turn (RBD w (w.heap.size + 1) #[.int .i64 0, .int .i64 0, .int .i64 0, .string ⟨#[]⟩] #[.int .i64 0, .int .i64 0, .int .i64 0, .string ⟨#[]⟩] s a4 e4) (k := 5) (by kernel_rfl) (fun _ _ h _ => h.2) (fun v hv => ?_)
  refine at_skip rfl (by kernel_rfl) ?_ ?_
  · subst hv
    have z0 := blk_cell HTW.out.1 0 (.int .i64 0) rfl
    have z1 := blk_cell HTW.out.1 1 (.int .i64 0) rfl
    have z2 := blk_cell HTW.out.1 2 (.int .i64 0) rfl
    have z3 := blk_cell HTW.out.1 3 (.string ⟨#[]⟩) rfl
    have y0 := frozen_of_row _ _ 0 _ _ HTW.out.1
    have y1 := frozen_of_row _ _ 1 _ _ HTW.out.1
    have y2 := frozen_of_row _ _ 2 _ _ HTW.out.1
    have y3 := frozen_of_row _ _ 3 _ _ HTW.out.1
    have x0 := blk_cell HTW.out.2.1 0 (.int .i64 0) rfl
    have x1 := blk_cell HTW.out.2.1 1 (.int .i64 0) rfl
    have x2 := blk_cell HTW.out.2.1 2 (.int .i64 0) rfl
    have x3 := blk_cell HTW.out.2.1 3 (.string ⟨#[]⟩) rfl
    clear K0 K1 K2 K3 K4 HG
    go_simp
    first | exact ⟨⟨bzero4 HTW.out.1, HTW.out.2.2.set4 _ _ _ _⟩, HCC.out.set4 (by omega) _ _ _ _⟩ | exact ⟨_, rfl, ⟨bzero4 HTW.out.1, HTW.out.2.2.set4 _ _ _ _⟩, HCC.out.set4 (by omega) _ _ _ _⟩
  have HG : ∀ (l : Array Bool) v, RBD w (w.heap.size + 1) #[.int .i64 0, .int .i64 0, .int .i64 0, .string ⟨#[]⟩] #[.int .i64 0, .int .i64 0, .int .i64 0, .string ⟨#[]⟩] s a4 e4 undef v → l.getD 99 false = false → RC w (w.heap.size + 1) #[.int .i64 0, .int .i64 0, .int .i64 0, .string ⟨#[]⟩] s a4 e4 v := fun _ _ h _ => h.2
  refine g_free (HG _) (i := 6) (v := ?_) rfl (by kernel_rfl) (by kernel_rfl) (by kernel_rfl) (by kernel_rfl) (fun _ _ _ h => h) (Still.yes (by kernel_rfl) fun w hS => ?_) ?_
  rotate_left 1
  · skip
    go_simp
    refine gives_mk ?_ rfl
    with_reducible rfl
  refine g_free (HG _) (i := 7) (v := ?_) rfl (by kernel_rfl) (by kernel_rfl) (by kernel_rfl) (by kernel_rfl) (fun _ _ _ h => h) (Still.yes (by kernel_rfl) fun w hS => ?_) ?_
  rotate_left 1
  · skip
    go_simp
    refine gives_mk ?_ rfl
    with_reducible rfl
  refine g_done (by kernel_rfl) ?_ _
  intro w6 hw6
  clear K0 K1 K2 K3 K4 HG
  obtain ⟨⟨hzz, hx5⟩, _⟩ := hw6
  have t0 := blk_cell hzz 0 (.int .i64 0) rfl
  have t1 := blk_cell hzz 1 (.int .i64 0) rfl
  have t2 := blk_cell hzz 2 (.int .i64 0) rfl
  have t3 := blk_cell hzz 3 (.string ⟨#[]⟩) rfl
  clear hzz
  go_simp
  go_wp2
  refine bodyPost_ret (v := .tuple #[(.agg #[.int .i64 0, .int .i64 0, .int .i64 0, .string ⟨#[]⟩]), .int .i64 0, .int .i64 e4]) (by simp [results, Try.results10, go_sem, t0, t1, t2, t3]) rfl ⟨rfl, hx5⟩
set_option maxRecDepth 100000 in
set_option maxHeartbeats 1000000 in
theorem rbdec_no (s : ByteArray) (a : Nat) (w : World) (hs : s.size ≤ maxLen) (h : a < s.size) (h66 : s[a] = 66) (gn a1 e1 st a2 e2 ba a3 e3 : Int) (bo : ByteArray) (a4 e4 : Int) (h1 : Wi.num s ((a : Int) + 1) 0 = (gn, a1, e1)) (h2 : Wi.num s a1 e1 = (st, a2, e2)) (h3 : Wi.num s a2 e2 = (ba, a3, e3)) (h4 : Wi.text s a3 e3 = (bo, a4, e4)) (he : e4 = 0) (hm : Bt.may ⟨gn, st, ba, bo⟩ = false) :
    Calls Try.prog 10 #[.string s, .int .i64 a] w (BDec (Bt.zero, 0, 50) w) := by
  subst he
  have HM := Lib.hid hm
  clear hm
  have HA3 : Hid (0 ≤ a3 ∧ a3 ≤ (s.size : Int)) := Lib.hid (by
    have r1 := Wi.num_range s ((a : Int) + 1) 0 (by omega) (by omega)
    rw [h1] at r1
    have r2 := Wi.num_range s a1 e1 r1.1 r1.2
    rw [h2] at r2
    have r3 := Wi.num_range s a2 e2 r2.1 r2.2
    rw [h3] at r3
    exact r3)
  have HS := Lib.hid hs
  have H1 := Lib.hid h1
  have H2 := Lib.hid h2
  have H3 := Lib.hid h3
  have H4 := Lib.hid h4
  clear h1 h2 h3 h4
  unfold maxLen at hs
  have hd0 : decide ((a : Int) < 0) = false := by simp
  have hd2 : ((a : Int) == (s.size : Int)) = false := by simp; omega
  have hb6 : (s[a].toNat : Int) = 66 := by rw [h66]; rfl
  clear h66
  have HN := Lib.hid (RB.new w s ((a : Int) + 1))
  go_enter Try.func10, Try.ntmps10
  go_wp2_with fail
  refine (qnum_eq _ HN.out.1 HS.out H1.out).mono ?_
  rintro r w1 ⟨rfl, hr1, hu1⟩
  have HB1 := Lib.hid (HN.out.call hr1 hu1)
  clear hr1 hu1 hd0 hd2 hb6
  have z := blk_cell HB1.out.2.1 0 _ rfl
  have y := frozen_of_row _ _ 0 _ _ HB1.out.2.1
  go_wp2_with fail
  refine (qnum_eq _ (HB1.out.set 0 _).1 HS.out H2.out).mono ?_
  rintro r w2 ⟨rfl, hr2, hu2⟩
  have HB2 := Lib.hid ((HB1.out.set 0 _).call hr2 hu2)
  clear hr2 hu2 z y
  have z := blk_cell HB2.out.2.1 1 _ rfl
  have y := frozen_of_row _ _ 1 _ _ HB2.out.2.1
  go_wp2_with fail
  refine (qnum_eq _ (HB2.out.set 1 _).1 HS.out H3.out).mono ?_
  rintro r w3 ⟨rfl, hr3, hu3⟩
  have HB3 := Lib.hid ((HB2.out.set 1 _).call hr3 hu3)
  clear hr3 hu3 z y
  have z := blk_cell HB3.out.2.1 2 _ rfl
  have y := frozen_of_row _ _ 2 _ _ HB3.out.2.1
  go_wp2_with fail
  refine (qtext_eq _ (HB3.out.set 2 _).1 HS.out HA3.out.1 HA3.out.2 H4.out).mono ?_
  rintro r w4 ⟨rfl, hr4, hu4⟩
  have HB4 := Lib.hid ((HB3.out.set 2 _).call hr4 hu4)
  clear hr4 hu4 z y
  have HB5 : Hid (RB w #[.int .i64 gn, .int .i64 st, .int .i64 ba, .string bo] s a4 _ (w4.setCell ⟨w.heap.size + 1 + 1 + 1, 3, none⟩ (.string bo))) := Lib.hid (HB4.out.set 3 (.string bo))
  have z := blk_cell HB4.out.2.1 3 _ rfl
  have y := frozen_of_row _ _ 3 _ _ HB4.out.2.1
  have ze := RR.c2 HB5.out.1
  clear HB1 HB2 HB3 HN
  have c0 := blk_cell HB5.out.2.1 0 _ rfl
  have c1 := blk_cell HB5.out.2.1 1 _ rfl
  have c2 := blk_cell HB5.out.2.1 2 _ rfl
  have c3 := blk_cell HB5.out.2.1 3 _ rfl
  go_wp2_with fail
  refine (rbmay_eq gn st ba bo false HM.out _).mono ?_
  rintro r w6 ⟨rfl, hx6⟩
  have HTW := Lib.hid (HB5.out.2.2.ext hx6)
  clear z y ze c0 c1 c2 c3 hx6
  have z0 := blk_cell HTW.out.1 0 (.int .i64 0) rfl
  have z1 := blk_cell HTW.out.1 1 (.int .i64 0) rfl
  have z2 := blk_cell HTW.out.1 2 (.int .i64 0) rfl
  have z3 := blk_cell HTW.out.1 3 (.string ⟨#[]⟩) rfl
  have y0 := frozen_of_row _ _ 0 _ _ HTW.out.1
  have y1 := frozen_of_row _ _ 1 _ _ HTW.out.1
  have y2 := frozen_of_row _ _ 2 _ _ HTW.out.1
  have y3 := frozen_of_row _ _ 3 _ _ HTW.out.1
  have x0 := blk_cell HTW.out.2.1 0 (.int .i64 0) rfl
  have x1 := blk_cell HTW.out.2.1 1 (.int .i64 0) rfl
  have x2 := blk_cell HTW.out.2.1 2 (.int .i64 0) rfl
  have x3 := blk_cell HTW.out.2.1 3 (.string ⟨#[]⟩) rfl
  go_wp2
  clear z0 z1 z2 z3 y0 y1 y2 y3 x0 x1 x2 x3
  have t0 := blk_cell HTW.out.1 0 (.int .i64 0) rfl
  have t1 := blk_cell HTW.out.1 1 (.int .i64 0) rfl
  have t2 := blk_cell HTW.out.1 2 (.int .i64 0) rfl
  have t3 := blk_cell HTW.out.1 3 (.string ⟨#[]⟩) rfl
  have hzz := bzero4 HTW.out.1
  have u0 := blk_cell hzz 0 (.int .i64 0) rfl
  have u1 := blk_cell hzz 1 (.int .i64 0) rfl
  have u2 := blk_cell hzz 2 (.int .i64 0) rfl
  have u3 := blk_cell hzz 3 (.string ⟨#[]⟩) rfl
  refine bodyPost_ret (v := .tuple #[(.agg #[.int .i64 0, .int .i64 0, .int .i64 0, .string ⟨#[]⟩]), .int .i64 0, .int .i64 50]) (by simp [results, Try.results10, go_sem, t0, t1, t2, t3, u0, u1, u2, u3]) rfl ⟨rfl, ?_⟩
  first | exact HTW.out.2.2 | exact Ext.set4 HTW.out.2.2 _ _ _ _
set_option maxRecDepth 100000 in
set_option maxHeartbeats 1000000 in
theorem rbdec_ok (s : ByteArray) (a : Nat) (w : World) (hs : s.size ≤ maxLen) (h : a < s.size) (h66 : s[a] = 66) (gn a1 e1 st a2 e2 ba a3 e3 : Int) (bo : ByteArray) (a4 e4 : Int) (h1 : Wi.num s ((a : Int) + 1) 0 = (gn, a1, e1)) (h2 : Wi.num s a1 e1 = (st, a2, e2)) (h3 : Wi.num s a2 e2 = (ba, a3, e3)) (h4 : Wi.text s a3 e3 = (bo, a4, e4)) (he : e4 = 0) (hm : Bt.may ⟨gn, st, ba, bo⟩ = true) :
    Calls Try.prog 10 #[.string s, .int .i64 a] w (BDec (⟨gn, st, ba, bo⟩, a4, 0) w) := by
  subst he
  have HM := Lib.hid hm
  clear hm
  have HA3 : Hid (0 ≤ a3 ∧ a3 ≤ (s.size : Int)) := Lib.hid (by
    have r1 := Wi.num_range s ((a : Int) + 1) 0 (by omega) (by omega)
    rw [h1] at r1
    have r2 := Wi.num_range s a1 e1 r1.1 r1.2
    rw [h2] at r2
    have r3 := Wi.num_range s a2 e2 r2.1 r2.2
    rw [h3] at r3
    exact r3)
  have HS := Lib.hid hs
  have H1 := Lib.hid h1
  have H2 := Lib.hid h2
  have H3 := Lib.hid h3
  have H4 := Lib.hid h4
  clear h1 h2 h3 h4
  unfold maxLen at hs
  have hd0 : decide ((a : Int) < 0) = false := by simp
  have hd2 : ((a : Int) == (s.size : Int)) = false := by simp; omega
  have hb6 : (s[a].toNat : Int) = 66 := by rw [h66]; rfl
  clear h66
  have HN := Lib.hid (RB.new w s ((a : Int) + 1))
  go_enter Try.func10, Try.ntmps10
  go_wp2_with fail
  refine (qnum_eq _ HN.out.1 HS.out H1.out).mono ?_
  rintro r w1 ⟨rfl, hr1, hu1⟩
  have HB1 := Lib.hid (HN.out.call hr1 hu1)
  clear hr1 hu1 hd0 hd2 hb6
  have z := blk_cell HB1.out.2.1 0 _ rfl
  have y := frozen_of_row _ _ 0 _ _ HB1.out.2.1
  go_wp2_with fail
  refine (qnum_eq _ (HB1.out.set 0 _).1 HS.out H2.out).mono ?_
  rintro r w2 ⟨rfl, hr2, hu2⟩
  have HB2 := Lib.hid ((HB1.out.set 0 _).call hr2 hu2)
  clear hr2 hu2 z y
  have z := blk_cell HB2.out.2.1 1 _ rfl
  have y := frozen_of_row _ _ 1 _ _ HB2.out.2.1
  go_wp2_with fail
  refine (qnum_eq _ (HB2.out.set 1 _).1 HS.out H3.out).mono ?_
  rintro r w3 ⟨rfl, hr3, hu3⟩
  have HB3 := Lib.hid ((HB2.out.set 1 _).call hr3 hu3)
  clear hr3 hu3 z y
  have z := blk_cell HB3.out.2.1 2 _ rfl
  have y := frozen_of_row _ _ 2 _ _ HB3.out.2.1
  go_wp2_with fail
  refine (qtext_eq _ (HB3.out.set 2 _).1 HS.out HA3.out.1 HA3.out.2 H4.out).mono ?_
  rintro r w4 ⟨rfl, hr4, hu4⟩
  have HB4 := Lib.hid ((HB3.out.set 2 _).call hr4 hu4)
  clear hr4 hu4 z y
  have HB5 : Hid (RB w #[.int .i64 gn, .int .i64 st, .int .i64 ba, .string bo] s a4 _ (w4.setCell ⟨w.heap.size + 1 + 1 + 1, 3, none⟩ (.string bo))) := Lib.hid (HB4.out.set 3 (.string bo))
  have z := blk_cell HB4.out.2.1 3 _ rfl
  have y := frozen_of_row _ _ 3 _ _ HB4.out.2.1
  have ze := RR.c2 HB5.out.1
  clear HB1 HB2 HB3 HN
  have c0 := blk_cell HB5.out.2.1 0 _ rfl
  have c1 := blk_cell HB5.out.2.1 1 _ rfl
  have c2 := blk_cell HB5.out.2.1 2 _ rfl
  have c3 := blk_cell HB5.out.2.1 3 _ rfl
  go_wp2_with fail
  refine (rbmay_eq gn st ba bo true HM.out _).mono ?_
  rintro r w6 ⟨rfl, hx6⟩
  have HTW := Lib.hid (HB5.out.2.2.ext hx6)
  have HRR := Lib.hid (RQ.ext HB5.out.1 hx6)
  have HBB := Lib.hid (hx6.blk HB5.out.2.1)
  clear z y ze c0 c1 c2 c3 hx6 HB5 HB4
  go_wp2
  replace HTW : Hid (BTwo w w6.drew) := Lib.hid ⟨HTW.out.1, HTW.out.2.1, HTW.out.2.2.drew⟩
  replace HRR : Hid (RQ w6.drew (w.heap.size + 1 + 1) s a4 0) := Lib.hid HRR.out
  replace HBB : Hid (w6.drew.heap[w.heap.size + 1 + 1 + 1]? = some (.cells #[.int .i64 gn, .int .i64 st, .int .i64 ba, .string bo] 23 (0, 0))) := Lib.hid HBB.out
  generalize hq3 : w6.drew = w4' at *
  have HCC : Hid (RC w (w.heap.size + 1 + 1 + 1) #[.int .i64 gn, .int .i64 st, .int .i64 ba, .string bo] s a4 0 w4') := Lib.hid ⟨HBB.out, HRR.out⟩
  refine region_g 99 (RC w (w.heap.size + 1 + 1 + 1) #[.int .i64 gn, .int .i64 st, .int .i64 ba, .string bo] s a4 0) (fun v => v = w4') (by kernel_rfl) hq3 ?_
  clear hq3
  have HG : ∀ (l : Array Bool) v, v = w4' → l.getD 99 false = false → RC w (w.heap.size + 1 + 1 + 1) #[.int .i64 gn, .int .i64 st, .int .i64 ba, .string bo] s a4 0 v := fun _ v h _ => h ▸ HCC.out
  have K0 : ∀ v, RC w (w.heap.size + 1 + 1 + 1) #[.int .i64 gn, .int .i64 st, .int .i64 ba, .string bo] s a4 0 v → v.cell? ⟨w.heap.size + 1 + 1 + 1, 0, none⟩ = some (.int .i64 gn) := fun v hv => blk_cell hv.1 0 _ rfl
  have K1 : ∀ v, RC w (w.heap.size + 1 + 1 + 1) #[.int .i64 gn, .int .i64 st, .int .i64 ba, .string bo] s a4 0 v → v.cell? ⟨w.heap.size + 1 + 1 + 1, 1, none⟩ = some (.int .i64 st) := fun v hv => blk_cell hv.1 1 _ rfl
  have K2 : ∀ v, RC w (w.heap.size + 1 + 1 + 1) #[.int .i64 gn, .int .i64 st, .int .i64 ba, .string bo] s a4 0 v → v.cell? ⟨w.heap.size + 1 + 1 + 1, 2, none⟩ = some (.int .i64 ba) := fun v hv => blk_cell hv.1 2 _ rfl
  have K3 : ∀ v, RC w (w.heap.size + 1 + 1 + 1) #[.int .i64 gn, .int .i64 st, .int .i64 ba, .string bo] s a4 0 v → v.cell? ⟨w.heap.size + 1 + 1 + 1, 3, none⟩ = some (.string bo) := fun v hv => blk_cell hv.1 3 _ rfl
  have K4 : ∀ v, RC w (w.heap.size + 1 + 1 + 1) #[.int .i64 gn, .int .i64 st, .int .i64 ba, .string bo] s a4 0 v → v.cell? ⟨w.heap.size + 1 + 1, 1, none⟩ = some (.int .i64 a4) := fun v hv => RR.c1 hv.2
  refine g_take (HG _) (i := 0) (v := ?_) rfl (by kernel_rfl) (by kernel_rfl) (by kernel_rfl) (by kernel_rfl) (by kernel_rfl) (fun _ _ _ h => h) (Still.yes (by kernel_rfl) fun w hS => ?_) ?_
  rotate_left 1
  · skip
    go_simp
    refine gives_mk ?_ rfl
    with_reducible rfl
  refine g_take (HG _) (i := 1) (v := ?_) rfl (by kernel_rfl) (by kernel_rfl) (by kernel_rfl) (by kernel_rfl) (by kernel_rfl) (fun _ _ _ h => h) (Still.yes (by kernel_rfl) fun w hS => ?_) ?_
  rotate_left 1
  · skip
    go_simp
    refine gives_mk ?_ rfl
    with_reducible rfl
  refine g_take (HG _) (i := 2) (v := ?_) rfl (by kernel_rfl) (by kernel_rfl) (by kernel_rfl) (by kernel_rfl) (by kernel_rfl) (fun _ _ _ h => h) (Still.yes (by kernel_rfl) fun w hS => ?_) ?_
  rotate_left 1
  · skip
    go_simp
    refine gives_mk ?_ rfl
    with_reducible rfl
  refine g_take (HG _) (i := 3) (v := ?_) rfl (by kernel_rfl) (by kernel_rfl) (by kernel_rfl) (by kernel_rfl) (by kernel_rfl) (fun _ _ _ h => h) (Still.yes (by kernel_rfl) fun w hS => ?_) ?_
  rotate_left 1
  · skip
    go_simp
    refine gives_mk ?_ rfl
    with_reducible rfl
  refine g_take (HG _) (i := 4) (v := ?_) rfl (by kernel_rfl) (by kernel_rfl) (by kernel_rfl) (by kernel_rfl) (by kernel_rfl) (fun _ _ _ h => h) (Still.yes (by kernel_rfl) fun w hS => ?_) ?_
  rotate_left 1
  · skip
    go_simp
    refine gives_mk ?_ rfl
    with_reducible rfl
  refine g_turn (RBD w (w.heap.size + 1 + 1 + 1) #[.int .i64 gn, .int .i64 st, .int .i64 ba, .string bo] #[.int .i64 gn, .int .i64 st, .int .i64 ba, .string bo] s a4 0) (k := 5) (by kernel_rfl) (fun _ _ h _ => h.2) (fun v hv => ?_)
  refine at_skip rfl (by kernel_rfl) ?_ ?_
  · subst hv
    have z0 := blk_cell HTW.out.1 0 (.int .i64 0) rfl
    have z1 := blk_cell HTW.out.1 1 (.int .i64 0) rfl
    have z2 := blk_cell HTW.out.1 2 (.int .i64 0) rfl
    have z3 := blk_cell HTW.out.1 3 (.string ⟨#[]⟩) rfl
    have y0 := frozen_of_row _ _ 0 _ _ HTW.out.1
    have y1 := frozen_of_row _ _ 1 _ _ HTW.out.1
    have y2 := frozen_of_row _ _ 2 _ _ HTW.out.1
    have y3 := frozen_of_row _ _ 3 _ _ HTW.out.1
    have x0 := blk_cell HTW.out.2.1 0 (.int .i64 0) rfl
    have x1 := blk_cell HTW.out.2.1 1 (.int .i64 0) rfl
    have x2 := blk_cell HTW.out.2.1 2 (.int .i64 0) rfl
    have x3 := blk_cell HTW.out.2.1 3 (.string ⟨#[]⟩) rfl
    clear K0 K1 K2 K3 K4 HG
    go_simp
    first | exact ⟨⟨blk_set (blk_set (blk_set (blk_set HTW.out.1 0 (.int .i64 gn)) 1 (.int .i64 st)) 2 (.int .i64 ba)) 3 (.string bo), HTW.out.2.2.set4 _ _ _ _⟩, HCC.out.set4 (by omega) _ _ _ _⟩ | exact ⟨_, rfl, ⟨blk_set (blk_set (blk_set (blk_set HTW.out.1 0 (.int .i64 gn)) 1 (.int .i64 st)) 2 (.int .i64 ba)) 3 (.string bo), HTW.out.2.2.set4 _ _ _ _⟩, HCC.out.set4 (by omega) _ _ _ _⟩
  have HG : ∀ (l : Array Bool) v, RBD w (w.heap.size + 1 + 1 + 1) #[.int .i64 gn, .int .i64 st, .int .i64 ba, .string bo] #[.int .i64 gn, .int .i64 st, .int .i64 ba, .string bo] s a4 0 undef v → l.getD 99 false = false → RC w (w.heap.size + 1 + 1 + 1) #[.int .i64 gn, .int .i64 st, .int .i64 ba, .string bo] s a4 0 v := fun _ _ h _ => h.2
  refine g_free (HG _) (i := 6) (v := ?_) rfl (by kernel_rfl) (by kernel_rfl) (by kernel_rfl) (by kernel_rfl) (fun _ _ _ h => h) (Still.yes (by kernel_rfl) fun w hS => ?_) ?_
  rotate_left 1
  · skip
    go_simp
    refine gives_mk ?_ rfl
    with_reducible rfl
  refine g_free (HG _) (i := 7) (v := ?_) rfl (by kernel_rfl) (by kernel_rfl) (by kernel_rfl) (by kernel_rfl) (fun _ _ _ h => h) (Still.yes (by kernel_rfl) fun w hS => ?_) ?_
  rotate_left 1
  · skip
    go_simp
    refine gives_mk ?_ rfl
    with_reducible rfl
  refine g_done (by kernel_rfl) ?_ _
  intro w6 hw6
  clear K0 K1 K2 K3 K4 HG
  obtain ⟨⟨hzz, hx5⟩, _⟩ := hw6
  have t0 := blk_cell hzz 0 (.int .i64 gn) rfl
  have t1 := blk_cell hzz 1 (.int .i64 st) rfl
  have t2 := blk_cell hzz 2 (.int .i64 ba) rfl
  have t3 := blk_cell hzz 3 (.string bo) rfl
  clear hzz
  go_simp
  go_wp2
  refine bodyPost_ret (v := .tuple #[.agg #[.int .i64 gn, .int .i64 st, .int .i64 ba, .string bo], .int .i64 a4, .int .i64 0]) (by simp [results, Try.results10, go_sem, t0, t1, t2, t3]) rfl ⟨rfl, hx5⟩
theorem rbdecode_any (s : ByteArray) (a : Int) (w : World) (hs : s.size ≤ maxLen) : Calls Try.prog 10 #[.string s, .int .i64 a] w (BDec (Bt.decP s a) w) := by
  by_cases h : a < 0 ∨ (s.size : Int) < a
  · rw [show Bt.decP s a = (Bt.zero, 0, 1) by unfold Bt.decP; rw [if_pos h]]
    exact rbdec_out s a w h
  · obtain ⟨k, rfl⟩ := Int.eq_ofNat_of_zero_le (show 0 ≤ a by omega)
    have hk : k ≤ s.size := by omega
    by_cases hke : k = s.size
    · subst hke
      have hd : Bt.decP s (s.size : Nat) = (Bt.zero, 0, 10) := by
        rw [Bt.decP_nat s s.size (Nat.le_refl _), show s.data.toList.drop s.size = [] by apply List.drop_eq_nil_of_le; simp]
        rfl
      rw [hd]
      exact rbdec_short s w hs
    · have hlt : k < s.size := by omega
      have hl := drop_cons s k hlt
      by_cases h66 : s[k] = 66
      · rw [h66] at hl
        rcases h1 : Wi.num s ((k : Int) + 1) 0 with ⟨gn, a1, e1⟩
        rcases h2 : Wi.num s a1 e1 with ⟨st, a2, e2⟩
        rcases h3 : Wi.num s a2 e2 with ⟨ba, a3, e3⟩
        rcases h4 : Wi.text s a3 e3 with ⟨bo, a4, e4⟩
        obtain ⟨r1, r2⟩ := Bt.rd_dec s (k + 1) (by omega) gn a1 e1 st a2 e2 ba a3 e3 bo a4 e4 h1 h2 h3 h4
        have hdec : Bt.dec (66 :: s.data.toList.drop (k + 1)) = if (Bt.decT (s.data.toList.drop (k + 1))).2.2 = 0 then if (Bt.decT (s.data.toList.drop (k + 1))).1.may then ((Bt.decT (s.data.toList.drop (k + 1))).1, 1 + (Bt.decT (s.data.toList.drop (k + 1))).2.1, 0) else (Bt.zero, 0, 50) else (Bt.zero, 0, (Bt.decT (s.data.toList.drop (k + 1))).2.2) := by
          simp [Bt.dec]
        by_cases h0 : (Bt.decT (s.data.toList.drop (k + 1))).2.2 = 0
        · obtain ⟨he, hb, ha4⟩ := r1 h0
          rw [if_pos h0, hb] at hdec
          by_cases hm : Bt.may ⟨gn, st, ba, bo⟩ = true
          · rw [if_pos hm] at hdec
            rw [Bt.decP_nat s k hk, hl, hdec]
            simp only [if_true]
            have : (k : Int) + ((1 + (Bt.decT (s.data.toList.drop (k + 1))).2.1 : Nat) : Int) = a4 := by rw [ha4]; omega
            rw [this]
            exact rbdec_ok s k w hs hlt h66 gn a1 e1 st a2 e2 ba a3 e3 bo a4 e4 h1 h2 h3 h4 he hm
          · rw [if_neg hm] at hdec
            rw [Bt.decP_nat s k hk, hl, hdec]
            exact rbdec_no s k w hs hlt h66 gn a1 e1 st a2 e2 ba a3 e3 bo a4 e4 h1 h2 h3 h4 he (by simpa using hm)
        · rw [if_neg h0] at hdec
          rw [Bt.decP_nat s k hk, hl, hdec]
          simp only
          rw [if_neg h0, ← r2 h0]
          exact rbdec_err s k w hs hlt h66 gn a1 e1 st a2 e2 ba a3 e3 bo a4 e4 h1 h2 h3 h4 (by rw [r2 h0]; omega)
      · have hd : Bt.dec (s[k] :: s.data.toList.drop (k + 1)) = (Bt.zero, 0, 50) := by simp only [Bt.dec]; rw [if_neg h66]
        rw [Bt.decP_nat s k hk, hl, hd]
        exact rbdec_mark s k w hs hlt h66

end Go.Proofs.Ytlbhpgieehallaa
