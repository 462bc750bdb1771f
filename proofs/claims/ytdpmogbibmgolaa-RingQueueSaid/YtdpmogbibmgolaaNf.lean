/-
  The contract of ring.Pop.
-/
import Derived.Test.YtdpmogbibmgolaaNe
set_option linter.unusedVariables false
set_option linter.unusedSimpArgs false
namespace Go.Proofs.Ytdpmogbibmgolaa
open Go.RowKit
set_option maxRecDepth 100000 in
set_option maxHeartbeats 1000000 in
theorem rpop_no (b0 b1 b2 b3 b4 b5 b6 b7 hd nn : Int) (hm : Ri.may ⟨[b0, b1, b2, b3, b4, b5, b6, b7], hd, nn⟩ = false) (w : World) :
    Calls Try.prog 11 #[.agg #[.int .i64 b0, .int .i64 b1, .int .i64 b2, .int .i64 b3, .int .i64 b4, .int .i64 b5, .int .i64 b6, .int .i64 b7, .int .i64 hd, .int .i64 nn]] w fun e w' => e = .returned (.tuple #[.agg #[.int .i64 0, .int .i64 0, .int .i64 0, .int .i64 0, .int .i64 0, .int .i64 0, .int .i64 0, .int .i64 0, .int .i64 0, .int .i64 0], .int .i64 0, .bool false]) ∧ Ext w w' := by
  have HM := Lib.hid hm
  clear hm
  go_enter Try.func11, Try.ntmps11
  go_wp2_with fail
  refine (rmay_eq b0 b1 b2 b3 b4 b5 b6 b7 hd nn _ HM.out _).mono ?_
  rintro r w1 ⟨rfl, hx1⟩
  have HX := Lib.hid ((((Ext.refl w).alloc (.cells #[.int .i64 b0, .int .i64 b1, .int .i64 b2, .int .i64 b3, .int .i64 b4, .int .i64 b5, .int .i64 b6, .int .i64 b7, .int .i64 hd, .int .i64 nn] 24)).alloc (.cells #[.int .i64 0, .int .i64 0, .int .i64 0, .int .i64 0, .int .i64 0, .int .i64 0, .int .i64 0, .int .i64 0, .int .i64 0, .int .i64 0] 24)).trans hx1)
  have HZB : Hid (w1.heap[w.heap.size + 1]? = some (.cells #[.int .i64 0, .int .i64 0, .int .i64 0, .int .i64 0, .int .i64 0, .int .i64 0, .int .i64 0, .int .i64 0, .int .i64 0, .int .i64 0] 24 (0, 0))) := Lib.hid (hx1.blk (by have := blk_new (w.alloc (.cells #[.int .i64 b0, .int .i64 b1, .int .i64 b2, .int .i64 b3, .int .i64 b4, .int .i64 b5, .int .i64 b6, .int .i64 b7, .int .i64 hd, .int .i64 nn] 24)) (.cells #[.int .i64 0, .int .i64 0, .int .i64 0, .int .i64 0, .int .i64 0, .int .i64 0, .int .i64 0, .int .i64 0, .int .i64 0, .int .i64 0] 24); rwa [World.size_alloc] at this))
  clear hx1
  obtain ⟨⟨z0, z1, z2, z3, z4⟩, z5, z6, z7, z8, z9⟩ := cells10 HZB.out
  obtain ⟨⟨y0, y1, y2, y3, y4⟩, y5, y6, y7, y8, y9⟩ := frozen10 HZB.out
  go_wp2
  have hzz := set10_at HZB.out (.int .i64 0) (.int .i64 0) (.int .i64 0) (.int .i64 0) (.int .i64 0) (.int .i64 0) (.int .i64 0) (.int .i64 0) (.int .i64 0) (.int .i64 0)
  clear z0 z1 z2 z3 z4 z5 z6 z7 z8 z9 y0 y1 y2 y3 y4 y5 y6 y7 y8 y9
  obtain ⟨⟨t0, t1, t2, t3, t4⟩, t5, t6, t7, t8, t9⟩ := cells10 hzz
  refine bodyPost_ret (v := .tuple #[.agg #[.int .i64 0, .int .i64 0, .int .i64 0, .int .i64 0, .int .i64 0, .int .i64 0, .int .i64 0, .int .i64 0, .int .i64 0, .int .i64 0], .int .i64 0, .bool false]) (by simp [results, Try.results11, go_sem, t0, t1, t2, t3, t4, t5, t6, t7, t8, t9]) rfl ⟨rfl, ?_⟩
  exact set10_ext HX.out (by omega) _ _ _ _ _ _ _ _ _ _
set_option maxRecDepth 100000 in
set_option maxHeartbeats 1000000 in
theorem rpop_none (b0 b1 b2 b3 b4 b5 b6 b7 hd nn : Int) (hm : Ri.may ⟨[b0, b1, b2, b3, b4, b5, b6, b7], hd, nn⟩ = true) (h0 : nn = 0) (w : World) :
    Calls Try.prog 11 #[.agg #[.int .i64 b0, .int .i64 b1, .int .i64 b2, .int .i64 b3, .int .i64 b4, .int .i64 b5, .int .i64 b6, .int .i64 b7, .int .i64 hd, .int .i64 nn]] w fun e w' => e = .returned (.tuple #[.agg #[.int .i64 b0, .int .i64 b1, .int .i64 b2, .int .i64 b3, .int .i64 b4, .int .i64 b5, .int .i64 b6, .int .i64 b7, .int .i64 hd, .int .i64 nn], .int .i64 0, .bool false]) ∧ Ext w w' := by
  have HM := Lib.hid hm
  have e0 : (nn == 0) = true := by simpa using h0
  clear hm h0
  go_enter Try.func11, Try.ntmps11
  go_wp2_with fail
  refine (rmay_eq b0 b1 b2 b3 b4 b5 b6 b7 hd nn _ HM.out _).mono ?_
  rintro r w1 ⟨rfl, hx1⟩
  have HX := Lib.hid ((((Ext.refl w).alloc (.cells #[.int .i64 b0, .int .i64 b1, .int .i64 b2, .int .i64 b3, .int .i64 b4, .int .i64 b5, .int .i64 b6, .int .i64 b7, .int .i64 hd, .int .i64 nn] 24)).alloc (.cells #[.int .i64 0, .int .i64 0, .int .i64 0, .int .i64 0, .int .i64 0, .int .i64 0, .int .i64 0, .int .i64 0, .int .i64 0, .int .i64 0] 24)).trans hx1)
  have HZB : Hid (w1.heap[w.heap.size + 1]? = some (.cells #[.int .i64 0, .int .i64 0, .int .i64 0, .int .i64 0, .int .i64 0, .int .i64 0, .int .i64 0, .int .i64 0, .int .i64 0, .int .i64 0] 24 (0, 0))) := Lib.hid (hx1.blk (by have := blk_new (w.alloc (.cells #[.int .i64 b0, .int .i64 b1, .int .i64 b2, .int .i64 b3, .int .i64 b4, .int .i64 b5, .int .i64 b6, .int .i64 b7, .int .i64 hd, .int .i64 nn] 24)) (.cells #[.int .i64 0, .int .i64 0, .int .i64 0, .int .i64 0, .int .i64 0, .int .i64 0, .int .i64 0, .int .i64 0, .int .i64 0, .int .i64 0] 24); rwa [World.size_alloc] at this))
  obtain ⟨⟨q0, q1, q2, q3, q4⟩, q5, q6, q7, q8, q9⟩ := cells10 (hx1.blk (blk_alloc (blk_new w (.cells #[.int .i64 b0, .int .i64 b1, .int .i64 b2, .int .i64 b3, .int .i64 b4, .int .i64 b5, .int .i64 b6, .int .i64 b7, .int .i64 hd, .int .i64 nn] 24)) (.cells #[.int .i64 0, .int .i64 0, .int .i64 0, .int .i64 0, .int .i64 0, .int .i64 0, .int .i64 0, .int .i64 0, .int .i64 0, .int .i64 0] 24)))
  clear hx1
  obtain ⟨⟨z0, z1, z2, z3, z4⟩, z5, z6, z7, z8, z9⟩ := cells10 HZB.out
  obtain ⟨⟨y0, y1, y2, y3, y4⟩, y5, y6, y7, y8, y9⟩ := frozen10 HZB.out
  go_wp2
  have hzz := set10_at HZB.out (.int .i64 b0) (.int .i64 b1) (.int .i64 b2) (.int .i64 b3) (.int .i64 b4) (.int .i64 b5) (.int .i64 b6) (.int .i64 b7) (.int .i64 hd) (.int .i64 nn)
  clear z0 z1 z2 z3 z4 z5 z6 z7 z8 z9 y0 y1 y2 y3 y4 y5 y6 y7 y8 y9
  clear q0 q1 q2 q3 q4 q5 q6 q7 q8 q9
  obtain ⟨⟨t0, t1, t2, t3, t4⟩, t5, t6, t7, t8, t9⟩ := cells10 hzz
  refine bodyPost_ret (v := .tuple #[.agg #[.int .i64 b0, .int .i64 b1, .int .i64 b2, .int .i64 b3, .int .i64 b4, .int .i64 b5, .int .i64 b6, .int .i64 b7, .int .i64 hd, .int .i64 nn], .int .i64 0, .bool false]) (by simp [results, Try.results11, go_sem, t0, t1, t2, t3, t4, t5, t6, t7, t8, t9]) rfl ⟨rfl, ?_⟩
  exact set10_ext HX.out (by omega) _ _ _ _ _ _ _ _ _ _
set_option maxRecDepth 100000 in
set_option maxHeartbeats 1000000 in
theorem rpop_ok (b0 b1 b2 b3 b4 b5 b6 b7 : Int) (hd nn : Nat) (hhd : hd < 8) (hnn : nn ≤ 8) (h0 : 0 < nn) (hm : Ri.may ⟨[b0, b1, b2, b3, b4, b5, b6, b7], hd, nn⟩ = true) (c0 c1 c2 c3 c4 c5 c6 c7 x : Int) (hc : ([b0, b1, b2, b3, b4, b5, b6, b7]).set hd 0 = [c0, c1, c2, c3, c4, c5, c6, c7]) (hxx : ([b0, b1, b2, b3, b4, b5, b6, b7])[hd]?.getD 0 = x) (w : World) :
    Calls Try.prog 11 #[.agg #[.int .i64 b0, .int .i64 b1, .int .i64 b2, .int .i64 b3, .int .i64 b4, .int .i64 b5, .int .i64 b6, .int .i64 b7, .int .i64 (hd : Int), .int .i64 (nn : Int)]] w fun e w' => e = .returned (.tuple #[.agg #[.int .i64 c0, .int .i64 c1, .int .i64 c2, .int .i64 c3, .int .i64 c4, .int .i64 c5, .int .i64 c6, .int .i64 c7, .int .i64 (((hd : Int) + 1) % 8), .int .i64 ((nn : Int) - 1)], .int .i64 x, .bool true]) ∧ Ext w w' := by
  have HM := Lib.hid hm
  clear hm
  have e0 : ((nn : Int) == 0) = false := beq_eq_false_iff_ne.2 (by omega)
  go_enter Try.func11, Try.ntmps11
  go_wp2_with fail
  refine (rmay_eq b0 b1 b2 b3 b4 b5 b6 b7 hd nn _ HM.out _).mono ?_
  rintro r w1 ⟨rfl, hx1⟩
  have HX := Lib.hid ((((Ext.refl w).alloc (.cells #[.int .i64 b0, .int .i64 b1, .int .i64 b2, .int .i64 b3, .int .i64 b4, .int .i64 b5, .int .i64 b6, .int .i64 b7, .int .i64 (hd : Int), .int .i64 (nn : Int)] 24)).alloc (.cells #[.int .i64 0, .int .i64 0, .int .i64 0, .int .i64 0, .int .i64 0, .int .i64 0, .int .i64 0, .int .i64 0, .int .i64 0, .int .i64 0] 24)).trans hx1)
  have hb : w1.heap[w.heap.size]? = some (.cells (⟨[b0, b1, b2, b3, b4, b5, b6, b7], hd, nn⟩ : Ri).cells 24 (0, 0)) := hx1.blk (blk_alloc (blk_new w (.cells #[.int .i64 b0, .int .i64 b1, .int .i64 b2, .int .i64 b3, .int .i64 b4, .int .i64 b5, .int .i64 b6, .int .i64 b7, .int .i64 (hd : Int), .int .i64 (nn : Int)] 24)) (.cells #[.int .i64 0, .int .i64 0, .int .i64 0, .int .i64 0, .int .i64 0, .int .i64 0, .int .i64 0, .int .i64 0, .int .i64 0, .int .i64 0] 24))
  have HZ1 : Hid (w1.heap[w.heap.size + 1]? = some (.cells #[.int .i64 0, .int .i64 0, .int .i64 0, .int .i64 0, .int .i64 0, .int .i64 0, .int .i64 0, .int .i64 0, .int .i64 0, .int .i64 0] 24 (0, 0))) := Lib.hid (hx1.blk (by have := blk_new (w.alloc (.cells #[.int .i64 b0, .int .i64 b1, .int .i64 b2, .int .i64 b3, .int .i64 b4, .int .i64 b5, .int .i64 b6, .int .i64 b7, .int .i64 (hd : Int), .int .i64 (nn : Int)] 24)) (.cells #[.int .i64 0, .int .i64 0, .int .i64 0, .int .i64 0, .int .i64 0, .int .i64 0, .int .i64 0, .int .i64 0, .int .i64 0, .int .i64 0] 24); rwa [World.size_alloc] at this))
  have p8 := blk_cell hb 8 (.int .i64 (hd : Int)) rfl
  have p9 := blk_cell hb 9 (.int .i64 (nn : Int)) rfl
  have pj := blk_cell hb hd _ (Ri.cells_buf rfl _ hhd)
  rw [hxx] at pj
  have yj := frozen_of_row _ _ hd _ _ hb
  have e3 : (0 : Int) ≤ (hd : Int) := by omega
  have e4 : (hd : Int) < 8 := by omega
  have e5 : IntKind.i64.wrap ((hd : Int) + 1) = (hd : Int) + 1 := IntWalk.i64_in _ (by omega)
  have e6 : ((hd : Int) + 1).tmod 8 = ((hd : Int) + 1) % 8 := Int.tmod_eq_emod_of_nonneg (by omega)
  have e7 : IntKind.i64.wrap ((nn : Int) - 1) = (nn : Int) - 1 := IntWalk.i64_in _ (by omega)
  have e8 : IntKind.i64.wrap (((hd : Int) + 1) % 8) = ((hd : Int) + 1) % 8 := IntWalk.i64_in _ (by omega)
  have HB2 : Hid ((w1.setCell ⟨w.heap.size, hd, none⟩ (.int .i64 0)).heap[w.heap.size]? = some (.cells #[.int .i64 c0, .int .i64 c1, .int .i64 c2, .int .i64 c3, .int .i64 c4, .int .i64 c5, .int .i64 c6, .int .i64 c7, .int .i64 (hd : Int), .int .i64 (nn : Int)] 24 (0, 0))) := Lib.hid (by
    have := blk_set hb hd (.int .i64 0)
    rw [Ri.cells_set rfl _ hhd] at this
    simp only [hc] at this
    exact this)
  have HZ2 : Hid ((w1.setCell ⟨w.heap.size, hd, none⟩ (.int .i64 0)).heap[w.heap.size + 1]? = some (.cells #[.int .i64 0, .int .i64 0, .int .i64 0, .int .i64 0, .int .i64 0, .int .i64 0, .int .i64 0, .int .i64 0, .int .i64 0, .int .i64 0] 24 (0, 0))) := Lib.hid (blk_set_other HZ1.out _ (by simp) _)
  have HX2 : Hid (Ext w (w1.setCell ⟨w.heap.size, hd, none⟩ (.int .i64 0))) := Lib.hid (HX.out.setCell (Nat.le_refl _) _)
  clear hx1 hb
  go_upto_region 7 with fail
  generalize hw2 : w1.setCell ⟨w.heap.size, hd, none⟩ (.int .i64 0) = w2 at *
  clear hw2 p8 p9 pj yj HX HZ1
  have q8 := blk_cell HB2.out 8 (.int .i64 (hd : Int)) rfl
  have x8 := frozen_of_row _ _ 8 _ _ HB2.out
  have HB3 : Hid ((w2.setCell ⟨w.heap.size, 8, none⟩ (.int .i64 (((hd : Int) + 1) % 8))).heap[w.heap.size]? = some (.cells #[.int .i64 c0, .int .i64 c1, .int .i64 c2, .int .i64 c3, .int .i64 c4, .int .i64 c5, .int .i64 c6, .int .i64 c7, .int .i64 (((hd : Int) + 1) % 8), .int .i64 (nn : Int)] 24 (0, 0))) := Lib.hid (blk_set HB2.out 8 (.int .i64 (((hd : Int) + 1) % 8)))
  have HZ3 : Hid ((w2.setCell ⟨w.heap.size, 8, none⟩ (.int .i64 (((hd : Int) + 1) % 8))).heap[w.heap.size + 1]? = some (.cells #[.int .i64 0, .int .i64 0, .int .i64 0, .int .i64 0, .int .i64 0, .int .i64 0, .int .i64 0, .int .i64 0, .int .i64 0, .int .i64 0] 24 (0, 0))) := Lib.hid (blk_set_other HZ2.out _ (by simp) _)
  have HX3 : Hid (Ext w (w2.setCell ⟨w.heap.size, 8, none⟩ (.int .i64 (((hd : Int) + 1) % 8)))) := Lib.hid (HX2.out.setCell (Nat.le_refl _) _)
  go_upto_region 8 with fail
  generalize hw3 : w2.setCell ⟨w.heap.size, 8, none⟩ (.int .i64 (((hd : Int) + 1) % 8)) = w3 at *
  clear hw3 q8 x8 HB2 HZ2 HX2
  have q9 := blk_cell HB3.out 9 (.int .i64 (nn : Int)) rfl
  have x9 := frozen_of_row _ _ 9 _ _ HB3.out
  have HB4 : Hid ((w3.setCell ⟨w.heap.size, 9, none⟩ (.int .i64 ((nn : Int) - 1))).heap[w.heap.size]? = some (.cells #[.int .i64 c0, .int .i64 c1, .int .i64 c2, .int .i64 c3, .int .i64 c4, .int .i64 c5, .int .i64 c6, .int .i64 c7, .int .i64 (((hd : Int) + 1) % 8), .int .i64 ((nn : Int) - 1)] 24 (0, 0))) := Lib.hid (blk_set HB3.out 9 (.int .i64 ((nn : Int) - 1)))
  have HZ4 : Hid ((w3.setCell ⟨w.heap.size, 9, none⟩ (.int .i64 ((nn : Int) - 1))).heap[w.heap.size + 1]? = some (.cells #[.int .i64 0, .int .i64 0, .int .i64 0, .int .i64 0, .int .i64 0, .int .i64 0, .int .i64 0, .int .i64 0, .int .i64 0, .int .i64 0] 24 (0, 0))) := Lib.hid (blk_set_other HZ3.out _ (by simp) _)
  have HX4 : Hid (Ext w (w3.setCell ⟨w.heap.size, 9, none⟩ (.int .i64 ((nn : Int) - 1)))) := Lib.hid (HX3.out.setCell (Nat.le_refl _) _)
  go_upto_region 9 with fail
  generalize hw4 : w3.setCell ⟨w.heap.size, 9, none⟩ (.int .i64 ((nn : Int) - 1)) = w4 at *
  clear hw4 q9 x9 HB3 HZ3 HX3 e5 e6 e7 e8
  obtain ⟨⟨q0, q1, q2, q3, q4⟩, q5, q6, q7, q8, q9⟩ := cells10 HB4.out
  have HZB := HZ4
  obtain ⟨⟨z0, z1, z2, z3, z4⟩, z5, z6, z7, z8, z9⟩ := cells10 HZB.out
  obtain ⟨⟨y0, y1, y2, y3, y4⟩, y5, y6, y7, y8, y9⟩ := frozen10 HZB.out
  go_wp2
  have hzz := set10_at HZB.out (.int .i64 c0) (.int .i64 c1) (.int .i64 c2) (.int .i64 c3) (.int .i64 c4) (.int .i64 c5) (.int .i64 c6) (.int .i64 c7) (.int .i64 (((hd : Int) + 1) % 8)) (.int .i64 ((nn : Int) - 1))
  clear z0 z1 z2 z3 z4 z5 z6 z7 z8 z9 y0 y1 y2 y3 y4 y5 y6 y7 y8 y9
  clear q0 q1 q2 q3 q4 q5 q6 q7 q8 q9
  obtain ⟨⟨t0, t1, t2, t3, t4⟩, t5, t6, t7, t8, t9⟩ := cells10 hzz
  refine bodyPost_ret (v := .tuple #[.agg #[.int .i64 c0, .int .i64 c1, .int .i64 c2, .int .i64 c3, .int .i64 c4, .int .i64 c5, .int .i64 c6, .int .i64 c7, .int .i64 (((hd : Int) + 1) % 8), .int .i64 ((nn : Int) - 1)], .int .i64 x, .bool true]) (by simp [results, Try.results11, go_sem, t0, t1, t2, t3, t4, t5, t6, t7, t8, t9]) rfl ⟨rfl, ?_⟩
  exact set10_ext HX4.out (by omega) _ _ _ _ _ _ _ _ _ _
/-- What a call of Pop answers. -/
theorem rpop_k (b0 b1 b2 b3 b4 b5 b6 b7 hd nn : Int) (c0 c1 c2 c3 c4 c5 c6 c7 hd' nn' x : Int) (ok : Bool) (h : Ri.pop ⟨[b0, b1, b2, b3, b4, b5, b6, b7], hd, nn⟩ = (⟨[c0, c1, c2, c3, c4, c5, c6, c7], hd', nn'⟩, x, ok)) (w : World) :
    Calls Try.prog 11 #[.agg #[.int .i64 b0, .int .i64 b1, .int .i64 b2, .int .i64 b3, .int .i64 b4, .int .i64 b5, .int .i64 b6, .int .i64 b7, .int .i64 hd, .int .i64 nn]] w fun e w' => e = .returned (.tuple #[.agg #[.int .i64 c0, .int .i64 c1, .int .i64 c2, .int .i64 c3, .int .i64 c4, .int .i64 c5, .int .i64 c6, .int .i64 c7, .int .i64 hd', .int .i64 nn'], .int .i64 x, .bool ok]) ∧ Ext w w' := by
  unfold Ri.pop at h
  split at h
  · rename_i hm
    have hi : Ri.inside ⟨[b0, b1, b2, b3, b4, b5, b6, b7], hd, nn⟩ = true := by have := hm; unfold Ri.may at this; rw [Bool.and_eq_true] at this; exact this.1
    obtain ⟨a, n, rfl, rfl, h1, h2⟩ := Ri.inside_nat hi
    split at h
    · rename_i h0
      simp only [Prod.mk.injEq, Ri.mk.injEq, List.cons.injEq, and_true] at h
      obtain ⟨⟨⟨rfl, rfl, rfl, rfl, rfl, rfl, rfl, rfl⟩, rfl, rfl⟩, rfl, rfl⟩ := h
      exact rpop_none b0 b1 b2 b3 b4 b5 b6 b7 a n hm h0 w
    · rename_i h0
      simp only [Prod.mk.injEq, Ri.mk.injEq, Int.toNat_natCast] at h
      obtain ⟨⟨hs, rfl, rfl⟩, hx, rfl⟩ := h
      exact rpop_ok b0 b1 b2 b3 b4 b5 b6 b7 a n h1 h2 (by simp only at h0; omega) hm c0 c1 c2 c3 c4 c5 c6 c7 x hs hx w
  · rename_i hm
    simp only [Prod.mk.injEq, Ri.zero, Ri.mk.injEq, List.cons.injEq, and_true] at h
    obtain ⟨⟨⟨rfl, rfl, rfl, rfl, rfl, rfl, rfl, rfl⟩, rfl, rfl⟩, rfl, rfl⟩ := h
    exact rpop_no b0 b1 b2 b3 b4 b5 b6 b7 hd nn (by simpa using hm) w

end Go.Proofs.Ytdpmogbibmgolaa
