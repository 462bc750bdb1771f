/-
  Several texts in one: Nf, Ng, Nh, Ni, Nj, Nk, Nl, Rg, Sa, Ta, Rp, Rq.
-/
import Derived.Test.YtogcfndhcphpaaaC01
import Derived.Maps.AppendAt
import Derived.Orders
import Derived.Deep.QuietTactic
import Derived.BigQuiet
set_option linter.unusedVariables false
set_option linter.unusedSimpArgs false
namespace Go.Proofs.Ytogcfndhcphpaaa
open Go.RowKit
set_option maxRecDepth 100000 in
set_option maxHeartbeats 1000000 in
theorem rpop_no (b0 b1 b2 b3 b4 b5 b6 b7 hd nn : Int) (hm : Ri.may ⟨[b0, b1, b2, b3, b4, b5, b6, b7], hd, nn⟩ = false) (w : World) :
    Calls Try.prog 114 #[.agg #[.int .i64 b0, .int .i64 b1, .int .i64 b2, .int .i64 b3, .int .i64 b4, .int .i64 b5, .int .i64 b6, .int .i64 b7, .int .i64 hd, .int .i64 nn]] w fun e w' => e = .returned (.tuple #[.agg #[.int .i64 0, .int .i64 0, .int .i64 0, .int .i64 0, .int .i64 0, .int .i64 0, .int .i64 0, .int .i64 0, .int .i64 0, .int .i64 0], .int .i64 0, .bool false]) ∧ Ext w w' := by
  have HM := Lib.hid hm
  clear hm
  go_enter Try.func114, Try.ntmps114
  go_wp2_with fail
  refine (rmay_eq b0 b1 b2 b3 b4 b5 b6 b7 hd nn _ HM.out _).mono ?_
  rintro r w1 ⟨rfl, hx1⟩
  have HX := Lib.hid ((((Ext.refl w).alloc (.cells #[.int .i64 b0, .int .i64 b1, .int .i64 b2, .int .i64 b3, .int .i64 b4, .int .i64 b5, .int .i64 b6, .int .i64 b7, .int .i64 hd, .int .i64 nn] 38)).alloc (.cells #[.int .i64 0, .int .i64 0, .int .i64 0, .int .i64 0, .int .i64 0, .int .i64 0, .int .i64 0, .int .i64 0, .int .i64 0, .int .i64 0] 38)).trans hx1)
  have HZB : Hid (w1.heap[w.heap.size + 1]? = some (.cells #[.int .i64 0, .int .i64 0, .int .i64 0, .int .i64 0, .int .i64 0, .int .i64 0, .int .i64 0, .int .i64 0, .int .i64 0, .int .i64 0] 38 (0, 0))) := Lib.hid (hx1.blk (by have := blk_new (w.alloc (.cells #[.int .i64 b0, .int .i64 b1, .int .i64 b2, .int .i64 b3, .int .i64 b4, .int .i64 b5, .int .i64 b6, .int .i64 b7, .int .i64 hd, .int .i64 nn] 38)) (.cells #[.int .i64 0, .int .i64 0, .int .i64 0, .int .i64 0, .int .i64 0, .int .i64 0, .int .i64 0, .int .i64 0, .int .i64 0, .int .i64 0] 38); rwa [World.size_alloc] at this))
  clear hx1
  obtain ⟨⟨z0, z1, z2, z3, z4⟩, z5, z6, z7, z8, z9⟩ := cells10 HZB.out
  obtain ⟨⟨y0, y1, y2, y3, y4⟩, y5, y6, y7, y8, y9⟩ := frozen10 HZB.out
  go_wp2
  have hzz := set10_at HZB.out (.int .i64 0) (.int .i64 0) (.int .i64 0) (.int .i64 0) (.int .i64 0) (.int .i64 0) (.int .i64 0) (.int .i64 0) (.int .i64 0) (.int .i64 0)
  clear z0 z1 z2 z3 z4 z5 z6 z7 z8 z9 y0 y1 y2 y3 y4 y5 y6 y7 y8 y9
  obtain ⟨⟨t0, t1, t2, t3, t4⟩, t5, t6, t7, t8, t9⟩ := cells10 hzz
  refine bodyPost_ret (v := .tuple #[.agg #[.int .i64 0, .int .i64 0, .int .i64 0, .int .i64 0, .int .i64 0, .int .i64 0, .int .i64 0, .int .i64 0, .int .i64 0, .int .i64 0], .int .i64 0, .bool false]) (by simp [results, Try.results114, go_sem, t0, t1, t2, t3, t4, t5, t6, t7, t8, t9]) rfl ⟨rfl, ?_⟩
  exact set10_ext HX.out (by omega) _ _ _ _ _ _ _ _ _ _
set_option maxRecDepth 100000 in
set_option maxHeartbeats 1000000 in
theorem rpop_none (b0 b1 b2 b3 b4 b5 b6 b7 hd nn : Int) (hm : Ri.may ⟨[b0, b1, b2, b3, b4, b5, b6, b7], hd, nn⟩ = true) (h0 : nn = 0) (w : World) :
    Calls Try.prog 114 #[.agg #[.int .i64 b0, .int .i64 b1, .int .i64 b2, .int .i64 b3, .int .i64 b4, .int .i64 b5, .int .i64 b6, .int .i64 b7, .int .i64 hd, .int .i64 nn]] w fun e w' => e = .returned (.tuple #[.agg #[.int .i64 b0, .int .i64 b1, .int .i64 b2, .int .i64 b3, .int .i64 b4, .int .i64 b5, .int .i64 b6, .int .i64 b7, .int .i64 hd, .int .i64 nn], .int .i64 0, .bool false]) ∧ Ext w w' := by
  have HM := Lib.hid hm
  have e0 : (nn == 0) = true := by simpa using h0
  clear hm h0
  go_enter Try.func114, Try.ntmps114
  go_wp2_with fail
  refine (rmay_eq b0 b1 b2 b3 b4 b5 b6 b7 hd nn _ HM.out _).mono ?_
  rintro r w1 ⟨rfl, hx1⟩
  have HX := Lib.hid ((((Ext.refl w).alloc (.cells #[.int .i64 b0, .int .i64 b1, .int .i64 b2, .int .i64 b3, .int .i64 b4, .int .i64 b5, .int .i64 b6, .int .i64 b7, .int .i64 hd, .int .i64 nn] 38)).alloc (.cells #[.int .i64 0, .int .i64 0, .int .i64 0, .int .i64 0, .int .i64 0, .int .i64 0, .int .i64 0, .int .i64 0, .int .i64 0, .int .i64 0] 38)).trans hx1)
  have HZB : Hid (w1.heap[w.heap.size + 1]? = some (.cells #[.int .i64 0, .int .i64 0, .int .i64 0, .int .i64 0, .int .i64 0, .int .i64 0, .int .i64 0, .int .i64 0, .int .i64 0, .int .i64 0] 38 (0, 0))) := Lib.hid (hx1.blk (by have := blk_new (w.alloc (.cells #[.int .i64 b0, .int .i64 b1, .int .i64 b2, .int .i64 b3, .int .i64 b4, .int .i64 b5, .int .i64 b6, .int .i64 b7, .int .i64 hd, .int .i64 nn] 38)) (.cells #[.int .i64 0, .int .i64 0, .int .i64 0, .int .i64 0, .int .i64 0, .int .i64 0, .int .i64 0, .int .i64 0, .int .i64 0, .int .i64 0] 38); rwa [World.size_alloc] at this))
  obtain ⟨⟨q0, q1, q2, q3, q4⟩, q5, q6, q7, q8, q9⟩ := cells10 (hx1.blk (blk_alloc (blk_new w (.cells #[.int .i64 b0, .int .i64 b1, .int .i64 b2, .int .i64 b3, .int .i64 b4, .int .i64 b5, .int .i64 b6, .int .i64 b7, .int .i64 hd, .int .i64 nn] 38)) (.cells #[.int .i64 0, .int .i64 0, .int .i64 0, .int .i64 0, .int .i64 0, .int .i64 0, .int .i64 0, .int .i64 0, .int .i64 0, .int .i64 0] 38)))
  clear hx1
  obtain ⟨⟨z0, z1, z2, z3, z4⟩, z5, z6, z7, z8, z9⟩ := cells10 HZB.out
  obtain ⟨⟨y0, y1, y2, y3, y4⟩, y5, y6, y7, y8, y9⟩ := frozen10 HZB.out
  go_wp2
  have hzz := set10_at HZB.out (.int .i64 b0) (.int .i64 b1) (.int .i64 b2) (.int .i64 b3) (.int .i64 b4) (.int .i64 b5) (.int .i64 b6) (.int .i64 b7) (.int .i64 hd) (.int .i64 nn)
  clear z0 z1 z2 z3 z4 z5 z6 z7 z8 z9 y0 y1 y2 y3 y4 y5 y6 y7 y8 y9
  clear q0 q1 q2 q3 q4 q5 q6 q7 q8 q9
  obtain ⟨⟨t0, t1, t2, t3, t4⟩, t5, t6, t7, t8, t9⟩ := cells10 hzz
  refine bodyPost_ret (v := .tuple #[.agg #[.int .i64 b0, .int .i64 b1, .int .i64 b2, .int .i64 b3, .int .i64 b4, .int .i64 b5, .int .i64 b6, .int .i64 b7, .int .i64 hd, .int .i64 nn], .int .i64 0, .bool false]) (by simp [results, Try.results114, go_sem, t0, t1, t2, t3, t4, t5, t6, t7, t8, t9]) rfl ⟨rfl, ?_⟩
  exact set10_ext HX.out (by omega) _ _ _ _ _ _ _ _ _ _
set_option maxRecDepth 100000 in
set_option maxHeartbeats 1000000 in
theorem rpop_ok (b0 b1 b2 b3 b4 b5 b6 b7 : Int) (hd nn : Nat) (hhd : hd < 8) (hnn : nn ≤ 8) (h0 : 0 < nn) (hm : Ri.may ⟨[b0, b1, b2, b3, b4, b5, b6, b7], hd, nn⟩ = true) (c0 c1 c2 c3 c4 c5 c6 c7 x : Int) (hc : ([b0, b1, b2, b3, b4, b5, b6, b7]).set hd 0 = [c0, c1, c2, c3, c4, c5, c6, c7]) (hxx : ([b0, b1, b2, b3, b4, b5, b6, b7])[hd]?.getD 0 = x) (w : World) :
    Calls Try.prog 114 #[.agg #[.int .i64 b0, .int .i64 b1, .int .i64 b2, .int .i64 b3, .int .i64 b4, .int .i64 b5, .int .i64 b6, .int .i64 b7, .int .i64 (hd : Int), .int .i64 (nn : Int)]] w fun e w' => e = .returned (.tuple #[.agg #[.int .i64 c0, .int .i64 c1, .int .i64 c2, .int .i64 c3, .int .i64 c4, .int .i64 c5, .int .i64 c6, .int .i64 c7, .int .i64 (((hd : Int) + 1) % 8), .int .i64 ((nn : Int) - 1)], .int .i64 x, .bool true]) ∧ Ext w w' := by
  have HM := Lib.hid hm
  clear hm
  have e0 : ((nn : Int) == 0) = false := beq_eq_false_iff_ne.2 (by omega)
  go_enter Try.func114, Try.ntmps114
  go_wp2_with fail
  refine (rmay_eq b0 b1 b2 b3 b4 b5 b6 b7 hd nn _ HM.out _).mono ?_
  rintro r w1 ⟨rfl, hx1⟩
  have HX := Lib.hid ((((Ext.refl w).alloc (.cells #[.int .i64 b0, .int .i64 b1, .int .i64 b2, .int .i64 b3, .int .i64 b4, .int .i64 b5, .int .i64 b6, .int .i64 b7, .int .i64 (hd : Int), .int .i64 (nn : Int)] 38)).alloc (.cells #[.int .i64 0, .int .i64 0, .int .i64 0, .int .i64 0, .int .i64 0, .int .i64 0, .int .i64 0, .int .i64 0, .int .i64 0, .int .i64 0] 38)).trans hx1)
  have hb : w1.heap[w.heap.size]? = some (.cells (⟨[b0, b1, b2, b3, b4, b5, b6, b7], hd, nn⟩ : Ri).cells 38 (0, 0)) := hx1.blk (blk_alloc (blk_new w (.cells #[.int .i64 b0, .int .i64 b1, .int .i64 b2, .int .i64 b3, .int .i64 b4, .int .i64 b5, .int .i64 b6, .int .i64 b7, .int .i64 (hd : Int), .int .i64 (nn : Int)] 38)) (.cells #[.int .i64 0, .int .i64 0, .int .i64 0, .int .i64 0, .int .i64 0, .int .i64 0, .int .i64 0, .int .i64 0, .int .i64 0, .int .i64 0] 38))
  have HZ1 : Hid (w1.heap[w.heap.size + 1]? = some (.cells #[.int .i64 0, .int .i64 0, .int .i64 0, .int .i64 0, .int .i64 0, .int .i64 0, .int .i64 0, .int .i64 0, .int .i64 0, .int .i64 0] 38 (0, 0))) := Lib.hid (hx1.blk (by have := blk_new (w.alloc (.cells #[.int .i64 b0, .int .i64 b1, .int .i64 b2, .int .i64 b3, .int .i64 b4, .int .i64 b5, .int .i64 b6, .int .i64 b7, .int .i64 (hd : Int), .int .i64 (nn : Int)] 38)) (.cells #[.int .i64 0, .int .i64 0, .int .i64 0, .int .i64 0, .int .i64 0, .int .i64 0, .int .i64 0, .int .i64 0, .int .i64 0, .int .i64 0] 38); rwa [World.size_alloc] at this))
  have p8 := blk_cell hb 8 (.int .i64 (hd : Int)) rfl
  have p9 := blk_cell hb 9 (.int .i64 (nn : Int)) rfl
  have pj := blk_cell hb hd _ (Ri.cells_buf rfl _ hhd)
  rw [hxx] at pj
  have yj := frozen_of_row _ _ hd _ _ hb
  have e3 : (0 : Int) ≤ (hd : Int) := by omega
  have e4 : (hd : Int) < 8 := by omega
  have e5 : IntKind.i64.wrap ((hd : Int) + 1) = (hd : Int) + 1 := IntWalk.i64_in _ (by omega)
  have e6 : ((hd : Int) + 1).tmod 8 = ((hd : Int) + 1) % 8 := Int.tmod_eq_emod_of_nonneg (by omega)
  have e7 : IntKind.i64.wrap ((nn : Int) - 1) = (nn : Int) - 1 := IntWalk.i64_in _ (by omega)
  have e8 : IntKind.i64.wrap (((hd : Int) + 1) % 8) = ((hd : Int) + 1) % 8 := IntWalk.i64_in _ (by omega)
  have HB2 : Hid ((w1.setCell ⟨w.heap.size, hd, none⟩ (.int .i64 0)).heap[w.heap.size]? = some (.cells #[.int .i64 c0, .int .i64 c1, .int .i64 c2, .int .i64 c3, .int .i64 c4, .int .i64 c5, .int .i64 c6, .int .i64 c7, .int .i64 (hd : Int), .int .i64 (nn : Int)] 38 (0, 0))) := Lib.hid (by
    have := blk_set hb hd (.int .i64 0)
    rw [Ri.cells_set rfl _ hhd] at this
    simp only [hc] at this
    exact this)
  have HZ2 : Hid ((w1.setCell ⟨w.heap.size, hd, none⟩ (.int .i64 0)).heap[w.heap.size + 1]? = some (.cells #[.int .i64 0, .int .i64 0, .int .i64 0, .int .i64 0, .int .i64 0, .int .i64 0, .int .i64 0, .int .i64 0, .int .i64 0, .int .i64 0] 38 (0, 0))) := Lib.hid (blk_set_other HZ1.out _ (by simp) _)
  have HX2 : Hid (Ext w (w1.setCell ⟨w.heap.size, hd, none⟩ (.int .i64 0))) := Lib.hid (HX.out.setCell (Nat.le_refl _) _)
  clear hx1 hb
  go_upto_region 7 with fail
  generalize hw2 : w1.setCell ⟨w.heap.size, hd, none⟩ (.int .i64 0) = w2 at *
  clear hw2 p8 p9 pj yj HX HZ1
  have q8 := blk_cell HB2.out 8 (.int .i64 (hd : Int)) rfl
  have x8 := frozen_of_row _ _ 8 _ _ HB2.out
  have HB3 : Hid ((w2.setCell ⟨w.heap.size, 8, none⟩ (.int .i64 (((hd : Int) + 1) % 8))).heap[w.heap.size]? = some (.cells #[.int .i64 c0, .int .i64 c1, .int .i64 c2, .int .i64 c3, .int .i64 c4, .int .i64 c5, .int .i64 c6, .int .i64 c7, .int .i64 (((hd : Int) + 1) % 8), .int .i64 (nn : Int)] 38 (0, 0))) := Lib.hid (blk_set HB2.out 8 (.int .i64 (((hd : Int) + 1) % 8)))
  have HZ3 : Hid ((w2.setCell ⟨w.heap.size, 8, none⟩ (.int .i64 (((hd : Int) + 1) % 8))).heap[w.heap.size + 1]? = some (.cells #[.int .i64 0, .int .i64 0, .int .i64 0, .int .i64 0, .int .i64 0, .int .i64 0, .int .i64 0, .int .i64 0, .int .i64 0, .int .i64 0] 38 (0, 0))) := Lib.hid (blk_set_other HZ2.out _ (by simp) _)
  have HX3 : Hid (Ext w (w2.setCell ⟨w.heap.size, 8, none⟩ (.int .i64 (((hd : Int) + 1) % 8)))) := Lib.hid (HX2.out.setCell (Nat.le_refl _) _)
  go_upto_region 8 with fail
  generalize hw3 : w2.setCell ⟨w.heap.size, 8, none⟩ (.int .i64 (((hd : Int) + 1) % 8)) = w3 at *
  clear hw3 q8 x8 HB2 HZ2 HX2
  have q9 := blk_cell HB3.out 9 (.int .i64 (nn : Int)) rfl
  have x9 := frozen_of_row _ _ 9 _ _ HB3.out
  have HB4 : Hid ((w3.setCell ⟨w.heap.size, 9, none⟩ (.int .i64 ((nn : Int) - 1))).heap[w.heap.size]? = some (.cells #[.int .i64 c0, .int .i64 c1, .int .i64 c2, .int .i64 c3, .int .i64 c4, .int .i64 c5, .int .i64 c6, .int .i64 c7, .int .i64 (((hd : Int) + 1) % 8), .int .i64 ((nn : Int) - 1)] 38 (0, 0))) := Lib.hid (blk_set HB3.out 9 (.int .i64 ((nn : Int) - 1)))
  have HZ4 : Hid ((w3.setCell ⟨w.heap.size, 9, none⟩ (.int .i64 ((nn : Int) - 1))).heap[w.heap.size + 1]? = some (.cells #[.int .i64 0, .int .i64 0, .int .i64 0, .int .i64 0, .int .i64 0, .int .i64 0, .int .i64 0, .int .i64 0, .int .i64 0, .int .i64 0] 38 (0, 0))) := Lib.hid (blk_set_other HZ3.out _ (by simp) _)
  have HX4 : Hid (Ext w (w3.setCell ⟨w.heap.size, 9, none⟩ (.int .i64 ((nn : Int) - 1)))) := Lib.hid (HX3.out.setCell (Nat.le_refl _) _)
  go_upto_region 9 with fail
  generalize hw4 : w3.setCell ⟨w.heap.size, 9, none⟩ (.int .i64 ((nn : Int) - 1)) = w4 at *
  clear hw4 q9 x9 HB3 HZ3 HX3 e5 e6 e7 e8
  obtain ⟨⟨q0, q1, q2, q3, q4⟩, q5, q6, q7, q8, q9⟩ := cells10 HB4.out
  have HZB := HZ4
  obtain ⟨⟨z0, z1, z2, z3, z4⟩, z5, z6, z7, z8, z9⟩ := cells10 HZB.out
  obtain ⟨⟨y0, y1, y2, y3, y4⟩, y5, y6, y7, y8, y9⟩ := frozen10 HZB.out
  go_wp2
  have hzz := set10_at HZB.out (.int .i64 c0) (.int .i64 c1) (.int .i64 c2) (.int .i64 c3) (.int .i64 c4) (.int .i64 c5) (.int .i64 c6) (.int .i64 c7) (.int .i64 (((hd : Int) + 1) % 8)) (.int .i64 ((nn : Int) - 1))
  clear z0 z1 z2 z3 z4 z5 z6 z7 z8 z9 y0 y1 y2 y3 y4 y5 y6 y7 y8 y9
  clear q0 q1 q2 q3 q4 q5 q6 q7 q8 q9
  obtain ⟨⟨t0, t1, t2, t3, t4⟩, t5, t6, t7, t8, t9⟩ := cells10 hzz
  refine bodyPost_ret (v := .tuple #[.agg #[.int .i64 c0, .int .i64 c1, .int .i64 c2, .int .i64 c3, .int .i64 c4, .int .i64 c5, .int .i64 c6, .int .i64 c7, .int .i64 (((hd : Int) + 1) % 8), .int .i64 ((nn : Int) - 1)], .int .i64 x, .bool true]) (by simp [results, Try.results114, go_sem, t0, t1, t2, t3, t4, t5, t6, t7, t8, t9]) rfl ⟨rfl, ?_⟩
  exact set10_ext HX4.out (by omega) _ _ _ _ _ _ _ _ _ _
theorem rpop_k (b0 b1 b2 b3 b4 b5 b6 b7 hd nn : Int) (c0 c1 c2 c3 c4 c5 c6 c7 hd' nn' x : Int) (ok : Bool) (h : Ri.pop ⟨[b0, b1, b2, b3, b4, b5, b6, b7], hd, nn⟩ = (⟨[c0, c1, c2, c3, c4, c5, c6, c7], hd', nn'⟩, x, ok)) (w : World) :
    Calls Try.prog 114 #[.agg #[.int .i64 b0, .int .i64 b1, .int .i64 b2, .int .i64 b3, .int .i64 b4, .int .i64 b5, .int .i64 b6, .int .i64 b7, .int .i64 hd, .int .i64 nn]] w fun e w' => e = .returned (.tuple #[.agg #[.int .i64 c0, .int .i64 c1, .int .i64 c2, .int .i64 c3, .int .i64 c4, .int .i64 c5, .int .i64 c6, .int .i64 c7, .int .i64 hd', .int .i64 nn'], .int .i64 x, .bool ok]) ∧ Ext w w' := by
  unfold Ri.pop at h
  split at h
  · rename_i hm
    have hi : Ri.inside ⟨[b0, b1, b2, b3, b4, b5, b6, b7], hd, nn⟩ = true := by have := hm; unfold Ri.may at this; rw [Bool.and_eq_true] at this; exact this.1
    obtain ⟨a, n, rfl, rfl, h1, h2⟩ := Ri.inside_nat hi
    split at h
    · rename_i h0
      simp only [Prod.mk.injEq, Ri.mk.injEq, List.cons.injEq, and_true] at h
      obtain ⟨⟨⟨rfl, rfl, rfl, rfl, rfl, rfl, rfl, rfl⟩, rfl, rfl⟩, rfl, rfl⟩ := h
      exact rpop_none b0 b1 b2 b3 b4 b5 b6 b7 a n hm h0 w
    · rename_i h0
      simp only [Prod.mk.injEq, Ri.mk.injEq, Int.toNat_natCast] at h
      obtain ⟨⟨hs, rfl, rfl⟩, hx, rfl⟩ := h
      exact rpop_ok b0 b1 b2 b3 b4 b5 b6 b7 a n h1 h2 (by simp only at h0; omega) hm c0 c1 c2 c3 c4 c5 c6 c7 x hs hx w
  · rename_i hm
    simp only [Prod.mk.injEq, Ri.zero, Ri.mk.injEq, List.cons.injEq, and_true] at h
    obtain ⟨⟨⟨rfl, rfl, rfl, rfl, rfl, rfl, rfl, rfl⟩, rfl, rfl⟩, rfl, rfl⟩ := h
    exact rpop_no b0 b1 b2 b3 b4 b5 b6 b7 hd nn (by simpa using hm) w
open Go.RowKit Go.Shelf
attribute [local go_sem] Oper.semAt_some
theorem Try.infoRint : (Try.prog.info? 3).map (fun i => (i.zero, i.size, i.bytes)) = some (some (.int .i64 0), 1, 8) := by kernel_rfl
theorem ring_not_row {W : World} {g : Nat} {r : Ri} (h : RingIn g r W) {base k : Nat} {v : Value} {xs : List Value} (hr : W.ownsRow base 3 1 v k xs) : some g ≠ v.ownBlock := by
  rcases hr.2 with ⟨rfl, _⟩ | ⟨g', cap, cur, rfl, _, hgb, _⟩
  · simp [Value.ownBlock]
  · intro e'
    obtain rfl : g = g' := by simpa [Value.ownBlock] using e'
    have := (show W.heap[g]? = _ from h).symm.trans hgb
    simp at this
def seconds (pre : List I8) : List Int := pre.map fun p => p.1.2
theorem seconds_snoc (pre : List I8) (x : I8) : seconds (pre ++ [x]) = seconds pre ++ [x.1.2] := by simp [seconds]
theorem seconds_len (pre : List I8) : (seconds pre).length = pre.length := by simp [seconds]
theorem Ri.list_upto {hd nn : Nat} {bs : List Int} (hm : Ri.may ⟨bs, hd, nn⟩ = true) : Ri.list ⟨bs, hd, nn⟩ = seconds (upto (Ri.pair hd bs) nn) := by
  unfold Ri.list
  rw [if_pos hm]
  simp [seconds, upto, Ri.elem, Ri.pair]
set_option maxRecDepth 100000 in
set_option maxHeartbeats 1000000 in
theorem rlist_no (b0 b1 b2 b3 b4 b5 b6 b7 hd nn : Int) (hm : Ri.may ⟨[b0, b1, b2, b3, b4, b5, b6, b7], hd, nn⟩ = false) (w : World) :
    Calls Try.prog 118 #[.agg #[.int .i64 b0, .int .i64 b1, .int .i64 b2, .int .i64 b3, .int .i64 b4, .int .i64 b5, .int .i64 b6, .int .i64 b7, .int .i64 hd, .int .i64 nn]] w fun e w' => e = .returned (.slice none 0 0) ∧ Ext w w' := by
  have HM := Lib.hid hm
  clear hm
  go_enter Try.func118, Try.ntmps118
  go_wp2_with fail
  refine (rmay_eq b0 b1 b2 b3 b4 b5 b6 b7 hd nn _ HM.out _).mono ?_
  rintro r w1 ⟨rfl, hx1⟩
  go_wp2
  go_ret
  exact ⟨rfl, ((Ext.refl w).alloc _).trans hx1⟩
set_option maxRecDepth 100000 in
set_option maxHeartbeats 2000000 in
theorem rlist_in (b0 b1 b2 b3 b4 b5 b6 b7 : Int) (hd nn : Nat) (hhd : hd < 8) (hnn : nn ≤ 8) (hm : Ri.may ⟨[b0, b1, b2, b3, b4, b5, b6, b7], hd, nn⟩ = true) (w : World) :
    Calls Try.prog 118 #[.agg #[.int .i64 b0, .int .i64 b1, .int .i64 b2, .int .i64 b3, .int .i64 b4, .int .i64 b5, .int .i64 b6, .int .i64 b7, .int .i64 (hd : Int), .int .i64 (nn : Int)]] w fun e w' => ∃ v, e = .returned v ∧ IntsAt w' v (seconds (upto (Ri.pair hd [b0, b1, b2, b3, b4, b5, b6, b7]) nn)) ∧ Ext w w' := by
  have HM := Lib.hid hm
  clear hm
  obtain ⟨i0, hi, hz0, hz1, hz2⟩ := info_parts Try.infoRint
  refine (callsIn_wide (n := 3)).1 ?_
  have h1 : 1 ≤ 3 := by omega
  refine callsIn_of_wp_marks Try.func118 rfl trivial ?_ rfl
  simp only [Try.ntmps118, List.size_toArray, List.length_cons, List.length_nil, Nat.reduceAdd, Nat.reduceSub, Array.replicate_succ, Array.replicate_zero, List.push_toArray, List.append_toArray, List.nil_append, List.cons_append]
  gi_wp2_with fail
  refine ⟨trivial, callsIn_wide.2 ((rmay_eq b0 b1 b2 b3 b4 b5 b6 b7 hd nn _ HM.out _).mono ?_)⟩
  rintro r w1 ⟨rfl, hx1⟩
  obtain ⟨⟨q0, q1, q2, q3, q4⟩, q5, q6, q7, q8, q9⟩ := cells10 (blk_alloc (hx1.blk (blk_new w (.cells #[.int .i64 b0, .int .i64 b1, .int .i64 b2, .int .i64 b3, .int .i64 b4, .int .i64 b5, .int .i64 b6, .int .i64 b7, .int .i64 (hd : Int), .int .i64 (nn : Int)] 38))) (.cells #[.slice none 0 0] 27))
  have HX1 : Hid (Ext w w1) := Lib.hid (((Ext.refl w).alloc _).trans hx1)
  clear hx1
  gi_wp2_with fail
  refine ⟨trivial, (elements_in Fence.wide (3 - 1) trivial rfl _ _ _ _ _ _ _ _ _ _ _).mono ?_⟩
  rintro e w' ⟨rfl, rfl⟩
  clear q0 q1 q2 q3 q4 q5 q6 q7 q8 q9
  gi_wp2_with fail
  have bO := (Boxed.new w1 27 (.slice none 0 0)).alloc (.cells #[.int .i64 b0, .int .i64 b1, .int .i64 b2, .int .i64 b3, .int .i64 b4, .int .i64 b5, .int .i64 b6, .int .i64 b7, .int .i64 (hd : Int), .int .i64 (nn : Int)] 38)
  have hA3 : RingIn (w1.heap.size + 1) ⟨[b0, b1, b2, b3, b4, b5, b6, b7], hd, nn⟩ ((w1.alloc (.cells #[.slice none 0 0] 27)).alloc (.cells #[.int .i64 b0, .int .i64 b1, .int .i64 b2, .int .i64 b3, .int .i64 b4, .int .i64 b5, .int .i64 b6, .int .i64 b7, .int .i64 (hd : Int), .int .i64 (nn : Int)] 38)) := by
    have := blk_new (w1.alloc (.cells #[.slice none 0 0] 27)) (.cells #[.int .i64 b0, .int .i64 b1, .int .i64 b2, .int .i64 b3, .int .i64 b4, .int .i64 b5, .int .i64 b6, .int .i64 b7, .int .i64 (hd : Int), .int .i64 (nn : Int)] 38)
    rwa [World.size_alloc] at this
  have hX0 : Ext w ((w1.alloc (.cells #[.slice none 0 0] 27)).alloc (.cells #[.int .i64 b0, .int .i64 b1, .int .i64 b2, .int .i64 b3, .int .i64 b4, .int .i64 b5, .int .i64 b6, .int .i64 b7, .int .i64 (hd : Int), .int .i64 (nn : Int)] 38)) := (HX1.out.alloc _).alloc _
  have hS3 : ((w1.alloc (.cells #[.slice none 0 0] 27)).alloc (.cells #[.int .i64 b0, .int .i64 b1, .int .i64 b2, .int .i64 b3, .int .i64 b4, .int .i64 b5, .int .i64 b6, .int .i64 b7, .int .i64 (hd : Int), .int .i64 (nn : Int)] 38)).heap.size = w1.heap.size + 2 := by simp [World.size_alloc]
  have hsz := HX1.out.size
  generalize hW3 : (w1.alloc (.cells #[.slice none 0 0] 27)).alloc (.cells #[.int .i64 b0, .int .i64 b1, .int .i64 b2, .int .i64 b3, .int .i64 b4, .int .i64 b5, .int .i64 b6, .int .i64 b7, .int .i64 (hd : Int), .int .i64 (nn : Int)] 38) = W3 at *
  clear hW3
  apply wpIn_rangeFunc_ownG rfl h1 (gf := 126) (lb := #[.pointer (some ⟨w1.heap.size + 1, 0, none⟩)]) rfl trivial (enters_of Try.func126 (by kernel_rfl) rfl)
    (elements_stops Fence.wide (3 - 1) trivial rfl (by omega) (w1.heap.size + 1) hd nn [b0, b1, b2, b3, b4, b5, b6, b7] rfl hhd hnn W3 (by omega) hA3) (keepsAt_t (w1.heap.size + 1)) (keepsAt_b (by omega)) (Below.refl _ _) (fun _ => rfl)
    (fun pre W => ((∃ v, Boxed W w1.heap.size 27 v ∧ W.ownsRow w.heap.size 3 1 v (seconds pre).length (intsV (seconds pre)) ∧ True) ∧ RingIn (w1.heap.size + 1) ⟨[b0, b1, b2, b3, b4, b5, b6, b7], hd, nn⟩ W) ∧ Ext w W)
    (fun _ _ _ => False)
    (OwnFrom.and (OwnFrom.and (Own.from (holdsRow_own w.heap.size w1.heap.size 27 3 1 (fun pre => (seconds pre).length) (fun pre => intsV (seconds pre)) (fun _ _ => True)) _) (Own.from (fun s A B row hs hg hr => blk_own (w1.heap.size + 1) (fun (_ : Unit) => .cells (⟨[b0, b1, b2, b3, b4, b5, b6, b7], hd, nn⟩ : Ri).cells 38 (0, 0)) (fun _ => rfl) () A B row hs hg hr) _)) (ownFrom_below (Nat.le_refl _) (by omega)))
    (fun _ _ _ _ _ hs _ _ => hs)
    ⟨⟨⟨_, bO, World.ownsRow_nil _ _ _ _, trivial⟩, hA3⟩, hX0⟩ _ ?assign ?body ?done ?stop
  case assign =>
    intro l x W K hK
    gi_wp2
    exact hK
  case body =>
    rintro l pre ⟨⟨x1, x2⟩, hx0, hx8⟩ W ⟨⟨⟨v, hv, hrow, _⟩, hA⟩, hB⟩ hlt
    have hc := hv.cell
    have hpl := seconds_len pre
    have hne := ring_not_row hA hrow
    gi_wp2_with (gi_at_builtin; refine wpListIn_append_own _ rfl _ _ 27 rfl w.heap.size 3 i0 (.int .i64 0) 1 8 Try.underlying27 hi hz0 hz1 hz2 rfl (by decide) _ _ _ rfl (hrow.alloc _) ⟨W.heap.size, 0, none⟩ 1 1 [.int .i64 x2] rfl rfl (cell_one_new _ _ _) (by simp [Value.oneCell']) (by unfold maxLen; omega) (by omega) (by have := hB.size; simp; omega) ?_; intro v' w2 hown' hgrow _; obtain ⟨g', cap', rfl⟩ := ownsRow_succ hown'; obtain ⟨hv1, hv2, hr2, hk2, hb2⟩ := hv.appended (by decide) hrow hB.size hsz hown' hgrow; have hc1 := hv1.cell; have hf1 := hv1.frozen)
    have hA2 : RingIn (w1.heap.size + 1) ⟨[b0, b1, b2, b3, b4, b5, b6, b7], hd, nn⟩ w2 := (hgrow.block (w1.heap.size + 1) (by have := blk_lt hA; simp; omega) hne).trans (blk_alloc hA _)
    have hA3' := blk_set_other hA2 ⟨w1.heap.size, 0, none⟩ (by simp only; omega) (.slice (some ⟨g', 0, none⟩) ((seconds pre).length + 1) cap')
    (try simp only [hpl] at hA3')
    (try simp only [hpl] at hv2)
    (try simp only [hpl] at hr2)
    (try simp only [hpl] at hk2)
    (try simp only [hpl] at hb2)
    refine ⟨hk2.from _, fun o ho => ?_, ⟨⟨_, hv2, ?_⟩, hA3'⟩, Below.trans (show Below w.heap.size w W from hB) hb2⟩
    · rw [show W.heap[w1.heap.size + 1]? = _ from hA] at ho
      cases ho
      exact hA3'
    · rw [seconds_snoc]
      simpa [intsV, hpl] using hr2
  case done =>
    rintro D ys W hD rfl ⟨⟨⟨v, hv, hrow, _⟩, hA⟩, hB⟩ hK
    have hc := hv.cell
    gi_wp2
    refine ⟨by simp, .inl ⟨_, _, rfl, run_takeDeferred hK, ?_⟩⟩
    obtain ⟨A', c', h1', h2'⟩ := OwnInts.ints (ownsRow_putObj hrow (.deferred none) hK rfl)
    refine ⟨_, results_tmp rfl _ _ _, v, rfl, by rw [h1']; exact h2', Below.trans (show Below w.heap.size w W from hB) (belowK_b (w := w) (Nat.le_refl _) W D _ _ (by omega) hK rfl rfl)⟩
  case stop =>
    rintro D c pre W _ _ h _
    exact h.elim
theorem rlist_k (b0 b1 b2 b3 b4 b5 b6 b7 hd nn : Int) (l : List Int) (h : Ri.list ⟨[b0, b1, b2, b3, b4, b5, b6, b7], hd, nn⟩ = l) (w : World) :
    Calls Try.prog 118 #[.agg #[.int .i64 b0, .int .i64 b1, .int .i64 b2, .int .i64 b3, .int .i64 b4, .int .i64 b5, .int .i64 b6, .int .i64 b7, .int .i64 hd, .int .i64 nn]] w fun e w' => ∃ v, e = .returned v ∧ IntsAt w' v l ∧ Ext w w' := by
  subst h
  cases hm : Ri.may ⟨[b0, b1, b2, b3, b4, b5, b6, b7], hd, nn⟩ with
  | false =>
    refine (rlist_no b0 b1 b2 b3 b4 b5 b6 b7 hd nn hm w).mono ?_
    rintro e w' ⟨rfl, hx⟩
    refine ⟨_, rfl, ?_, hx⟩
    unfold Ri.list
    rw [hm]
    exact ⟨none, 0, rfl, fun h => by simp at h⟩
  | true =>
    have hi : Ri.inside ⟨[b0, b1, b2, b3, b4, b5, b6, b7], hd, nn⟩ = true := by have := hm; unfold Ri.may at this; rw [Bool.and_eq_true] at this; exact this.1
    obtain ⟨a, n, rfl, rfl, h1, h2⟩ := Ri.inside_nat hi
    rw [Ri.list_upto hm]
    exact rlist_in b0 b1 b2 b3 b4 b5 b6 b7 a n h1 h2 hm w
theorem Ri.push_len {r : Ri} {g : Int} (h : r.buf.length = 8) : (r.push g).1.buf.length = 8 := by
  unfold Ri.push; split
  · simp [h]
  · rfl
theorem Ri.pop_len {r : Ri} (h : r.buf.length = 8) : r.pop.1.buf.length = 8 := by
  unfold Ri.pop; split
  · split
    · exact h
    · simp [h]
  · rfl
def Ri.takes : Nat → Ri → List Int → Ri × List Int
  | 0, r, o => (r, o)
  | k + 1, r, o => Ri.takes k r.pop.1 (o ++ [r.pop.2.1])
def Ri.half (r : Ri) : Ri × List Int := if r.may then Ri.takes ((r.n.toNat + 1) / 2) r [] else (Ri.zero, [])
set_option maxRecDepth 100000 in
set_option maxHeartbeats 1000000 in
theorem rhalf_no (b0 b1 b2 b3 b4 b5 b6 b7 hd nn : Int) (hm : Ri.may ⟨[b0, b1, b2, b3, b4, b5, b6, b7], hd, nn⟩ = false) (w : World) :
    Calls Try.prog 69 #[.agg #[.int .i64 b0, .int .i64 b1, .int .i64 b2, .int .i64 b3, .int .i64 b4, .int .i64 b5, .int .i64 b6, .int .i64 b7, .int .i64 hd, .int .i64 nn]] w fun e w' => e = .returned (.tuple #[.agg #[.int .i64 0, .int .i64 0, .int .i64 0, .int .i64 0, .int .i64 0, .int .i64 0, .int .i64 0, .int .i64 0, .int .i64 0, .int .i64 0], .slice none 0 0]) ∧ Ext w w' := by
  have HM := Lib.hid hm
  clear hm
  go_enter Try.func69, Try.ntmps69
  go_wp2_with fail
  refine (rmay_eq b0 b1 b2 b3 b4 b5 b6 b7 hd nn _ HM.out _).mono ?_
  rintro r w1 ⟨rfl, hx1⟩
  have HX := Lib.hid ((((Ext.refl w).alloc (.cells #[.int .i64 b0, .int .i64 b1, .int .i64 b2, .int .i64 b3, .int .i64 b4, .int .i64 b5, .int .i64 b6, .int .i64 b7, .int .i64 hd, .int .i64 nn] 38)).alloc (.cells #[.int .i64 0, .int .i64 0, .int .i64 0, .int .i64 0, .int .i64 0, .int .i64 0, .int .i64 0, .int .i64 0, .int .i64 0, .int .i64 0] 38)).trans hx1)
  have HZB : Hid (w1.heap[w.heap.size + 1]? = some (.cells #[.int .i64 0, .int .i64 0, .int .i64 0, .int .i64 0, .int .i64 0, .int .i64 0, .int .i64 0, .int .i64 0, .int .i64 0, .int .i64 0] 38 (0, 0))) := Lib.hid (hx1.blk (by have := blk_new (w.alloc (.cells #[.int .i64 b0, .int .i64 b1, .int .i64 b2, .int .i64 b3, .int .i64 b4, .int .i64 b5, .int .i64 b6, .int .i64 b7, .int .i64 hd, .int .i64 nn] 38)) (.cells #[.int .i64 0, .int .i64 0, .int .i64 0, .int .i64 0, .int .i64 0, .int .i64 0, .int .i64 0, .int .i64 0, .int .i64 0, .int .i64 0] 38); rwa [World.size_alloc] at this))
  clear hx1
  obtain ⟨⟨z0, z1, z2, z3, z4⟩, z5, z6, z7, z8, z9⟩ := cells10 HZB.out
  obtain ⟨⟨y0, y1, y2, y3, y4⟩, y5, y6, y7, y8, y9⟩ := frozen10 HZB.out
  go_wp2
  have hzz := set10_at HZB.out (.int .i64 0) (.int .i64 0) (.int .i64 0) (.int .i64 0) (.int .i64 0) (.int .i64 0) (.int .i64 0) (.int .i64 0) (.int .i64 0) (.int .i64 0)
  clear z0 z1 z2 z3 z4 z5 z6 z7 z8 z9 y0 y1 y2 y3 y4 y5 y6 y7 y8 y9
  obtain ⟨⟨t0, t1, t2, t3, t4⟩, t5, t6, t7, t8, t9⟩ := cells10 hzz
  refine bodyPost_ret (v := .tuple #[.agg #[.int .i64 0, .int .i64 0, .int .i64 0, .int .i64 0, .int .i64 0, .int .i64 0, .int .i64 0, .int .i64 0, .int .i64 0, .int .i64 0], .slice none 0 0]) (by simp [results, Try.results69, go_sem, t0, t1, t2, t3, t4, t5, t6, t7, t8, t9]) rfl ⟨rfl, ?_⟩
  exact set10_ext HX.out (by omega) _ _ _ _ _ _ _ _ _ _
theorem upd10 (g : Nat) (w5 : World) (d0 d1 d2 d3 d4 d5 d6 d7 d8 d9 : Value) : Upd g w5 ((((((((((w5.setCell ⟨g, 0, none⟩ d0).setCell ⟨g, 1, none⟩ d1).setCell ⟨g, 2, none⟩ d2).setCell ⟨g, 3, none⟩ d3).setCell ⟨g, 4, none⟩ d4).setCell ⟨g, 5, none⟩ d5).setCell ⟨g, 6, none⟩ d6).setCell ⟨g, 7, none⟩ d7).setCell ⟨g, 8, none⟩ d8).setCell ⟨g, 9, none⟩ d9) :=
  ((((((((((Upd.refl g w5).set 0 d0).set 1 d1).set 2 d2).set 3 d3).set 4 d4).set 5 d5).set 6 d6).set 7 d7).set 8 d8).set 9 d9
theorem ints_lit (w : World) (xs : List Int) : IntsAt (w.alloc (.cells (bufCells xs) 3)) (.slice (some ⟨w.heap.size, 0, none⟩) xs.length xs.length) xs :=
  ⟨_, xs.length, rfl, fun _ => ⟨w.heap.size, 0, rfl, by simp, fun j x hj => by
    have hlt : j < xs.length := (List.getElem?_eq_some_iff.1 hj).1
    have hx : xs[j] = x := (List.getElem?_eq_some_iff.1 hj).2
    have := blk_cell (blk_new w (.cells (bufCells xs) 3)) j _ (bufCells_at hlt)
    rw [hx] at this
    simpa using this⟩⟩
def Ri.Holds (r : Ri) (l : List Int) : Prop :=
  ∃ hd nn : Nat, r.head = hd ∧ r.n = nn ∧ hd < 8 ∧ nn ≤ 8 ∧ r.buf.length = 8 ∧ (∀ j < 8, if (j + 8 - hd) % 8 < nn then 0 < r.buf[j]?.getD 0 else r.buf[j]?.getD 0 = 0) ∧ l = (List.range nn).map fun i => r.buf[(hd + i) % 8]?.getD 0
theorem Ri.may_nat {hd nn : Nat} (h : hd < 8) (hn : nn ≤ 8) {bs : List Int} :
    Ri.may ⟨bs, hd, nn⟩ = true ↔ ∀ j < 8, if (j + 8 - hd) % 8 < nn then 0 < bs[j]?.getD 0 else bs[j]?.getD 0 = 0 := by
  have hi : Ri.inside ⟨bs, hd, nn⟩ = true := (Ri.inside_iff _).2 (by simp only; omega)
  unfold Ri.may
  rw [hi, Bool.true_and, List.all_eq_true]
  simp only [List.mem_range, Ri.okAt, Int.toNat_natCast]
  constructor
  · intro k j hj
    have := k j hj
    split
    · rename_i hc; rw [if_pos hc] at this; exact of_decide_eq_true this
    · rename_i hc; rw [if_neg hc] at this; exact of_decide_eq_true this
  · intro k j hj
    have := k j hj
    split
    · rename_i hc; rw [if_pos hc] at this; exact decide_eq_true this
    · rename_i hc; rw [if_neg hc] at this; exact decide_eq_true this
theorem Ri.may_of {r : Ri} {l : List Int} (h : r.Holds l) : r.may = true := by
  obtain ⟨hd, nn, h1, h2, h3, h4, h5, h6, rfl⟩ := h
  obtain ⟨bs, a, b⟩ := r
  simp only at h1 h2 h5 h6
  subst h1 h2
  exact (Ri.may_nat h3 h4).2 h6
theorem Ri.list_of {r : Ri} {l : List Int} (h : r.Holds l) : r.list = l := by
  unfold Ri.list
  rw [if_pos (Ri.may_of h)]
  obtain ⟨hd, nn, h1, h2, h3, h4, h5, h6, rfl⟩ := h
  unfold Ri.elem
  rw [h1, h2]
  rfl
theorem Ri.holds_may {r : Ri} (hl : r.buf.length = 8) (hm : r.may = true) : r.Holds r.list := by
  have hi : r.inside = true := by have := hm; unfold Ri.may at this; rw [Bool.and_eq_true] at this; exact this.1
  obtain ⟨hd, nn, h1, h2, h3, h4⟩ := Ri.inside_nat hi
  obtain ⟨bs, a, b⟩ := r
  simp only at h1 h2 hl
  subst h1 h2
  refine ⟨hd, nn, rfl, rfl, h3, h4, hl, (Ri.may_nat h3 h4).1 hm, ?_⟩
  unfold Ri.list
  rw [if_pos hm]
  rfl
theorem Ri.holds_n {r : Ri} {l : List Int} (h : r.Holds l) : r.n = l.length ∧ l.length ≤ 8 := by
  obtain ⟨hd, nn, h1, h2, h3, h4, h5, h6, rfl⟩ := h
  simp [h2, h4]
theorem Ri.holds_pos {r : Ri} {l : List Int} (h : r.Holds l) : ∀ x ∈ l, 1 ≤ x := by
  obtain ⟨hd, nn, h1, h2, h3, h4, h5, h6, rfl⟩ := h
  intro x hx
  simp only [List.mem_map, List.mem_range] at hx
  obtain ⟨i, hi, rfl⟩ := hx
  have := h6 ((hd + i) % 8) (by omega)
  rw [if_pos (by omega)] at this
  omega
theorem Ri.holds_push {r : Ri} {l : List Int} (h : r.Holds l) {g : Int} (hg : 1 ≤ g) (h8 : l.length < 8) : ∃ r', r.push g = (r', true) ∧ r'.Holds (l ++ [g]) := by
  have hm := Ri.may_of h
  obtain ⟨hd, nn, h1, h2, h3, h4, h5, h6, rfl⟩ := h
  obtain ⟨bs, a, b⟩ := r
  simp only at h1 h2 h5 h6
  subst h1 h2
  simp only [List.length_map, List.length_range] at h8
  refine ⟨⟨bs.set ((hd + nn) % 8) g, hd, (nn : Int) + 1⟩, ?_, hd, nn + 1, rfl, by simp, h3, by omega, by simpa using h5, ?_, ?_⟩
  · unfold Ri.push
    rw [hm]
    simp only [Int.toNat_natCast]
    rw [if_pos (by simp; omega)]
  · intro j hj
    have := h6 j hj
    simp only [List.getElem?_set]
    by_cases he : (hd + nn) % 8 = j
    · rw [if_pos (by omega), if_pos he, if_pos (by omega)]
      simp only [Option.getD_some]; omega
    · rw [if_neg he]
      by_cases hlt : (j + 8 - hd) % 8 < nn
      · rw [if_pos hlt] at this
        rw [if_pos (by omega)]; exact this
      · rw [if_neg hlt] at this
        rw [if_neg (by omega)]; exact this
  · rw [List.range_succ, List.map_append]
    simp only [List.map_cons, List.map_nil]
    congr 1
    · apply List.map_congr_left
      intro i hi
      have := List.mem_range.1 hi
      rw [List.getElem?_set_ne (by omega)]
    · rw [List.getElem?_set_self (by omega)]
      rfl
theorem Ri.push_no {r : Ri} {l : List Int} (h : r.Holds l) {g : Int} (hn : g < 1 ∨ l.length = 8) : r.push g = (Ri.zero, false) := by
  have := (Ri.holds_n h).1
  unfold Ri.push
  rw [if_neg]
  simp only [Bool.and_eq_true, decide_eq_true_eq]
  omega
theorem Ri.holds_pop {r : Ri} {l : List Int} {g : Int} (h : r.Holds (g :: l)) : ∃ r', r.pop = (r', g, true) ∧ r'.Holds l := by
  have hm := Ri.may_of h
  have hn := Ri.holds_n h
  obtain ⟨hd, nn, h1, h2, h3, h4, h5, h6, hl⟩ := h
  obtain ⟨bs, a, b⟩ := r
  simp only at h1 h2 h5 h6 hn hl
  subst h1 h2
  simp only [List.length_cons] at hn
  obtain ⟨k, rfl⟩ : ∃ k, nn = k + 1 := ⟨nn - 1, by omega⟩
  rw [List.range_succ_eq_map, List.map_cons, List.map_map] at hl
  simp only [List.cons.injEq] at hl
  obtain ⟨hg, hl⟩ := hl
  rw [show (hd + 0) % 8 = hd by omega] at hg
  refine ⟨⟨bs.set hd 0, ((hd : Int) + 1) % 8, ((k + 1 : Nat) : Int) - 1⟩, ?_, (hd + 1) % 8, k, by simp only; omega, by simp only; omega, by omega, by omega, by simpa using h5, ?_, ?_⟩
  · unfold Ri.pop
    rw [if_pos hm]
    simp only [Int.toNat_natCast]
    rw [if_neg (by omega), hg]
  · intro j hj
    have := h6 j hj
    simp only [List.getElem?_set]
    by_cases he : hd = j
    · rw [if_neg (by omega), if_pos he, if_pos (by omega)]
      rfl
    · rw [if_neg he]
      by_cases hlt : (j + 8 - hd) % 8 < k + 1
      · rw [if_pos hlt] at this
        rw [if_pos (by omega)]; exact this
      · rw [if_neg hlt] at this
        rw [if_neg (by omega)]; exact this
  · rw [hl]
    apply List.map_congr_left
    intro i hi
    have := List.mem_range.1 hi
    simp only [Function.comp]
    rw [List.getElem?_set_ne (by omega), show (hd + i.succ) % 8 = ((hd + 1) % 8 + i) % 8 by omega]
theorem Ri.pop_nil {r : Ri} (h : r.Holds []) : r.pop = (r, 0, false) := by
  have hm := Ri.may_of h
  have hn := (Ri.holds_n h).1
  unfold Ri.pop
  rw [if_pos hm, if_pos (by simpa using hn)]
theorem Ri.holds_len {r : Ri} {l : List Int} (h : r.Holds l) : r.buf.length = 8 := by
  obtain ⟨hd, nn, h1, h2, h3, h4, h5, h6, rfl⟩ := h
  exact h5
theorem Ri.open8 {r : Ri} (h : r.buf.length = 8) : ∃ b0 b1 b2 b3 b4 b5 b6 b7 hd n, r = ⟨[b0, b1, b2, b3, b4, b5, b6, b7], hd, n⟩ := by
  obtain ⟨bs, hd, n⟩ := r
  obtain ⟨b0, b1, b2, b3, b4, b5, b6, b7, rfl⟩ := list8 h
  exact ⟨b0, b1, b2, b3, b4, b5, b6, b7, hd, n, rfl⟩
section
variable {P : Program} {ops : Array Oper} {Q : Exit → Act → World → Prop} {md : Region.Mode} {S : World → Prop}
def GivesV (P : Program) (S : World → Prop) (v : Value) : Result Next → Prop
  | .ok (.value u) w' => u = v ∧ S w'
  | .ok .skip w' => v = undef ∧ S w'
  | .ok (.enter f args) w' => Calls P f args w' fun e w'' => e = .returned v ∧ S w''
  | _ => False
def Tame (P : Program) (ops : Array Oper) (S : World → Prop) (o : Oper) (v : Value) (a : Act) : Prop :=
  (Region.wanted o (yielded ops a.tmps) = true ∧ ∀ w, S w → GivesV P S v ((execOp a.eval o).run P w)) ∨
  (Region.wanted o (yielded ops a.tmps) = false ∧ v = undef)
theorem Tame.same {o : Oper} {v : Value} {a b : Act} (h : Tame P ops S o v a) (he : execOp b.eval o = execOp a.eval o)
    (hw : Region.wanted o (yielded ops b.tmps) = Region.wanted o (yielded ops a.tmps)) : Tame P ops S o v b := by
  unfold Tame at *
  rw [he, hw]
  exact h
theorem Tame.op {i : Nat} {o : Oper} {v : Value} {a : Act} (hi : ops[i]? = some o) (h : Tame P ops S o v a)
    {K : Act → World → Prop} {w : World} (hS : S w) (hK : ∀ w', S w' → K (a.put o.dst v) w') : wpOp P ops Q i K a w := by
  unfold wpOp
  simp only [hi]
  rcases h with ⟨hw, hv⟩ | ⟨hw, rfl⟩
  · simp only [hw, if_true]
    left
    have h2 := hv w hS
    unfold Oper.wp
    generalize (execOp a.eval o).run P w = r at *
    cases r with
    | halt x w' => exact h2.elim
    | ok n w' =>
      cases n with
      | value u => obtain ⟨rfl, h3⟩ := h2; exact hK _ h3
      | skip => obtain ⟨rfl, h3⟩ := h2; exact hK _ h3
      | enter f args =>
        refine Calls.mono h2 fun e w'' he => ?_
        obtain ⟨rfl, h3⟩ := he
        exact hK _ h3
      | _ => exact h2.elim
  · simp only [hw, Bool.false_eq_true, if_false]
    exact hK _ hS
theorem op_apart {j : Nat} {oi oj : Oper} {v : Value} (hj : ops[j]? = some oj) (hap : oi.apart ops oj = true)
    (hsi : ∀ cs b, oi.op ≠ .select cs b) (hsj : ∀ cs b, oj.op ≠ .select cs b)
    (hQ : ∀ c a w, Q (.panic c) (a.put oi.dst v) w → Q (.panic c) a w) {K : Act → World → Prop} {a : Act} {w : World}
    (hy : Tame P ops S oi v a) (h : wpOp P ops Q j K (a.put oi.dst v) w) :
    wpOp P ops Q j (fun a' w' => Tame P ops S oi v a' ∧ K (a'.put oi.dst v) w') a w := by
  obtain ⟨h1, h2, h3⟩ := Oper.apart_spec hap
  have keep : ∀ u, Tame P ops S oi v (a.put oj.dst u) := fun u => hy.same (execOp_put oi hsi a oj.dst u h3) (wanted_put oi a oj.dst u h3)
  have swap : ∀ u w', K ((a.put oi.dst v).put oj.dst u) w' → Tame P ops S oi v (a.put oj.dst u) ∧ K ((a.put oj.dst u).put oi.dst v) w' :=
    fun u w' hk => ⟨keep u, by rw [← Act.put_comm a v u h2]; exact hk⟩
  unfold wpOp at *
  simp only [hj] at *
  rw [wanted_put oj a oi.dst v h1] at h
  split
  · rename_i hw
    simp only [hw, if_true] at h
    rcases h with h | ⟨hasks, hlets⟩
    · left
      unfold Oper.wp at *
      rw [execOp_put oj hsj a oi.dst v h1] at h
      generalize (execOp a.eval oj).run P w = r at *
      cases r with
      | ok n w' =>
        cases n <;> simp only [Oper.upon] at h ⊢
        case value u => exact swap u w' h
        case skip => exact swap _ w' h
        case defer d =>
          have kd : Tame P ops S oi v { a with defers := d :: a.defers } := hy.same rfl rfl
          refine ⟨kd.same (execOp_put oi hsi _ oj.dst _ h3) (wanted_put oi _ oj.dst _ h3), ?_⟩
          rw [← Act.put_comm _ v undef h2, ← Act.put_defers]
          exact h
        case enter f args =>
          refine Calls.mono h fun e w'' he => ?_
          cases e with
          | returned u => exact swap u w'' he
          | panicked c => exact hQ _ _ _ he
          | outgrown => exact he
        case row row args => exact Rows.mono h fun u w'' he => swap u w'' he
      | halt x w' =>
        cases x <;> simp only [Oper.upon] at h ⊢
        case panic u => exact hQ _ _ _ h
    · right
      unfold Oper.asks at *
      rw [execOp_put oj hsj a oi.dst v h1] at hasks
      exact ⟨hasks, hlets⟩
  · rename_i hw
    simp only [hw] at h
    exact swap _ w h
def wpAll (P : Program) (md : Region.Mode) (ops : Array Oper) (Q : Exit → Act → World → Prop) (S : World → Prop) : Nat → Array Bool → Act → Prop
  | 0, listed, a => Region.ready md ops listed = [] ∧ ∀ w, S w → Q .normal a w
  | f + 1, listed, a => (Region.ready md ops listed = [] → ∀ w, S w → Q .normal a w) ∧
      ∀ i ∈ Region.ready md ops listed, ∀ w, S w → wpOp P ops Q i (fun a' w' => S w' ∧ wpAll P md ops Q S f (listed.setIfInBounds i true) a') a w
theorem wpAny_of_all : ∀ (f : Nat) (listed : Array Bool) (a : Act) (w : World), S w → wpAll P md ops Q S f listed a → wpAny P md ops Q f listed a w
  | 0, _, _, w, hS, h => ⟨h.1, h.2 w hS⟩
  | f + 1, _, _, w, hS, h => ⟨fun h0 => h.1 h0 w hS, fun i hi => wpOp_mono (fun a' w' h' => wpAny_of_all f _ a' w' h'.1 h'.2) (h.2 i hi w hS)⟩
theorem all_first {i : Nat} {oi : Oper} {v : Value} (hi : ops[i]? = some oi) (hsel : ∀ (j : Nat) (o : Oper) cs b, ops[j]? = some o → o.op ≠ .select cs b)
    (hQ : ∀ c a w, Q (.panic c) (a.put oi.dst v) w → Q (.panic c) a w) :
    ∀ (f : Nat) (listed : Array Bool) (a : Act),
      (∀ j oj, ops[j]? = some oj → j ≠ i → listed.getD j true = false → (∀ e ∈ oj.after, Region.binds md e = true → e.on ≠ i) → oi.apart ops oj = true) →
      i ∈ Region.ready md ops listed → Tame P ops S oi v a →
      wpAll P md ops Q S f (listed.setIfInBounds i true) (a.put oi.dst v) → wpAll P md ops Q S (f + 1) listed a := by
  intro f
  induction f with
  | zero =>
    intro listed a _ hr hy H
    refine ⟨fun h => (by rw [h] at hr; cases hr), fun j hj w hS => ?_⟩
    by_cases hji : j = i
    · subst hji
      exact hy.op hi hS fun w' h' => ⟨h', H⟩
    · have h0 := ready_mono hj hji
      rw [H.1] at h0
      cases h0
  | succ f ih =>
    intro listed a hfree hr hy H
    refine ⟨fun h => (by rw [h] at hr; cases hr), fun j hj w hS => ?_⟩
    by_cases hji : j = i
    · subst hji
      exact hy.op hi hS fun w' h' => ⟨h', H⟩
    · obtain ⟨hjun, oj, hoj, hall⟩ := mem_ready.1 hj
      have hno : ∀ e ∈ oj.after, Region.binds md e = true → e.on ≠ i := fun e he hb heq => by
        have h1 := hall e he hb
        have h0 := (mem_ready.1 hr).1
        rw [heq] at h1
        rcases Nat.lt_or_ge i listed.size with h' | h'
        · simp [h'] at h0 h1; rw [h0] at h1; cases h1
        · simp [Array.getElem?_eq_none h'] at h1
      have h2 := op_apart hoj (hfree j oj hoj hji hjun hno) (fun cs b => hsel i oi cs b hi) (fun cs b => hsel j oj cs b hoj) hQ hy (H.2 j (ready_mono hj hji) w hS)
      refine wpOp_mono (fun a' w' h3 => ⟨h3.2.1, ih (listed.setIfInBounds j true) a' (fun k ok hk hki hun hn => ?_) (ready_mono hr (Ne.symm hji)) h3.1 ?_⟩) h2
      · refine hfree k ok hk hki ?_ hn
        by_cases hjk : j = k
        · subst hjk; exact hjun
        · rw [getD_set_ne true hjk] at hun; exact hun
      · rw [Array.setIfInBounds_comm _ _ hji]
        exact h3.2.2
theorem all_take {i : Nat} {oi : Oper} {v : Value} {f : Nat} {listed : Array Bool} {a : Act} (hi : ops[i]? = some oi)
    (hs : Region.noSelect ops = true) (hf : Region.free md ops listed i = true) (hr : (Region.ready md ops listed).contains i = true)
    (hQ : ∀ c a w, Q (.panic c) (a.put oi.dst v) w → Q (.panic c) a w) (hy : Tame P ops S oi v a)
    (h : wpAll P md ops Q S f (listed.setIfInBounds i true) (a.put oi.dst v)) : wpAll P md ops Q S (f + 1) listed a :=
  all_first hi (Region.noSelect_spec hs) hQ f listed a (Region.free_spec hi hf) (by simpa using hr) hy h
theorem all_done {listed : Array Bool} {a : Act} (hr : Region.ready md ops listed = []) (h : ∀ w, S w → Q .normal a w) : ∀ f, wpAll P md ops Q S f listed a
  | 0 => ⟨hr, h⟩
  | _ + 1 => ⟨fun _ => h, by rw [hr]; simp⟩
theorem region_all (S : World → Prop) {id : Nat} {a : Act} {w : World} (hm : P.follows .mixedOrders = true) (hS : S w.drew)
    (h : wpAll P .any ops Q S ops.size (Array.replicate ops.size false) a) : (Code.region id ops true).wp P Q a w :=
  wp_region_any hm (wpAny_of_all _ _ _ _ hS h)
theorem Tame.yes {o : Oper} {v : Value} {a : Act} (hw : Region.wanted o (yielded ops a.tmps) = true) (h : ∀ w, S w → GivesV P S v ((execOp a.eval o).run P w)) : Tame P ops S o v a := .inl ⟨hw, h⟩
theorem Tame.no {o : Oper} {a : Act} (hw : Region.wanted o (yielded ops a.tmps) = false) : Tame P ops S o undef a := .inr ⟨hw, rfl⟩
theorem gives_mk {u v : Value} {w : World} (h : u = v) (hS : S w) : GivesV P S v (.ok (.value u) w) := ⟨h, hS⟩
theorem gives_call {f : FuncId} {args : Array Value} {v : Value} {w : World} (h : Calls P f args w fun e w'' => e = .returned v ∧ S w'') : GivesV P S v (.ok (.enter f args) w) := h
end
def PairsAt (w : World) (v : Value) (xs : List (Int × Int)) : Prop :=
  ∃ A c, v = .slice A xs.length c ∧ xs.length ≤ c ∧ (0 < xs.length → ∃ b o, A = some ⟨b, o, none⟩ ∧ b < w.heap.size ∧ ∀ j p, xs[j]? = some p → w.cell? ⟨b, o + j * 2, none⟩ = some (.int .i64 p.1) ∧ w.cell? ⟨b, o + j * 2 + 1, none⟩ = some (.int .i64 p.2))
theorem PairsAt.ext {w w' : World} {v : Value} {xs : List (Int × Int)} (h : PairsAt w v xs) (hx : Ext w w') : PairsAt w' v xs := by
  obtain ⟨A, c, rfl, hc, hA⟩ := h
  refine ⟨A, c, rfl, hc, fun h0 => ?_⟩
  obtain ⟨b, o, hb, hlt, hc⟩ := hA h0
  exact ⟨b, o, hb, Nat.lt_of_lt_of_le hlt hx.size, fun j x hj => by rw [Below.cell hx hlt, Below.cell hx hlt]; exact hc j x hj⟩
def pairV (p : Int × Int) : Value := .agg #[.int .i64 p.1, .int .i64 p.2]
def i64ok (x : Int) : Prop := -9223372036854775808 ≤ x ∧ x ≤ 9223372036854775807
def Sl.lt (a b : Int × Int) : Prop := a.1 < b.1 ∨ a.1 = b.1 ∧ a.2 < b.2
instance (a b : Int × Int) : Decidable (Sl.lt a b) := by unfold Sl.lt; exact inferInstance
def Sl.fit (p : Int × Int) : Prop := 0 ≤ p.1 ∧ p.1 < 4611686018427387904 ∧ 1 ≤ p.2
instance (p : Int × Int) : Decidable (Sl.fit p) := by unfold Sl.fit; exact inferInstance
theorem Sl.lt_trans {a b c : Int × Int} (h : Sl.lt a b) (k : Sl.lt b c) : Sl.lt a c := by unfold Sl.lt at *; omega
def Sl.May (l : List (Int × Int)) : Prop := (∀ p ∈ l, Sl.fit p) ∧ l.Pairwise Sl.lt ∧ (l.map Prod.snd).Nodup
instance (l : List (Int × Int)) : Decidable (Sl.May l) := by unfold Sl.May; exact inferInstance
theorem Sl.May.nil : Sl.May [] := ⟨by simp, by simp, by simp⟩
theorem Sl.May.sub {l m : List (Int × Int)} (h : Sl.May m) (hs : l.Sublist m) : Sl.May l :=
  ⟨fun p hp => h.1 p (hs.subset hp), h.2.1.sublist hs, h.2.2.sublist (hs.map _)⟩
theorem Sl.may_snoc {l : List (Int × Int)} {p : Int × Int} : Sl.May (l ++ [p]) ↔ Sl.May l ∧ Sl.fit p ∧ (∀ q, l.getLast? = some q → Sl.lt q p) ∧ p.2 ∉ l.map Prod.snd := by
  constructor
  · intro h
    refine ⟨h.sub (List.sublist_append_left _ _), h.1 p (by simp), fun q hq => ?_, ?_⟩
    · have := (List.pairwise_append.1 h.2.1).2.2 q (List.mem_of_getLast? hq) p (by simp)
      exact this
    · have h3 := h.2.2
      rw [List.map_append, List.nodup_append] at h3
      intro hm
      exact h3.2.2 _ hm p.2 (by simp) rfl
  · rintro ⟨h, hf, hlt, hn⟩
    refine ⟨fun q hq => ?_, ?_, ?_⟩
    · rcases List.mem_append.1 hq with hq | hq
      · exact h.1 q hq
      · rw [List.mem_singleton.1 hq]; exact hf
    · refine List.pairwise_append.2 ⟨h.2.1, by simp, fun a ha b hb => ?_⟩
      rw [List.mem_singleton.1 hb]
      rcases List.eq_nil_or_concat l with rfl | ⟨l', z, rfl⟩
      · simp at ha
      · have hz := hlt z (by simp)
        rw [List.concat_eq_append] at ha h
        rcases List.mem_append.1 ha with ha | ha
        · exact Sl.lt_trans ((List.pairwise_append.1 h.2.1).2.2 a ha z (by simp)) hz
        · rw [List.mem_singleton.1 ha]; exact hz
    · rw [List.map_append, List.nodup_append]
      refine ⟨h.2.2, by simp, fun a ha b hb => ?_⟩
      simp at hb
      subst hb
      intro he
      exact hn (he ▸ ha)
set_option maxRecDepth 100000 in
set_option maxHeartbeats 1000000 in
theorem before_any (a b : Int × Int) (w : World) : Calls Try.prog 124 #[pairV a, pairV b] w fun e w' => e = .returned (.bool (decide (Sl.lt a b))) ∧ Ext w w' := by
  obtain ⟨a0, a1⟩ := a
  obtain ⟨b0, b1⟩ := b
  unfold pairV
  simp only
  by_cases h0 : a0 < b0
  · rw [show decide (Sl.lt (a0, a1) (b0, b1)) = true from decide_eq_true (Or.inl h0)]
    go_enter Try.func124, Try.ntmps124
    go_wp2
    go_ret
    exact ⟨rfl, ((Ext.refl _).alloc _).alloc _⟩
  · by_cases h1 : a0 = b0
    · subst h1
      rw [show decide (Sl.lt (a0, a1) (a0, b1)) = decide (a1 < b1) from decide_eq_decide.2 (show (a0 < a0 ∨ a0 = a0 ∧ a1 < b1) ↔ a1 < b1 by omega)]
      go_enter Try.func124, Try.ntmps124
      go_wp2
      go_ret
      exact ⟨rfl, ((Ext.refl _).alloc _).alloc _⟩
    · have hb : (a0 == b0) = false := by simpa using h1
      rw [show decide (Sl.lt (a0, a1) (b0, b1)) = false from decide_eq_false (show ¬ (a0 < b0 ∨ a0 = b0 ∧ a1 < b1) by omega)]
      go_enter Try.func124, Try.ntmps124
      go_wp2
      go_ret
      exact ⟨rfl, ((Ext.refl _).alloc _).alloc _⟩
def allIx {α : Type} (f : Nat → α → Bool) : Nat → List α → Bool
  | _, [] => true
  | i, x :: l => f i x && allIx f (i + 1) l
theorem allIx_iff {α : Type} {f : Nat → α → Bool} : ∀ {l : List α} {i : Nat}, allIx f i l = true ↔ ∀ (j : Nat) x, l[j]? = some x → f (i + j) x = true
  | [], i => by simp [allIx]
  | x :: l, i => by
    rw [allIx, Bool.and_eq_true, allIx_iff (l := l)]
    constructor
    · rintro ⟨h1, h2⟩ j y hj
      match j, hj with
      | 0, hj => simp at hj; subst hj; exact h1
      | j + 1, hj => have := h2 j y (by simpa using hj); rwa [Nat.add_assoc, Nat.add_comm 1 j] at this
    · intro h
      exact ⟨h 0 x rfl, fun j y hj => by have := h (j + 1) y (by simpa using hj); rwa [Nat.add_assoc, Nat.add_comm 1 j]⟩
theorem allIx_no {α : Type} {f : Nat → α → Bool} {l : List α} {j : Nat} {x : α} (hj : l[j]? = some x) (h : f j x = false) : allIx f 0 l = false := by
  cases ha : allIx f 0 l with
  | false => rfl
  | true => have := allIx_iff.1 ha j x hj; rw [Nat.zero_add, h] at this; cases this
theorem allIx_yes {α : Type} {f : Nat → α → Bool} {l : List α} (h : ∀ (j : Nat) x, l[j]? = some x → f j x = true) : allIx f 0 l = true := allIx_iff.2 fun j x hj => by rw [Nat.zero_add]; exact h j x hj
theorem all_no {α : Type} {f : α → Bool} {l : List α} {j : Nat} {x : α} (hj : l[j]? = some x) (h : f x = false) : l.all f = false := by
  cases ha : l.all f with
  | false => rfl
  | true => have := List.all_eq_true.1 ha x (List.mem_of_getElem? hj); rw [h] at this; cases this
theorem all_yes {α : Type} {f : α → Bool} {l : List α} (h : ∀ (j : Nat) x, l[j]? = some x → f x = true) : l.all f = true := List.all_eq_true.2 fun x hx => by
  obtain ⟨j, hj⟩ := List.mem_iff_getElem?.1 hx
  exact h j x hj
namespace Pg
def most (n : Int) (d : Int) : Int := if d = 1 then n - 1 else if d = 3 ∨ d = 4 then 3 else if d = 6 then 1000 else 0
def okI (n : Int) (x : Int × Int) : Bool := decide (0 ≤ x.1 ∧ x.1 ≤ 6 ∧ 0 ≤ x.2 ∧ x.2 ≤ most n x.1)
def okC (n : Int) (l : List (Int × Int)) : Bool := decide (l.length ≤ 20) && l.all (okI n)
def may (p : List (List (Int × Int))) : Bool := decide (1 ≤ p.length ∧ p.length ≤ 8) && p.all (okC p.length)
def small (p : List (List (Int × Int))) : Bool := (p.all fun l => decide (l.length ≤ 30)) && decide (p.length ≤ 12)
theorem small_iff {p : List (List (Int × Int))} : small p = true ↔ (∀ l ∈ p, l.length ≤ 30) ∧ p.length ≤ 12 := by simp [small]
end Pg
structure Gr where
  func : Int
  pc : Int
  st : Int
  m : Int
  seq : Int
structure Pr where
  m : Int
  next : Int
  ring : Ri
  seq : Int
structure St where
  prog : List (List (Int × Int))
  gs : List Gr
  ps : List Pr
  ms : List (Int × Int)
  glob : List Int
  c0 : Int
  c1 : Int
  c2 : Int
  c3 : Int
  w0 : List Int
  w1 : List Int
  w2 : List Int
  w3 : List Int
  timers : List (Int × Int)
  clock : Int
  procs : Int
namespace St
def low (n : Int) : Bool := decide (0 ≤ n ∧ n < 2305843009213693952)
def times (l : List Int) (n : Int) : Nat := l.count n
def queueOf (p : Pr) : List Int := (if p.next ≠ 0 then [p.next] else []) ++ p.ring.list
def runs (s : St) : List Int := s.ps.flatMap queueOf ++ s.glob
def waits (s : St) : List Int := s.w0 ++ s.w1 ++ s.w2 ++ s.w3
def waiters (s : St) : List Int := s.waits ++ s.timers.map Prod.snd
def onM (s : St) (b : Bool) : List Int := (s.ms.filter fun m => m.2 != 0 && ((m.1 != 0) == b)).map Prod.snd
def good (s : St) (g : Gr) : Bool := decide (0 ≤ g.func ∧ g.func < s.prog.length ∧ 0 ≤ g.pc) && low g.seq && decide (g.pc ≤ (s.prog.getD g.func.toNat []).length)
def goods (s : St) : Bool := s.gs.all s.good
def holdP (s : St) (i : Nat) (p : Pr) : Bool :=
  p.ring.may && low p.seq && decide (0 ≤ p.m ∧ p.m ≤ s.ms.length) && decide (0 < p.m → (s.ms.getD (p.m - 1).toNat (0, 0)).1 = i + 1) && !(decide (s.procs ≤ i) && (decide (0 < p.m) || decide (p.next ≠ 0) || decide (0 < p.ring.n)))
def nilP : Pr := ⟨0, 0, ⟨[], 0, 0⟩, 0⟩
def nilG : Gr := ⟨0, 0, 0, 0, 0⟩
def holdM (s : St) (i : Nat) (m : Int × Int) : Bool := decide (0 ≤ m.1 ∧ m.1 ≤ s.ps.length) && decide (0 < m.1 → (s.ps.getD (m.1 - 1).toNat nilP).m = i + 1)
def holds (s : St) : Bool := allIx s.holdP 0 s.ps && allIx s.holdM 0 s.ms
def within (l : List Int) (n : Int) : Bool := l.all fun x => decide (1 ≤ x ∧ x ≤ n)
def want (st i : Int) : Nat := if st = i then 1 else 0
def stands (s : St) (i : Nat) (g : Gr) : Bool :=
  decide (1 ≤ g.st ∧ g.st ≤ 5) && decide (times s.runs (i + 1) = want g.st 1 ∧ times (s.onM true) (i + 1) = want g.st 2 ∧ times s.waiters (i + 1) = want g.st 3 ∧ times (s.onM false) (i + 1) = want g.st 4) &&
  (if g.st ≠ 2 ∧ g.st ≠ 4 then decide (g.m = 0) else decide (1 ≤ g.m ∧ g.m ≤ s.ms.length) && decide ((s.ms.getD (g.m - 1).toNat (0, 0)).2 = i + 1))
def okCnt (c : Int) (l : List Int) : Bool := decide (0 ≤ c ∧ c ≤ 1000000) && !(decide (0 < c) && decide (0 < l.length))
def counts (s : St) : Bool := okCnt s.c0 s.w0 && okCnt s.c1 s.w1 && okCnt s.c2 s.w2 && okCnt s.c3 s.w3
def whole (s : St) : Bool := Pg.may s.prog && decide (1 ≤ s.gs.length ∧ s.gs.length ≤ 1000 ∧ s.ps.length = 8 ∧ 1 ≤ s.procs ∧ s.procs ≤ 8 ∧ s.ms.length ≤ 1000) && low s.clock && decide (Sl.May s.timers)
def allIn (s : St) : Bool := within s.runs s.gs.length && within s.waiters s.gs.length && within (s.onM true) s.gs.length && within (s.onM false) s.gs.length
def may (s : St) : Bool := s.whole && s.goods && s.holds && s.counts && s.allIn && allIx s.stands 0 s.gs
end St
section
variable {P : Program} {ops : Array Oper} {Q : Exit → Act → World → Prop} {md : Region.Mode}
def waitsFor (md : Region.Mode) (ops : Array Oper) : Nat → Nat → Nat → Bool
  | 0, _, _ => false
  | f + 1, k, i =>
    match ops[k]? with
    | some o => o.after.any fun e => Region.binds md e && (e.on == i || waitsFor md ops f e.on i)
    | none => false
def Closed (md : Region.Mode) (ops : Array Oper) (listed : Array Bool) : Prop := ∀ (j : Nat) (o : Oper), ops[j]? = some o → listed.getD j false = true → ∀ e ∈ o.after, Region.binds md e = true → listed.getD e.on false = true
def closedB (md : Region.Mode) (ops : Array Oper) (listed : Array Bool) : Bool :=
  (List.range ops.size).all fun j => !(listed.getD j false) || match ops[j]? with | some o => o.after.all (fun e => !(Region.binds md e) || listed.getD e.on false) | none => true
theorem closed_of {listed : Array Bool} (h : closedB md ops listed = true) : Closed md ops listed := by
  intro j o hj hl e he hb
  have hlt : j < ops.size := (Array.getElem?_eq_some_iff.1 hj).1
  unfold closedB at h
  have h1 := List.all_eq_true.1 h j (List.mem_range.2 hlt)
  rw [hj, hl] at h1
  simp only [Bool.not_true, Bool.false_or] at h1
  have h2 := Array.all_eq_true'.1 h1 e he
  rw [hb] at h2
  simpa using h2
theorem Closed.set {listed : Array Bool} {j : Nat} {oj : Oper} (h : Closed md ops listed) (hoj : ops[j]? = some oj) (hall : ∀ e ∈ oj.after, Region.binds md e = true → listed.getD e.on false = true) : Closed md ops (listed.setIfInBounds j true) := by
  intro i o hi hl e he hb
  by_cases hij : j = i
  · subst hij
    rw [hoj] at hi
    injection hi with hi
    subst hi
    exact getD_set_true (hall e he hb)
  · rw [getD_set_ne false hij] at hl
    exact getD_set_true (h i o hi hl e he hb)
theorem waits_listed {listed : Array Bool} (h : Closed md ops listed) : ∀ (f k i : Nat) (o : Oper), ops[k]? = some o → waitsFor md ops f k i = true → (∀ e ∈ o.after, Region.binds md e = true → listed.getD e.on false = true) → listed.getD i false = true
  | 0, _, _, _, _, hw, _ => by simp [waitsFor] at hw
  | f + 1, k, i, o, hk, hw, hd => by
    simp only [waitsFor, hk, Array.any_eq_true, Bool.and_eq_true, Bool.or_eq_true, beq_iff_eq] at hw
    obtain ⟨x, hx, hb, hor⟩ := hw
    have hl := hd _ (Array.getElem_mem hx) hb
    rcases hor with he | hw
    · rw [← he]; exact hl
    · cases ho : ops[(o.after[x]).on]? with
      | none =>
        cases f with
        | zero => simp [waitsFor] at hw
        | succ f => simp [waitsFor, ho] at hw
      | some o' => exact waits_listed h f _ i o' ho hw (h _ o' ho hl)
theorem GivesV.mono {S T : World → Prop} {v : Value} {r : Result Next} (h : GivesV P S v r) (hs : ∀ w, S w → T w) : GivesV P T v r := by
  unfold GivesV at *
  cases r with
  | halt x w => exact h
  | ok n w =>
    cases n with
    | value u => exact ⟨h.1, hs _ h.2⟩
    | skip => exact ⟨h.1, hs _ h.2⟩
    | enter f args => exact Calls.mono h fun e w' he => ⟨he.1, hs _ he.2⟩
    | _ => exact h
def Still (P : Program) (ops : Array Oper) (U : World → Prop) (o : Oper) (v : Value) (a : Act) : Prop :=
  (Region.wanted o (yielded ops a.tmps) = true ∧ ∀ w, U w → GivesV P (fun w' => w' = w) v ((execOp a.eval o).run P w)) ∨
  (Region.wanted o (yielded ops a.tmps) = false ∧ v = undef)
theorem Still.tame {U S : World → Prop} {o : Oper} {v : Value} {a : Act} (h : Still P ops U o v a) (hs : ∀ w, S w → U w) : Tame P ops S o v a := by
  rcases h with ⟨h1, h2⟩ | h
  · exact .inl ⟨h1, fun w hw => (h2 w (hs w hw)).mono fun w' h => h ▸ hw⟩
  · exact .inr h
theorem Still.yes {U : World → Prop} {o : Oper} {v : Value} {a : Act} (hw : Region.wanted o (yielded ops a.tmps) = true) (h : ∀ w, U w → GivesV P (fun w' => w' = w) v ((execOp a.eval o).run P w)) : Still P ops U o v a := .inl ⟨hw, h⟩
theorem wpOp_call {k : Nat} {o : Oper} {a : Act} {K : Act → World → Prop} {w w' : World} {f : FuncId} {args : Array Value} (hk : ops[k]? = some o) (hw : Region.wanted o (yielded ops a.tmps) = true)
    (hrun : (execOp a.eval o).run P w = .ok (.enter f args) w') (hK : Calls P f args w' fun e w'' => ∃ v, e = .returned v ∧ K (a.put o.dst v) w'') : wpOp P ops Q k K a w := by
  unfold wpOp
  simp only [hk, hw, if_true]
  left
  unfold Oper.wp
  rw [hrun]
  simp only [Oper.upon]
  exact Calls.mono hK fun e w'' ⟨v, he, h⟩ => by subst he; exact h
end
section
variable {P : Program} {ops : Array Oper} {Q : Exit → Act → World → Prop} {md : Region.Mode} {z : Nat} {C : World → Prop}
def wpG (P : Program) (md : Region.Mode) (ops : Array Oper) (Q : Exit → Act → World → Prop) (z : Nat) (C : World → Prop) : Nat → (World → Prop) → Array Bool → Act → Prop
  | 0, S, listed, a => Region.ready md ops listed = [] ∧ ∀ w, S w → Q .normal a w
  | f + 1, S, listed, a => (Region.ready md ops listed = [] → ∀ w, S w → Q .normal a w) ∧
      ∀ i ∈ Region.ready md ops listed, ∃ T : Value → World → Prop, (∀ v w, T v w → (listed.setIfInBounds i true).getD z false = false → C w) ∧
        ∀ w, S w → wpOp P ops Q i (fun a' w' => ∃ v, T v w' ∧ wpG P md ops Q z C f (T v) (listed.setIfInBounds i true) a') a w
theorem wpAny_of_g : ∀ (f : Nat) (S : World → Prop) (listed : Array Bool) (a : Act) (w : World), S w → wpG P md ops Q z C f S listed a → wpAny P md ops Q f listed a w
  | 0, _, _, _, _, hS, h => ⟨h.1, h.2 _ hS⟩
  | f + 1, _, _, _, _, hS, h => ⟨fun h0 => h.1 h0 _ hS, fun i hi => by
      obtain ⟨T, _, h2⟩ := h.2 i hi
      exact wpOp_mono (fun a' w' ⟨v, h', h''⟩ => wpAny_of_g f (T v) _ a' w' h' h'') (h2 _ hS)⟩
theorem op_apart_eq {j : Nat} {oi oj : Oper} {v : Value} {a : Act} {w : World} (hj : ops[j]? = some oj) (hap : oi.apart ops oj = true)
    (hsi : ∀ cs b, oi.op ≠ .select cs b) (hsj : ∀ cs b, oj.op ≠ .select cs b)
    (hQ : ∀ c a w, Q (.panic c) (a.put oi.dst v) w → Q (.panic c) a w) {K : Act → World → Prop}
    (h : wpOp P ops Q j K (a.put oi.dst v) w) :
    wpOp P ops Q j (fun a' w' => (execOp a'.eval oi = execOp a.eval oi ∧ Region.wanted oi (yielded ops a'.tmps) = Region.wanted oi (yielded ops a.tmps)) ∧ K (a'.put oi.dst v) w') a w := by
  obtain ⟨h1, h2, h3⟩ := Oper.apart_spec hap
  have keep : ∀ u, execOp (a.put oj.dst u).eval oi = execOp a.eval oi ∧ Region.wanted oi (yielded ops (a.put oj.dst u).tmps) = Region.wanted oi (yielded ops a.tmps) := fun u => ⟨execOp_put oi hsi a oj.dst u h3, wanted_put oi a oj.dst u h3⟩
  have swap : ∀ u w', K ((a.put oi.dst v).put oj.dst u) w' → (execOp (a.put oj.dst u).eval oi = execOp a.eval oi ∧ Region.wanted oi (yielded ops (a.put oj.dst u).tmps) = Region.wanted oi (yielded ops a.tmps)) ∧ K ((a.put oj.dst u).put oi.dst v) w' :=
    fun u w' hk => ⟨keep u, by rw [← Act.put_comm a v u h2]; exact hk⟩
  unfold wpOp at *
  simp only [hj] at *
  rw [wanted_put oj a oi.dst v h1] at h
  split
  · rename_i hw
    simp only [hw, if_true] at h
    rcases h with h | ⟨hasks, hlets⟩
    · left
      unfold Oper.wp at *
      rw [execOp_put oj hsj a oi.dst v h1] at h
      generalize (execOp a.eval oj).run P w = r at *
      cases r with
      | ok n w' =>
        cases n <;> simp only [Oper.upon] at h ⊢
        case value u => exact swap u w' h
        case skip => exact swap _ w' h
        case defer d =>
          refine ⟨⟨execOp_put oi hsi { a with defers := d :: a.defers } oj.dst _ h3, wanted_put oi { a with defers := d :: a.defers } oj.dst _ h3⟩, ?_⟩
          rw [← Act.put_comm _ v undef h2, ← Act.put_defers]
          exact h
        case enter f args =>
          refine Calls.mono h fun e w'' he => ?_
          cases e with
          | returned u => exact swap u w'' he
          | panicked c => exact hQ _ _ _ he
          | outgrown => exact he
        case row row args => exact Rows.mono h fun u w'' he => swap u w'' he
      | halt x w' =>
        cases x <;> simp only [Oper.upon] at h ⊢
        case panic u => exact hQ _ _ _ h
    · right
      unfold Oper.asks at *
      rw [execOp_put oj hsj a oi.dst v h1] at hasks
      exact ⟨hasks, hlets⟩
  · rename_i hw
    simp only [hw] at h
    exact swap _ w h
theorem Still.same {U : World → Prop} {o : Oper} {v : Value} {a b : Act} (h : Still P ops U o v a) (he : execOp b.eval o = execOp a.eval o)
    (hw : Region.wanted o (yielded ops b.tmps) = Region.wanted o (yielded ops a.tmps)) : Still P ops U o v b := by
  unfold Still at *
  rw [he, hw]
  exact h
theorem g_first (needs : Bool) {i : Nat} {oi : Oper} {v : Value} (hi : ops[i]? = some oi) (hsel : ∀ (j : Nat) (o : Oper) cs b, ops[j]? = some o → o.op ≠ .select cs b)
    (hQ : ∀ c a w, Q (.panic c) (a.put oi.dst v) w → Q (.panic c) a w) (hiz : i ≠ z) (hw : needs = true → ops.size ≤ z ∨ waitsFor md ops ops.size z i = true) :
    ∀ (f : Nat) (S : World → Prop) (listed : Array Bool) (a : Act), (needs = true → listed.size = ops.size) →
      (∀ j oj, ops[j]? = some oj → j ≠ i → listed.getD j true = false → (∀ e ∈ oj.after, Region.binds md e = true → e.on ≠ i) → oi.apart ops oj = true) →
      i ∈ Region.ready md ops listed → (needs = true → Closed md ops listed) → (∀ w, S w → listed.getD z false = false → C w) →
      Still P ops (if needs = true then C else fun _ => True) oi v a →
      wpG P md ops Q z C f S (listed.setIfInBounds i true) (a.put oi.dst v) → wpG P md ops Q z C (f + 1) S listed a := by
  -- in every world of such a phase the operation can be carried out
  have can : ∀ (S : World → Prop) (listed : Array Bool) (a : Act), (needs = true → listed.size = ops.size) → i ∈ Region.ready md ops listed → (needs = true → Closed md ops listed) → (∀ w, S w → listed.getD z false = false → C w) →
      Still P ops (if needs = true then C else fun _ => True) oi v a → Tame P ops S oi v a := fun S listed a hsz hr hcl hSC hy => hy.tame fun w hS => by
    by_cases hn : needs = true
    · rw [if_pos hn]
      refine hSC w hS ?_
      have h0 := (mem_ready.1 hr).1
      cases hz : listed.getD z false with
      | false => rfl
      | true =>
        exfalso
        rcases hw hn with hge | hwz
        · have : listed.getD z false = false := by simp [Array.getElem?_eq_none (show listed.size ≤ z by rw [hsz hn]; exact hge)]
          rw [this] at hz; cases hz
        · cases ho : ops[z]? with
          | none =>
            have : ∀ f, waitsFor md ops (f + 1) z i = false := fun f => by simp [waitsFor, ho]
            cases hs : ops.size with
            | zero => rw [hs] at hwz; simp [waitsFor] at hwz
            | succ f => rw [hs, this] at hwz; cases hwz
          | some oz =>
            have h1 := waits_listed (hcl hn) _ _ _ oz ho hwz ((hcl hn) z oz ho hz)
            rcases Nat.lt_or_ge i listed.size with h' | h'
            · simp [h'] at h0 h1; rw [h0] at h1; cases h1
            · simp [Array.getElem?_eq_none h'] at h1
    · rw [if_neg hn]; trivial
  have step : ∀ (S : World → Prop) (listed : Array Bool) (a : Act) (f : Nat), (∀ w, S w → listed.getD z false = false → C w) → Tame P ops S oi v a → wpG P md ops Q z C f S (listed.setIfInBounds i true) (a.put oi.dst v) →
      ∃ T : Value → World → Prop, (∀ v w, T v w → (listed.setIfInBounds i true).getD z false = false → C w) ∧
        ∀ w, S w → wpOp P ops Q i (fun a' w' => ∃ v, T v w' ∧ wpG P md ops Q z C f (T v) (listed.setIfInBounds i true) a') a w := fun S listed a f hSC hy H =>
    ⟨fun _ => S, fun _ w hS hz => hSC w hS (by rwa [getD_set_ne false hiz] at hz), fun w hS => hy.op hi hS fun w' h' => ⟨undef, h', H⟩⟩
  intro f
  induction f with
  | zero =>
    intro S listed a hsz _ hr hcl hSC hy H
    refine ⟨fun h => (by rw [h] at hr; cases hr), fun j hj => ?_⟩
    by_cases hji : j = i
    · subst hji
      exact step S listed a 0 hSC (can S listed a hsz hr hcl hSC hy) H
    · have h0 := ready_mono hj hji
      rw [H.1] at h0
      cases h0
  | succ f ih =>
    intro S listed a hsz hfree hr hcl hSC hy H
    refine ⟨fun h => (by rw [h] at hr; cases hr), fun j hj => ?_⟩
    by_cases hji : j = i
    · subst hji
      exact step S listed a (f + 1) hSC (can S listed a hsz hr hcl hSC hy) H
    · obtain ⟨hjun, oj, hoj, hall⟩ := mem_ready.1 hj
      have hap : oi.apart ops oj = true := hfree j oj hoj hji hjun fun e he hb heq => by
        have h1 := hall e he hb
        have h0 := (mem_ready.1 hr).1
        rw [heq] at h1
        rcases Nat.lt_or_ge i listed.size with h' | h'
        · simp [h'] at h0 h1; rw [h0] at h1; cases h1
        · simp [Array.getElem?_eq_none h'] at h1
      have keep : ∀ k ok, ops[k]? = some ok → k ≠ i → (listed.setIfInBounds j true).getD k true = false → (∀ e ∈ ok.after, Region.binds md e = true → e.on ≠ i) → oi.apart ops ok = true := fun k ok hk hki hun hn => by
        refine hfree k ok hk hki ?_ hn
        by_cases hjk : j = k
        · subst hjk; exact hjun
        · rw [getD_set_ne true hjk] at hun; exact hun
      obtain ⟨T, hTC, hH⟩ := H.2 j (ready_mono hj hji)
      have hTC' : ∀ u w, T u w → (listed.setIfInBounds j true).getD z false = false → C w := fun u w hT hz => hTC u w hT (by
        rw [Array.setIfInBounds_comm _ _ (Ne.symm hji), getD_set_ne false hiz]; exact hz)
      refine ⟨T, hTC', fun w hS => ?_⟩
      have h2 := op_apart_eq hoj hap (fun cs b => hsel i oi cs b hi) (fun cs b => hsel j oj cs b hoj) hQ (hH w hS)
      obtain ⟨h1, h2', h3'⟩ := Oper.apart_spec hap
      refine wpOp_mono (fun a' w' h3 => ?_) h2
      obtain ⟨hsame, u, h4, h5⟩ := h3
      have hy' := hy.same hsame.1 hsame.2
      refine ⟨u, h4, ?_⟩
      refine ih (T u) (listed.setIfInBounds j true) a' (fun hn => by simp [hsz hn]) keep (ready_mono hr (Ne.symm hji)) (fun hn => (hcl hn).set hoj hall) (hTC' u) hy' ?_
      rw [Array.setIfInBounds_comm _ _ hji]
      exact h5
theorem g_take {S : World → Prop} {i : Nat} {oi : Oper} {v : Value} {f : Nat} {listed : Array Bool} {a : Act} (hSC : ∀ w, S w → listed.getD z false = false → C w) (hi : ops[i]? = some oi)
    (hs : Region.noSelect ops = true) (hf : Region.free md ops listed i = true) (hr : (Region.ready md ops listed).contains i = true) (hz : (i != z && listed.size == ops.size && (decide (ops.size ≤ z) || waitsFor md ops ops.size z i)) = true) (hcl : closedB md ops listed = true)
    (hQ : ∀ c a w, Q (.panic c) (a.put oi.dst v) w → Q (.panic c) a w) (hy : Still P ops C oi v a)
    (h : wpG P md ops Q z C f S (listed.setIfInBounds i true) (a.put oi.dst v)) : wpG P md ops Q z C (f + 1) S listed a := by
  simp only [Bool.and_eq_true, bne_iff_ne, beq_iff_eq, Bool.or_eq_true, decide_eq_true_eq] at hz
  exact g_first true hi (Region.noSelect_spec hs) hQ hz.1.1 (fun _ => hz.2) f S listed a (fun _ => hz.1.2) (Region.free_spec hi hf) (by simpa using hr) (fun _ => closed_of hcl) hSC (by rw [if_pos rfl]; exact hy) h
theorem g_done {S : World → Prop} {listed : Array Bool} {a : Act} (hr : Region.ready md ops listed = []) (h : ∀ w, S w → Q .normal a w) : ∀ f, wpG P md ops Q z C f S listed a
  | 0 => ⟨hr, h⟩
  | _ + 1 => ⟨fun _ => h, by rw [hr]; simp⟩
theorem g_turn (T : Value → World → Prop) {S : World → Prop} {k f : Nat} {listed : Array Bool} {a : Act} (hr : Region.ready md ops listed = [k]) (hT : ∀ v w, T v w → (listed.setIfInBounds k true).getD z false = false → C w)
    (h : ∀ w, S w → wpOp P ops Q k (fun a' w' => ∃ v, T v w' ∧ wpG P md ops Q z C f (T v) (listed.setIfInBounds k true) a') a w) : wpG P md ops Q z C (f + 1) S listed a :=
  ⟨fun h => (by rw [hr] at h; cases h), fun i hi => by rw [hr, List.mem_singleton] at hi; subst hi; exact ⟨T, hT, h⟩⟩
theorem region_g (z : Nat) (C S : World → Prop) {id : Nat} {a : Act} {w : World} (hm : P.follows .mixedOrders = true) (hS : S w.drew)
    (h : wpG P .any ops Q z C ops.size S (Array.replicate ops.size false) a) : (Code.region id ops true).wp P Q a w :=
  wp_region_any hm (wpAny_of_g _ _ _ _ _ hS h)
theorem at_call {T : Value → World → Prop} {S : World → Prop} {k f : Nat} {o : Oper} {listed : Array Bool} {a : Act} {fid : FuncId} {args : Array Value} {w : World}
    (hk : ops[k]? = some o) (hw : Region.wanted o (yielded ops a.tmps) = true) (hrun : (execOp a.eval o).run P w = .ok (.enter fid args) w)
    (hc : Calls P fid args w fun e w' => ∃ v, e = .returned v ∧ T v w')
    (h : ∀ v, (∃ w, T v w) → wpG P md ops Q z C f (T v) (listed.setIfInBounds k true) (a.put o.dst v)) : wpOp P ops Q k (fun a' w' => ∃ v, T v w' ∧ wpG P md ops Q z C f (T v) (listed.setIfInBounds k true) a') a w :=
  wpOp_call hk hw hrun (hc.mono fun e w' ⟨v, he, hT⟩ => ⟨v, he, v, hT, h v ⟨w', hT⟩⟩)
theorem at_skip {T : Value → World → Prop} {k f : Nat} {o : Oper} {listed : Array Bool} {a : Act} {w : World}
    (hk : ops[k]? = some o) (hw : Region.wanted o (yielded ops a.tmps) = true) (hc : ∃ w', (execOp a.eval o).run P w = .ok .skip w' ∧ T undef w')
    (h : wpG P md ops Q z C f (T undef) (listed.setIfInBounds k true) (a.put o.dst undef)) : wpOp P ops Q k (fun a' w' => ∃ v, T v w' ∧ wpG P md ops Q z C f (T v) (listed.setIfInBounds k true) a') a w := by
  obtain ⟨w', hrun, hT⟩ := hc
  unfold wpOp
  simp only [hk, hw, if_true]
  left
  unfold Oper.wp
  rw [hrun]
  exact ⟨undef, hT, h⟩
end
end Go.Proofs.Ytogcfndhcphpaaa
