/-
  Layer 9's own helper 'fixed': it returns true.
-/
import Derived.Test.YtdpmogbibmgolaaNi
set_option linter.unusedVariables false
set_option linter.unusedSimpArgs false
namespace Go.Proofs.Ytdpmogbibmgolaa
open Go.RowKit
theorem ints_lit (w : World) (xs : List Int) : IntsAt (w.alloc (.cells (bufCells xs) 3)) (.slice (some ⟨w.heap.size, 0, none⟩) xs.length xs.length) xs :=
  ⟨_, xs.length, rfl, fun _ => ⟨w.heap.size, 0, rfl, by simp, fun j x hj => by
    have hlt : j < xs.length := (List.getElem?_eq_some_iff.1 hj).1
    have hx : xs[j] = x := (List.getElem?_eq_some_iff.1 hj).2
    have := blk_cell (blk_new w (.cells (bufCells xs) 3)) j _ (bufCells_at hlt)
    rw [hx] at this
    simpa using this⟩⟩
theorem ints_lit' (w : World) (g n : Nat) (cs : Array Value) (xs : List Int) (hc : cs = bufCells xs) (hg : g = w.heap.size) (hn : n = xs.length) : IntsAt (w.alloc (.cells cs 3)) (.slice (some ⟨g, 0, none⟩) n n) xs := by
  subst hc hg hn; exact ints_lit w xs
theorem rhalf_k (b0 b1 b2 b3 b4 b5 b6 b7 hd nn : Int) (e0 e1 e2 e3 e4 e5 e6 e7 eh en : Int) (o : List Int) (h : Ri.half ⟨[b0, b1, b2, b3, b4, b5, b6, b7], hd, nn⟩ = (⟨[e0, e1, e2, e3, e4, e5, e6, e7], eh, en⟩, o)) (w : World) :
    Calls Try.prog 15 #[.agg #[.int .i64 b0, .int .i64 b1, .int .i64 b2, .int .i64 b3, .int .i64 b4, .int .i64 b5, .int .i64 b6, .int .i64 b7, .int .i64 hd, .int .i64 nn]] w fun e w' => ∃ A c, e = .returned (.tuple #[.agg #[.int .i64 e0, .int .i64 e1, .int .i64 e2, .int .i64 e3, .int .i64 e4, .int .i64 e5, .int .i64 e6, .int .i64 e7, .int .i64 eh, .int .i64 en], .slice A o.length c]) ∧ IntsAt w' (.slice A o.length c) o ∧ Ext w w' := by
  unfold Ri.half at h
  split at h
  · rename_i hm
    have hi : Ri.inside ⟨[b0, b1, b2, b3, b4, b5, b6, b7], hd, nn⟩ = true := by have := hm; unfold Ri.may at this; rw [Bool.and_eq_true] at this; exact this.1
    obtain ⟨a, n, rfl, rfl, h1, h2⟩ := Ri.inside_nat hi
    exact rhalf_in b0 b1 b2 b3 b4 b5 b6 b7 a n h1 h2 hm e0 e1 e2 e3 e4 e5 e6 e7 eh en o h w
  · rename_i hm
    simp only [Prod.mk.injEq, Ri.zero, Ri.mk.injEq, List.cons.injEq, and_true] at h
    obtain ⟨⟨⟨rfl, rfl, rfl, rfl, rfl, rfl, rfl, rfl⟩, rfl, rfl⟩, rfl⟩ := h
    refine (rhalf_no b0 b1 b2 b3 b4 b5 b6 b7 hd nn (by simpa using hm) w).mono ?_
    rintro e w' ⟨rfl, hx⟩
    exact ⟨none, 0, rfl, ⟨none, 0, rfl, fun h => by simp at h⟩, hx⟩
theorem Ri.F1 : Ri.ofs Ri.zero [1, 2, 3] = (⟨[1, 2, 3, 0, 0, 0, 0, 0], 0, 3⟩, true) := by kernel_rfl
theorem Ri.F2 : Ri.half ⟨[1, 2, 3, 0, 0, 0, 0, 0], 0, 3⟩ = (⟨[0, 0, 3, 0, 0, 0, 0, 0], 2, 1⟩, [1, 2]) := by kernel_rfl
theorem Ri.F3 : Ri.pop ⟨[1, 2, 3, 0, 0, 0, 0, 0], 0, 3⟩ = (⟨[0, 2, 3, 0, 0, 0, 0, 0], 1, 2⟩, 1, true) := by kernel_rfl
theorem Ri.F4 : Ri.push ⟨[0, 2, 3, 0, 0, 0, 0, 0], 1, 2⟩ 9 = (⟨[0, 2, 3, 9, 0, 0, 0, 0], 1, 3⟩, true) := by kernel_rfl
theorem Ri.F5 : Ri.ofs Ri.zero [1, 2, 3, 4, 5, 6, 7, 8, 9] = (⟨[0, 0, 0, 0, 0, 0, 0, 0], 0, 0⟩, false) := by kernel_rfl
theorem Ri.F6 : Ri.list ⟨[0, 0, 3, 0, 0, 0, 0, 0], 2, 1⟩ = [3] := by kernel_rfl
theorem Ri.F7 : Ri.list ⟨[0, 2, 3, 9, 0, 0, 0, 0], 1, 3⟩ = [2, 3, 9] := by kernel_rfl
theorem Ri.F8 : Ri.may ⟨[1, 2, 3, 0, 0, 0, 0, 0], 0, 3⟩ = true := by kernel_rfl
theorem Ri.F9 : Ri.may ⟨[0, 0, 0, 0, 0, 0, 0, 0], 0, 1⟩ = false := by kernel_rfl
set_option maxRecDepth 100000 in
set_option maxHeartbeats 1500000 in
theorem rgfixed_yes (w : World) : Calls Try.prog 7 #[] w fun e w' => e = .returned (.bool true) ∧ Ext w w' := by
  have hI1 := ints_lit w [1, 2, 3]
  have HI1 := Lib.hid hI1
  clear hI1
  go_enter Try.func7, Try.ntmps7
  go_wp2_with fail
  refine (rof_k _ [1, 2, 3] 1 2 3 0 0 0 0 0 0 3 true Ri.F1 _ HI1.out (by simp)).mono ?_
  rintro r w1 ⟨rfl, hx1⟩
  have HX1 : Hid (Ext w (w1.alloc (.cells #[.int .i64 1, .int .i64 2, .int .i64 3, .int .i64 0, .int .i64 0, .int .i64 0, .int .i64 0, .int .i64 0, .int .i64 0, .int .i64 3] 24))) := Lib.hid ((((Ext.refl w).alloc _).trans hx1).alloc _)
  have HB1 := Lib.hid (blk_new w1 (.cells #[.int .i64 1, .int .i64 2, .int .i64 3, .int .i64 0, .int .i64 0, .int .i64 0, .int .i64 0, .int .i64 0, .int .i64 0, .int .i64 3] 24))
  clear hx1
  obtain ⟨⟨q0, q1, q2, q3, q4⟩, q5, q6, q7, q8, q9⟩ := cells10 HB1.out
  go_wp2_with fail
  refine (rhalf_k 1 2 3 0 0 0 0 0 0 3 0 0 3 0 0 0 0 0 2 1 [1, 2] Ri.F2 _).mono ?_
  rintro r w2 ⟨A2, c2, rfl, hi2, hx2⟩
  clear q0 q1 q2 q3 q4 q5 q6 q7 q8 q9
  have HX2 : Hid (Ext w (w2.alloc (.cells #[.int .i64 0, .int .i64 0, .int .i64 3, .int .i64 0, .int .i64 0, .int .i64 0, .int .i64 0, .int .i64 0, .int .i64 2, .int .i64 1] 24))) := Lib.hid ((HX1.out.trans hx2).alloc _)
  have HB12 := Lib.hid (blk_alloc (hx2.blk HB1.out) (.cells #[.int .i64 0, .int .i64 0, .int .i64 3, .int .i64 0, .int .i64 0, .int .i64 0, .int .i64 0, .int .i64 0, .int .i64 2, .int .i64 1] 24))
  have HB2 := Lib.hid (blk_new w2 (.cells #[.int .i64 0, .int .i64 0, .int .i64 3, .int .i64 0, .int .i64 0, .int .i64 0, .int .i64 0, .int .i64 0, .int .i64 2, .int .i64 1] 24))
  have HI2 := Lib.hid (hi2.ext ((Ext.refl w2).alloc (.cells #[.int .i64 0, .int .i64 0, .int .i64 3, .int .i64 0, .int .i64 0, .int .i64 0, .int .i64 0, .int .i64 0, .int .i64 2, .int .i64 1] 24)))
  clear hx2 hi2 HX1 HB1
  obtain ⟨⟨q0, q1, q2, q3, q4⟩, q5, q6, q7, q8, q9⟩ := cells10 HB12.out
  go_wp2_with fail
  refine (rpop_k 1 2 3 0 0 0 0 0 0 3 0 2 3 0 0 0 0 0 1 2 1 true Ri.F3 _).mono ?_
  rintro r w3 ⟨rfl, hx3⟩
  clear q0 q1 q2 q3 q4 q5 q6 q7 q8 q9
  have E3 : Hid (Ext (w2.alloc (.cells #[.int .i64 0, .int .i64 0, .int .i64 3, .int .i64 0, .int .i64 0, .int .i64 0, .int .i64 0, .int .i64 0, .int .i64 2, .int .i64 1] 24)) (w3.alloc (.cells #[.int .i64 0, .int .i64 2, .int .i64 3, .int .i64 0, .int .i64 0, .int .i64 0, .int .i64 0, .int .i64 0, .int .i64 1, .int .i64 2] 24))) := Lib.hid (hx3.alloc _)
  have HB3 := Lib.hid (blk_new w3 (.cells #[.int .i64 0, .int .i64 2, .int .i64 3, .int .i64 0, .int .i64 0, .int .i64 0, .int .i64 0, .int .i64 0, .int .i64 1, .int .i64 2] 24))
  clear hx3
  obtain ⟨⟨q0, q1, q2, q3, q4⟩, q5, q6, q7, q8, q9⟩ := cells10 HB3.out
  go_wp2_with fail
  refine (rpush_k 0 2 3 0 0 0 0 0 1 2 9 0 2 3 9 0 0 0 0 1 3 true Ri.F4 _).mono ?_
  rintro r w4 ⟨rfl, hx4⟩
  clear q0 q1 q2 q3 q4 q5 q6 q7 q8 q9
  have E4 : Hid (Ext (w3.alloc (.cells #[.int .i64 0, .int .i64 2, .int .i64 3, .int .i64 0, .int .i64 0, .int .i64 0, .int .i64 0, .int .i64 0, .int .i64 1, .int .i64 2] 24)) (w4.alloc (.cells #[.int .i64 0, .int .i64 2, .int .i64 3, .int .i64 9, .int .i64 0, .int .i64 0, .int .i64 0, .int .i64 0, .int .i64 1, .int .i64 3] 24))) := Lib.hid (hx4.alloc _)
  have HB4 := Lib.hid (blk_new w4 (.cells #[.int .i64 0, .int .i64 2, .int .i64 3, .int .i64 9, .int .i64 0, .int .i64 0, .int .i64 0, .int .i64 0, .int .i64 1, .int .i64 3] 24))
  have HI5 : Hid (IntsAt ((w4.alloc (.cells #[.int .i64 0, .int .i64 2, .int .i64 3, .int .i64 9, .int .i64 0, .int .i64 0, .int .i64 0, .int .i64 0, .int .i64 1, .int .i64 3] 24)).alloc (.cells #[.int .i64 1, .int .i64 2, .int .i64 3, .int .i64 4, .int .i64 5, .int .i64 6, .int .i64 7, .int .i64 8, .int .i64 9] 3)) (.slice (some ⟨w4.heap.size + 1, 0, none⟩) 9 9) [1, 2, 3, 4, 5, 6, 7, 8, 9]) := Lib.hid (ints_lit' _ _ _ _ _ rfl (by simp) rfl)
  clear hx4
  go_wp2_with fail
  refine (rof_k _ [1, 2, 3, 4, 5, 6, 7, 8, 9] 0 0 0 0 0 0 0 0 0 0 false Ri.F5 _ HI5.out (by simp)).mono ?_
  rintro r w5 ⟨rfl, hx5⟩
  have E5 : Hid (Ext (w4.alloc (.cells #[.int .i64 0, .int .i64 2, .int .i64 3, .int .i64 9, .int .i64 0, .int .i64 0, .int .i64 0, .int .i64 0, .int .i64 1, .int .i64 3] 24)) ((w5.alloc (.cells #[.int .i64 0, .int .i64 0, .int .i64 0, .int .i64 0, .int .i64 0, .int .i64 0, .int .i64 0, .int .i64 0, .int .i64 0, .int .i64 0] 24)).alloc (.cells #[.int .i64 1, .int .i64 2] 3))) := Lib.hid ((((((Ext.refl _).alloc _).trans hx5)).alloc _).alloc _)
  have HI6 : Hid (IntsAt ((w5.alloc (.cells #[.int .i64 0, .int .i64 0, .int .i64 0, .int .i64 0, .int .i64 0, .int .i64 0, .int .i64 0, .int .i64 0, .int .i64 0, .int .i64 0] 24)).alloc (.cells #[.int .i64 1, .int .i64 2] 3)) (.slice (some ⟨w5.heap.size + 1, 0, none⟩) 2 2) [1, 2]) := Lib.hid (ints_lit' _ _ _ _ _ rfl (by simp) rfl)
  clear hx5
  go_wp2_with fail
  refine (rints_eq _ _ [1, 2] [1, 2] true rfl _ (((HI2.out.ext E3.out).ext E4.out).ext E5.out) HI6.out (by simp)).mono ?_
  rintro r w6 ⟨rfl, hx6⟩
  have E6 : Hid (Ext (w4.alloc (.cells #[.int .i64 0, .int .i64 2, .int .i64 3, .int .i64 9, .int .i64 0, .int .i64 0, .int .i64 0, .int .i64 0, .int .i64 1, .int .i64 3] 24)) w6) := Lib.hid (E5.out.trans hx6)
  clear hx6 E5
  have E26 : Hid (Ext (w2.alloc (.cells #[.int .i64 0, .int .i64 0, .int .i64 3, .int .i64 0, .int .i64 0, .int .i64 0, .int .i64 0, .int .i64 0, .int .i64 2, .int .i64 1] 24)) w6) := Lib.hid (E3.out.trans (E4.out.trans E6.out))
  obtain ⟨⟨q0, q1, q2, q3, q4⟩, q5, q6, q7, q8, q9⟩ := cells10 (E26.out.blk HB2.out)
  go_wp2_with fail
  refine (rlist_k 0 0 3 0 0 0 0 0 2 1 [3] Ri.F6 _).mono ?_
  rintro r w7 ⟨v7, rfl, hi7, hx7⟩
  clear q0 q1 q2 q3 q4 q5 q6 q7 q8 q9
  have HI7 := Lib.hid (hi7.ext ((Ext.refl w7).alloc (.cells #[.int .i64 3] 3)))
  have HI8 : Hid (IntsAt ((w7).alloc (.cells #[.int .i64 3] 3)) (.slice (some ⟨w7.heap.size, 0, none⟩) 1 1) [3]) := Lib.hid (ints_lit' _ _ _ _ _ rfl (by simp) rfl)
  clear hi7
  go_wp2_with fail
  refine (rints_eq _ _ [3] [3] true rfl _ HI7.out HI8.out (by simp)).mono ?_
  rintro r w8 ⟨rfl, hx8⟩
  have E8 : Hid (Ext (w4.alloc (.cells #[.int .i64 0, .int .i64 2, .int .i64 3, .int .i64 9, .int .i64 0, .int .i64 0, .int .i64 0, .int .i64 0, .int .i64 1, .int .i64 3] 24)) w8) := Lib.hid (E6.out.trans (hx7.trans (((Ext.refl w7).alloc _).trans hx8)))
  clear hx7 hx8
  have p8 := blk_cell ((E4.out.trans E8.out).blk HB3.out) 8 (.int .i64 1) rfl
  obtain ⟨⟨q0, q1, q2, q3, q4⟩, q5, q6, q7, q8, q9⟩ := cells10 (E8.out.blk HB4.out)
  go_wp2_with fail
  refine (rlist_k 0 2 3 9 0 0 0 0 1 3 [2, 3, 9] Ri.F7 _).mono ?_
  rintro r w9 ⟨v9, rfl, hi9, hx9⟩
  clear q0 q1 q2 q3 q4 q5 q6 q7 q8 q9
  have HI9 := Lib.hid (hi9.ext ((Ext.refl w9).alloc (.cells #[.int .i64 2, .int .i64 3, .int .i64 9] 3)))
  have HI10 : Hid (IntsAt ((w9).alloc (.cells #[.int .i64 2, .int .i64 3, .int .i64 9] 3)) (.slice (some ⟨w9.heap.size, 0, none⟩) 3 3) [2, 3, 9]) := Lib.hid (ints_lit' _ _ _ _ _ rfl (by simp) rfl)
  clear hi9 p8
  go_wp2_with fail
  refine (rints_eq _ _ [2, 3, 9] [2, 3, 9] true rfl _ HI9.out HI10.out (by simp)).mono ?_
  rintro r w10 ⟨rfl, hx10⟩
  have E10 : Hid (Ext (w2.alloc (.cells #[.int .i64 0, .int .i64 0, .int .i64 3, .int .i64 0, .int .i64 0, .int .i64 0, .int .i64 0, .int .i64 0, .int .i64 2, .int .i64 1] 24)) w10) := Lib.hid (E3.out.trans (E4.out.trans (E8.out.trans (hx9.trans (((Ext.refl w9).alloc _).trans hx10)))))
  clear hx9 hx10
  obtain ⟨⟨q0, q1, q2, q3, q4⟩, q5, q6, q7, q8, q9⟩ := cells10 (E10.out.blk HB12.out)
  go_wp2_with fail
  refine (rmay_eq 1 2 3 0 0 0 0 0 0 3 true Ri.F8 _).mono ?_
  rintro r w11 ⟨rfl, hx11⟩
  clear q0 q1 q2 q3 q4 q5 q6 q7 q8 q9
  go_wp2_with fail
  refine (rmay_eq 0 0 0 0 0 0 0 0 0 1 false Ri.F9 _).mono ?_
  rintro r w12 ⟨rfl, hx12⟩
  go_wp2
  go_ret
  exact ⟨rfl, HX2.out.trans (E10.out.trans (hx11.trans hx12))⟩

end Go.Proofs.Ytdpmogbibmgolaa
