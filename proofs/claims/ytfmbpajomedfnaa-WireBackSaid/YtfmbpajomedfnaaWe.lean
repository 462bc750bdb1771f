/-
  The walks of the statements WireStuck and WireTakes: for every input they return true, and leave what was there as it was.
-/
import Derived.Test.YtfmbpajomedfnaaWd
namespace Go.Proofs.Ytfmbpajomedfnaa
open Go.RowKit

set_option maxRecDepth 100000 in
set_option maxHeartbeats 1000000 in
theorem wstuck_out (s : ByteArray) (hs : s.size ≤ maxLen) (w : World) (h : 1000 < s.size) :
    Calls Try.prog 7 #[.string s] w fun e w' => e = .returned (.bool true) ∧ Ext w w' := by
  unfold maxLen at hs
  go_enter Try.func7, Try.ntmps7
  go_wp2_with (go_at_call 9; refine (wfixed_yes _).mono ?_; rintro e w1 ⟨rfl, hb1⟩)
  all_goals (go_ret; exact ⟨rfl, (by repeat (first | exact Ext.refl _ | assumption | refine Ext.trans (by assumption) ?_))⟩)

theorem Wi.take_over (s : ByteArray) (n : Int) (h : (s.size : Int) < n) : Wi.take s 0 0 n = (⟨#[]⟩, 0, 10) := by
  unfold Wi.take Wi.piece
  rw [if_pos rfl, if_neg (by omega), if_pos (by omega)]
theorem Wi.take_err (s : ByteArray) (a e n : Int) (h : ¬ e = 0) : Wi.take s a e n = (⟨#[]⟩, a, e) := by unfold Wi.take; rw [if_neg h]
theorem Wi.num_err (s : ByteArray) (a e : Int) (h : ¬ e = 0) : Wi.num s a e = (0, a, e) := by unfold Wi.num; rw [if_neg h]
theorem Wi.text_err (s : ByteArray) (a e : Int) (h : ¬ e = 0) : Wi.text s a e = (⟨#[]⟩, a, e) := by unfold Wi.text; rw [if_neg h]
theorem Wi.byte_err (s : ByteArray) (a e : Int) (h : ¬ e = 0) : Wi.byte s a e = (0, a, e) := by unfold Wi.byte; rw [Wi.take_err _ _ _ _ h]; rfl
theorem Wi.take_in (s : ByteArray) (a n : Int) (h0 : 0 ≤ n) (h1 : n ≤ s.size - a) : Wi.take s a 0 n = (s.extract a.toNat (a + n).toNat, a + n, 0) := by
  unfold Wi.take Wi.piece
  rw [if_pos rfl, if_neg (by omega), if_neg (by omega)]

set_option maxRecDepth 100000 in
set_option maxHeartbeats 1000000 in
theorem wstuck_in (s : ByteArray) (w : World) (h : s.size ≤ 1000) :
    Calls Try.prog 7 #[.string s] w fun e w' => e = .returned (.bool true) ∧ Ext w w' := by
  have HS : Hid (s.size ≤ maxLen) := Lib.hid (by unfold maxLen; omega)
  go_enter Try.func7, Try.ntmps7
  go_wp2_with fail
  refine (wfixed_yes _).mono ?_
  rintro e w1 ⟨rfl, hx1⟩
  go_wp2_with fail
  refine (new_any s _).mono ?_
  rintro e w3 ⟨rfl, hr3, hx3⟩
  have hg : w.heap.size ≤ w1.heap.size := hx1.size
  have HX : Hid (Ext w w3) := Lib.hid (hx1.trans hx3)
  clear hx1 hx3
  generalize w1.heap.size = g at *
  go_wp2_with fail
  refine (rtake_eq _ _ hr3 HS.out (by omega) (by omega) (by omega) (Wi.take_over s _ (by omega))).mono ?_
  rintro e w4 ⟨rfl, hr4, hu4⟩
  go_wp2_with fail
  refine (err_ne hr4 (by omega)).mono ?_
  rintro e w5 ⟨rfl, hr5, hu5⟩
  go_wp2_with fail
  refine (num_eq _ hr5 HS.out (Wi.num_err s _ _ (by omega))).mono ?_
  rintro e w6 ⟨rfl, hr6, hu6⟩
  go_wp2_with fail
  refine (byte_eq _ hr6 HS.out (by omega) (by omega) (Wi.byte_err s _ _ (by omega))).mono ?_
  rintro e w7 ⟨rfl, hr7, hu7⟩
  go_wp2_with fail
  refine (text_eq _ hr7 HS.out (Wi.text_err s _ _ (by omega))).mono ?_
  rintro e w8 ⟨rfl, hr8, hu8⟩
  go_wp2_with fail
  refine (rtake_eq _ _ hr8 HS.out (by omega) (by omega) (by omega) (Wi.take_err s _ _ _ (by omega))).mono ?_
  rintro e w9 ⟨rfl, hr9, hu9⟩
  go_wp2_with fail
  refine (err_ne hr9 (by omega)).mono ?_
  rintro e wa ⟨rfl, hra, hua⟩
  go_wp2_with fail
  refine (done_ne hra (by omega)).mono ?_
  rintro e wb ⟨rfl, hrb, hub⟩
  go_wp2_with fail
  go_ret
  have hu : Upd g w3 wb := ((((((hu4.trans hu5).trans hu6).trans hu7).trans hu8).trans hu9).trans hua).trans hub
  exact ⟨rfl, HX.out.upd hu hg⟩

theorem walk_WireStuck (s : ByteArray) (hs : s.size ≤ maxLen) (w : World) :
    Calls Try.prog 7 #[.string s] w fun e w' => e = .returned (.bool true) ∧ Ext w w' := by
  by_cases h : 1000 < s.size
  · exact wstuck_out s hs w h
  · exact wstuck_in s w (by omega)

set_option maxRecDepth 100000 in
set_option maxHeartbeats 1000000 in
theorem wtakes_out (s : ByteArray) (n : Int) (hs : s.size ≤ maxLen) (w : World) (h : 1000 < s.size ∨ n < 0 ∨ 2000 < n) :
    Calls Try.prog 6 #[.string s, .int .i64 n] w fun e w' => e = .returned (.bool true) ∧ Ext w w' := by
  unfold maxLen at hs
  rcases h with h | h | h
  all_goals
    go_enter Try.func6, Try.ntmps6
    go_wp2_with (go_at_call 9; refine (wfixed_yes _).mono ?_; rintro e w1 ⟨rfl, hb1⟩)
    all_goals (go_ret; exact ⟨rfl, (by repeat (first | exact Ext.refl _ | assumption | refine Ext.trans (by assumption) ?_))⟩)

set_option maxRecDepth 100000 in
set_option maxHeartbeats 1000000 in
theorem wtakes_over (s : ByteArray) (n : Int) (w : World) (h : s.size ≤ 1000) (hn : n ≤ 2000) (hl : (s.size : Int) < n) :
    Calls Try.prog 6 #[.string s, .int .i64 n] w fun e w' => e = .returned (.bool true) ∧ Ext w w' := by
  have HS : Hid (s.size ≤ maxLen) := Lib.hid (by unfold maxLen; omega)
  go_enter Try.func6, Try.ntmps6
  go_wp2_with fail
  refine (wfixed_yes _).mono ?_
  rintro e w1 ⟨rfl, hx1⟩
  go_wp2_with fail
  refine (new_any s _).mono ?_
  rintro e w3 ⟨rfl, hr3, hx3⟩
  have hg : w.heap.size ≤ w1.heap.size := hx1.size
  have HX : Hid (Ext w w3) := Lib.hid (hx1.trans hx3)
  clear hx1 hx3
  generalize w1.heap.size = g at *
  go_wp2_with fail
  refine (rtake_eq _ _ hr3 HS.out (by omega) (by omega) (by omega) (Wi.take_over s _ (by omega))).mono ?_
  rintro e w4 ⟨rfl, hr4, hu4⟩
  go_wp2_with fail
  refine (err_ne hr4 (by omega)).mono ?_
  rintro e w5 ⟨rfl, hr5, hu5⟩
  go_wp2_with fail
  refine (at_any _ _ _ _ _ hr5).mono ?_
  rintro e wb ⟨rfl, rfl⟩
  go_wp2_with fail
  go_ret
  exact ⟨rfl, HX.out.upd (hu4.trans hu5) hg⟩

set_option maxRecDepth 100000 in
set_option maxHeartbeats 1000000 in
theorem wtakes_in (s : ByteArray) (n : Int) (w : World) (h : s.size ≤ 1000) (hn : 0 ≤ n) (hl : n ≤ (s.size : Int)) :
    Calls Try.prog 6 #[.string s, .int .i64 n] w fun e w' => e = .returned (.bool true) ∧ Ext w w' := by
  have HS : Hid (s.size ≤ maxLen) := Lib.hid (by unfold maxLen; omega)
  have hz : (s.extract 0 n.toNat).size ≤ 1000 := by simp; omega
  have hz2 : (s.extract n.toNat s.size).size ≤ 1000 := by simp; omega
  have hq1 : ((s.extract 0 n.toNat).size : Int) = n := by simp; omega
  have hq : (((s.extract 0 n.toNat).size : Int) == n) = true := by simpa using hq1
  have hcat : ((s.extract 0 n.toNat ++ s.extract n.toNat s.size).toList == s.toList) = true := by
    rw [ByteArray.toList_eq, ByteArray.toList_eq, ByteArray.data_append, Array.toList_append, Lib.extract_data, Lib.extract_data, Nat.sub_zero, List.drop_zero]
    rw [show s.size - n.toNat = (s.data.toList.drop n.toNat).length by simp, List.take_length, List.take_append_drop]
    exact beq_self_eq_true _
  clear hq1
  have HT1 : Hid (Wi.take s 0 0 n = (s.extract 0 n.toNat, n, 0)) := Lib.hid (by rw [Wi.take_in _ _ _ hn (by omega)]; simp)
  have HT2 : Hid (Wi.take s n 0 ((s.size : Int) - n) = (s.extract n.toNat s.size, (s.size : Int), 0)) := Lib.hid (by
    rw [Wi.take_in _ _ _ (by omega) (by omega), show n + ((s.size : Int) - n) = (s.size : Int) by omega, Int.toNat_natCast])
  go_enter Try.func6, Try.ntmps6
  go_wp2_with fail
  refine (wfixed_yes _).mono ?_
  rintro e w1 ⟨rfl, hx1⟩
  go_wp2_with fail
  refine (new_any s _).mono ?_
  rintro e w3 ⟨rfl, hr3, hx3⟩
  have hg : w.heap.size ≤ w1.heap.size := hx1.size
  have HX : Hid (Ext w w3) := Lib.hid (hx1.trans hx3)
  clear hx1 hx3
  generalize w1.heap.size = g at *
  go_wp2_with fail
  refine (rtake_eq _ _ hr3 HS.out (by omega) (by omega) (by omega) HT1.out).mono ?_
  rintro e w4 ⟨rfl, hr4, hu4⟩
  go_wp2_with fail
  refine (rtake_eq _ _ hr4 HS.out (by omega) (by omega) (by omega) HT2.out).mono ?_
  rintro e w5 ⟨rfl, hr5, hu5⟩
  go_wp2_with fail
  refine (done_eq true hr5 (beq_self_eq_true _)).mono ?_
  rintro e w6 ⟨rfl, hr6, hu6⟩
  go_wp2_with fail
  go_ret
  exact ⟨rfl, HX.out.upd ((hu4.trans hu5).trans hu6) hg⟩

theorem walk_WireTakes (s : ByteArray) (n : Int) (hs : s.size ≤ maxLen) (_ : (Lit.int .i64 n).wf = true) (w : World) :
    Calls Try.prog 6 #[.string s, .int .i64 n] w fun e w' => e = .returned (.bool true) ∧ Ext w w' := by
  by_cases h : 1000 < s.size ∨ n < 0 ∨ 2000 < n
  · exact wtakes_out s n hs w h
  · by_cases hl : (s.size : Int) < n
    · exact wtakes_over s n w (by omega) (by omega) hl
    · exact wtakes_in s n w (by omega) (by omega) (by omega)

end Go.Proofs.Ytfmbpajomedfnaa
