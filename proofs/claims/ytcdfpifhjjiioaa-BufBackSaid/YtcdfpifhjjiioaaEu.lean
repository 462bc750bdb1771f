/-
  The contract of the document's Decode, of events: behind the kind.
-/
import Derived.Test.YtcdfpifhjjiioaaEt
set_option linter.unusedVariables false
set_option linter.unusedSimpArgs false
namespace Go.Proofs.Ytcdfpifhjjiioaa
open Go.RowKit
set_option maxRecDepth 100000 in
set_option maxHeartbeats 1000000 in
theorem rdec_dt (s : ByteArray) (a c : Nat) (w : World) (hs : s.size ≤ maxLen) (h : a < s.size) (kn : Bool) (hk : Ki.known (s[a].toNat : Int) = kn) (hx : kn = false → Ki.exp (s[a].toNat : Int) = true) (hT : Va.take (s.data.toList.drop (a + 1)) = (0, 0, c)) (hc : c ≠ 0) :
    Calls Try.prog 25 #[.string s, .int .i64 a] w (DecPost (Ev.zero, 0, (c : Int)) w) := by
  have HK := Lib.hid hk
  have HX := Lib.hid hx
  have HT := Lib.hid hT
  have HC := Lib.hid hc
  have HS := Lib.hid hs
  have hc1 : ((c : Int) == 0) = false := by simp; omega
  have hc2 : ((c : Int) != 0) = true := by simp; omega
  clear hk hx hT hc
  unfold maxLen at hs
  have hd0 : decide ((a : Int) < 0) = false := by simp
  have hd2 : ((a : Int) == (s.size : Int)) = false := by simp; omega
  have hb : (s[a].toNat : Int) ≤ 255 := by have := s[a].toNat_lt; omega
  have HT0 := Lib.hid ((two_new w).ext ((Ext.refl _).alloc (.cells #[.int .i64 (s[a].toNat : Int), .int .i64 0, .slice none 0 0, .string ⟨#[]⟩] 28)))
  have HB0 : Hid ((((w.alloc ((.cells #[.int .i64 0, .int .i64 0, .slice none 0 0, .string ⟨#[]⟩] 28))).alloc ((.cells #[.int .i64 0, .int .i64 0, .slice none 0 0, .string ⟨#[]⟩] 28))).alloc (.cells #[.int .i64 (s[a].toNat : Int), .int .i64 0, .slice none 0 0, .string ⟨#[]⟩] 28)).heap[w.heap.size + 1 + 1]? = some (.cells #[.int .i64 (s[a].toNat : Int), .int .i64 0, .slice none 0 0, .string ⟨#[]⟩] 28 (0, 0))) := Lib.hid (by have := blk_new ((w.alloc ((.cells #[.int .i64 0, .int .i64 0, .slice none 0 0, .string ⟨#[]⟩] 28))).alloc ((.cells #[.int .i64 0, .int .i64 0, .slice none 0 0, .string ⟨#[]⟩] 28))) (.cells #[.int .i64 (s[a].toNat : Int), .int .i64 0, .slice none 0 0, .string ⟨#[]⟩] 28); rwa [World.size_alloc, World.size_alloc] at this)
  cases kn with
  | true =>
    go_enter Try.func25, Try.ntmps25
    go_wp2_with fail
    refine (rknown_eq _ true HK.out _).mono ?_
    rintro r w1 ⟨rfl, rfl⟩
    generalize (s[a].toNat : Int) = k at *
    go_wp2_with fail
    refine (rtake_err s _ (a + 1) c _ (by omega) (by omega) HS.out HT.out HC.out).mono ?_
    rintro r w1 ⟨rfl, hx1⟩
    have HTW := Lib.hid (HT0.out.ext hx1)
    clear hx1
    have z0 := blk_cell HTW.out.1 0 (.int .i64 0) rfl
    have z1 := blk_cell HTW.out.1 1 (.int .i64 0) rfl
    have z2 := blk_cell HTW.out.1 2 (.slice none 0 0) rfl
    have z3 := blk_cell HTW.out.1 3 (.string ⟨#[]⟩) rfl
    have y0 := frozen_of_row _ _ 0 _ _ HTW.out.1
    have y1 := frozen_of_row _ _ 1 _ _ HTW.out.1
    have y2 := frozen_of_row _ _ 2 _ _ HTW.out.1
    have y3 := frozen_of_row _ _ 3 _ _ HTW.out.1
    have x0 := blk_cell HTW.out.2.1 0 (.int .i64 0) rfl
    have x1 := blk_cell HTW.out.2.1 1 (.int .i64 0) rfl
    have x2 := blk_cell HTW.out.2.1 2 (.slice none 0 0) rfl
    have x3 := blk_cell HTW.out.2.1 3 (.string ⟨#[]⟩) rfl
    go_wp2
    clear z0 z1 z2 z3 y0 y1 y2 y3 x0 x1 x2 x3
    have hzz := zero4 HTW.out.1
    have t0 := blk_cell hzz 0 (.int .i64 0) rfl
    have t1 := blk_cell hzz 1 (.int .i64 0) rfl
    have t2 := blk_cell hzz 2 (.slice none 0 0) rfl
    have t3 := blk_cell hzz 3 (.string ⟨#[]⟩) rfl
    refine bodyPost_ret (v := .tuple #[(.agg #[.int .i64 0, .int .i64 0, .slice none 0 0, .string ⟨#[]⟩]), .int .i64 0, .int .i64 c]) (by simp [results, Try.results25, go_sem, t0, t1, t2, t3]) rfl ⟨_, rfl, evAt_zero _, ?_⟩
    exact Ext.set4 HTW.out.2.2 _ _ _ _
  | false =>
    have HX2 := Lib.hid (HX.out rfl)
    clear HX
    go_enter Try.func25, Try.ntmps25
    go_wp2_with fail
    refine (rknown_eq _ false HK.out _).mono ?_
    rintro r w1 ⟨rfl, rfl⟩
    generalize (s[a].toNat : Int) = k at *
    go_wp2_with fail
    refine (rexp_eq _ true HX2.out _).mono ?_
    rintro r w1 ⟨rfl, rfl⟩
    go_wp2_with fail
    refine (rtake_err s _ (a + 1) c _ (by omega) (by omega) HS.out HT.out HC.out).mono ?_
    rintro r w1 ⟨rfl, hx1⟩
    have HTW := Lib.hid (HT0.out.ext hx1)
    clear hx1
    have z0 := blk_cell HTW.out.1 0 (.int .i64 0) rfl
    have z1 := blk_cell HTW.out.1 1 (.int .i64 0) rfl
    have z2 := blk_cell HTW.out.1 2 (.slice none 0 0) rfl
    have z3 := blk_cell HTW.out.1 3 (.string ⟨#[]⟩) rfl
    have y0 := frozen_of_row _ _ 0 _ _ HTW.out.1
    have y1 := frozen_of_row _ _ 1 _ _ HTW.out.1
    have y2 := frozen_of_row _ _ 2 _ _ HTW.out.1
    have y3 := frozen_of_row _ _ 3 _ _ HTW.out.1
    have x0 := blk_cell HTW.out.2.1 0 (.int .i64 0) rfl
    have x1 := blk_cell HTW.out.2.1 1 (.int .i64 0) rfl
    have x2 := blk_cell HTW.out.2.1 2 (.slice none 0 0) rfl
    have x3 := blk_cell HTW.out.2.1 3 (.string ⟨#[]⟩) rfl
    go_wp2
    clear z0 z1 z2 z3 y0 y1 y2 y3 x0 x1 x2 x3
    have hzz := zero4 HTW.out.1
    have t0 := blk_cell hzz 0 (.int .i64 0) rfl
    have t1 := blk_cell hzz 1 (.int .i64 0) rfl
    have t2 := blk_cell hzz 2 (.slice none 0 0) rfl
    have t3 := blk_cell hzz 3 (.string ⟨#[]⟩) rfl
    refine bodyPost_ret (v := .tuple #[(.agg #[.int .i64 0, .int .i64 0, .slice none 0 0, .string ⟨#[]⟩]), .int .i64 0, .int .i64 c]) (by simp [results, Try.results25, go_sem, t0, t1, t2, t3]) rfl ⟨_, rfl, evAt_zero _, ?_⟩
    exact Ext.set4 HTW.out.2.2 _ _ _ _
set_option maxRecDepth 100000 in
set_option maxHeartbeats 1000000 in
theorem rdec_xerr (s : ByteArray) (a n k1 q c : Nat) (w : World) (hs : s.size ≤ maxLen) (h : a < s.size) (hk : Ki.known (s[a].toNat : Int) = false) (hx : Ki.exp (s[a].toNat : Int) = true) (hT : Va.take (s.data.toList.drop (a + 1)) = (n, k1, 0)) (hq : a + 1 + k1 = q) (hqs : q ≤ s.size) (hM : Va.take (s.data.toList.drop q) = (0, 0, c)) (hc : c ≠ 0) :
    Calls Try.prog 25 #[.string s, .int .i64 a] w (DecPost (Ev.zero, 0, (c : Int)) w) := by
  have HC := Lib.hid hc
  have hc1 : ((c : Int) == 0) = false := by simp; omega
  have hc2 : ((c : Int) != 0) = true := by simp; omega
  clear hc
  have HK := Lib.hid hk
  have HX := Lib.hid hx
  have HT := Lib.hid hT
  have HS := Lib.hid hs
  have HQ := Lib.hid hq
  have HM := Lib.hid hM
  clear hk hx hT hq hM
  unfold maxLen at hs
  have hd0 : decide ((a : Int) < 0) = false := by simp
  have hd2 : ((a : Int) == (s.size : Int)) = false := by simp; omega
  have hb : (s[a].toNat : Int) ≤ 255 := by have := s[a].toNat_lt; omega
  have HT0 := Lib.hid ((two_new w).ext ((Ext.refl _).alloc (.cells #[.int .i64 (s[a].toNat : Int), .int .i64 0, .slice none 0 0, .string ⟨#[]⟩] 28)))
  have HB0 : Hid ((((w.alloc ((.cells #[.int .i64 0, .int .i64 0, .slice none 0 0, .string ⟨#[]⟩] 28))).alloc ((.cells #[.int .i64 0, .int .i64 0, .slice none 0 0, .string ⟨#[]⟩] 28))).alloc (.cells #[.int .i64 (s[a].toNat : Int), .int .i64 0, .slice none 0 0, .string ⟨#[]⟩] 28)).heap[w.heap.size + 1 + 1]? = some (.cells #[.int .i64 (s[a].toNat : Int), .int .i64 0, .slice none 0 0, .string ⟨#[]⟩] 28 (0, 0))) := Lib.hid (by have := blk_new ((w.alloc ((.cells #[.int .i64 0, .int .i64 0, .slice none 0 0, .string ⟨#[]⟩] 28))).alloc ((.cells #[.int .i64 0, .int .i64 0, .slice none 0 0, .string ⟨#[]⟩] 28))) (.cells #[.int .i64 (s[a].toNat : Int), .int .i64 0, .slice none 0 0, .string ⟨#[]⟩] 28); rwa [World.size_alloc, World.size_alloc] at this)
  go_enter Try.func25, Try.ntmps25
  go_wp2_with fail
  refine (rknown_eq _ false HK.out _).mono ?_
  rintro r w1 ⟨rfl, rfl⟩
  generalize (s[a].toNat : Int) = k at *
  go_wp2_with fail
  refine (rexp_eq _ true HX.out _).mono ?_
  rintro r w1 ⟨rfl, rfl⟩
  go_wp2_with fail
  refine (rtake_ok s _ (a + 1) n k1 q _ (by omega) (by omega) HS.out HT.out HQ.out).mono ?_
  rintro r w1 ⟨rfl, hx1⟩
  have HT1 := Lib.hid (HT0.out.ext hx1)
  have HB1 := Lib.hid (hx1.blk HB0.out)
  clear hx1
  have b1 := blk_cell HB1.out 1 (.int .i64 0) rfl
  have f1 := frozen_of_row _ _ 1 _ _ HB1.out
  have HB2 : Hid ((w1.setCell ⟨w.heap.size + 1 + 1, 1, none⟩ (.int .i64 n)).heap[w.heap.size + 1 + 1]? = some (.cells #[.int .i64 k, .int .i64 n, .slice none 0 0, .string ⟨#[]⟩] 28 (0, 0))) := Lib.hid (blk_set HB1.out 1 _)
  have HT2 : Hid (Two w (w1.setCell ⟨w.heap.size + 1 + 1, 1, none⟩ (.int .i64 n))) := Lib.hid (HT1.out.set (by simp) _)
  have d0 := blk_cell HB2.out 0 (.int .i64 k) rfl
  go_wp2_with fail
  refine (rexp_eq _ true HX.out _).mono ?_
  rintro r w2 ⟨rfl, rfl⟩
  clear d0 b1 f1
  go_wp2_with fail
  refine (rtake_err s _ q c _ rfl hqs HS.out HM.out HC.out).mono ?_
  rintro r w3 ⟨rfl, hx3⟩
  have HTW := Lib.hid (HT2.out.ext hx3)
  clear hx3
  have z0 := blk_cell HTW.out.1 0 (.int .i64 0) rfl
  have z1 := blk_cell HTW.out.1 1 (.int .i64 0) rfl
  have z2 := blk_cell HTW.out.1 2 (.slice none 0 0) rfl
  have z3 := blk_cell HTW.out.1 3 (.string ⟨#[]⟩) rfl
  have y0 := frozen_of_row _ _ 0 _ _ HTW.out.1
  have y1 := frozen_of_row _ _ 1 _ _ HTW.out.1
  have y2 := frozen_of_row _ _ 2 _ _ HTW.out.1
  have y3 := frozen_of_row _ _ 3 _ _ HTW.out.1
  have x0 := blk_cell HTW.out.2.1 0 (.int .i64 0) rfl
  have x1 := blk_cell HTW.out.2.1 1 (.int .i64 0) rfl
  have x2 := blk_cell HTW.out.2.1 2 (.slice none 0 0) rfl
  have x3 := blk_cell HTW.out.2.1 3 (.string ⟨#[]⟩) rfl
  go_wp2
  clear z0 z1 z2 z3 y0 y1 y2 y3 x0 x1 x2 x3
  have hzz := zero4 HTW.out.1
  have t0 := blk_cell hzz 0 (.int .i64 0) rfl
  have t1 := blk_cell hzz 1 (.int .i64 0) rfl
  have t2 := blk_cell hzz 2 (.slice none 0 0) rfl
  have t3 := blk_cell hzz 3 (.string ⟨#[]⟩) rfl
  refine bodyPost_ret (v := .tuple #[(.agg #[.int .i64 0, .int .i64 0, .slice none 0 0, .string ⟨#[]⟩]), .int .i64 0, .int .i64 c]) (by simp [results, Try.results25, go_sem, t0, t1, t2, t3]) rfl ⟨_, rfl, evAt_zero _, ?_⟩
  exact Ext.set4 HTW.out.2.2 _ _ _ _
set_option maxRecDepth 100000 in
set_option maxHeartbeats 1000000 in
theorem rdec_xshort (s : ByteArray) (a n k1 q m k2 q2 : Nat) (w : World) (hs : s.size ≤ maxLen) (h : a < s.size) (hk : Ki.known (s[a].toNat : Int) = false) (hx : Ki.exp (s[a].toNat : Int) = true) (hT : Va.take (s.data.toList.drop (a + 1)) = (n, k1, 0)) (hq : a + 1 + k1 = q) (hqs : q ≤ s.size) (hM : Va.take (s.data.toList.drop q) = (m, k2, 0)) (hq2 : q + k2 = q2) (hqs2 : q2 ≤ s.size) (hm : m < 4611686018427387904) (hl : s.size - q2 < m) :
    Calls Try.prog 25 #[.string s, .int .i64 a] w (DecPost (Ev.zero, 0, 10) w) := by
  have HQ2 := Lib.hid hq2
  clear hq2
  have HK := Lib.hid hk
  have HX := Lib.hid hx
  have HT := Lib.hid hT
  have HS := Lib.hid hs
  have HQ := Lib.hid hq
  have HM := Lib.hid hM
  clear hk hx hT hq hM
  unfold maxLen at hs
  have hd0 : decide ((a : Int) < 0) = false := by simp
  have hd2 : ((a : Int) == (s.size : Int)) = false := by simp; omega
  have hb : (s[a].toNat : Int) ≤ 255 := by have := s[a].toNat_lt; omega
  have HT0 := Lib.hid ((two_new w).ext ((Ext.refl _).alloc (.cells #[.int .i64 (s[a].toNat : Int), .int .i64 0, .slice none 0 0, .string ⟨#[]⟩] 28)))
  have HB0 : Hid ((((w.alloc ((.cells #[.int .i64 0, .int .i64 0, .slice none 0 0, .string ⟨#[]⟩] 28))).alloc ((.cells #[.int .i64 0, .int .i64 0, .slice none 0 0, .string ⟨#[]⟩] 28))).alloc (.cells #[.int .i64 (s[a].toNat : Int), .int .i64 0, .slice none 0 0, .string ⟨#[]⟩] 28)).heap[w.heap.size + 1 + 1]? = some (.cells #[.int .i64 (s[a].toNat : Int), .int .i64 0, .slice none 0 0, .string ⟨#[]⟩] 28 (0, 0))) := Lib.hid (by have := blk_new ((w.alloc ((.cells #[.int .i64 0, .int .i64 0, .slice none 0 0, .string ⟨#[]⟩] 28))).alloc ((.cells #[.int .i64 0, .int .i64 0, .slice none 0 0, .string ⟨#[]⟩] 28))) (.cells #[.int .i64 (s[a].toNat : Int), .int .i64 0, .slice none 0 0, .string ⟨#[]⟩] 28); rwa [World.size_alloc, World.size_alloc] at this)
  go_enter Try.func25, Try.ntmps25
  go_wp2_with fail
  refine (rknown_eq _ false HK.out _).mono ?_
  rintro r w1 ⟨rfl, rfl⟩
  generalize (s[a].toNat : Int) = k at *
  go_wp2_with fail
  refine (rexp_eq _ true HX.out _).mono ?_
  rintro r w1 ⟨rfl, rfl⟩
  go_wp2_with fail
  refine (rtake_ok s _ (a + 1) n k1 q _ (by omega) (by omega) HS.out HT.out HQ.out).mono ?_
  rintro r w1 ⟨rfl, hx1⟩
  have HT1 := Lib.hid (HT0.out.ext hx1)
  have HB1 := Lib.hid (hx1.blk HB0.out)
  clear hx1
  have b1 := blk_cell HB1.out 1 (.int .i64 0) rfl
  have f1 := frozen_of_row _ _ 1 _ _ HB1.out
  have HB2 : Hid ((w1.setCell ⟨w.heap.size + 1 + 1, 1, none⟩ (.int .i64 n)).heap[w.heap.size + 1 + 1]? = some (.cells #[.int .i64 k, .int .i64 n, .slice none 0 0, .string ⟨#[]⟩] 28 (0, 0))) := Lib.hid (blk_set HB1.out 1 _)
  have HT2 : Hid (Two w (w1.setCell ⟨w.heap.size + 1 + 1, 1, none⟩ (.int .i64 n))) := Lib.hid (HT1.out.set (by simp) _)
  have d0 := blk_cell HB2.out 0 (.int .i64 k) rfl
  go_wp2_with fail
  refine (rexp_eq _ true HX.out _).mono ?_
  rintro r w2 ⟨rfl, rfl⟩
  clear d0 b1 f1
  go_wp2_with fail
  refine (rtake_ok s _ q m k2 q2 _ rfl hqs HS.out HM.out HQ2.out).mono ?_
  rintro r w3 ⟨rfl, hx3⟩
  have HTW := Lib.hid (HT2.out.ext hx3)
  clear hx3
  have z0 := blk_cell HTW.out.1 0 (.int .i64 0) rfl
  have z1 := blk_cell HTW.out.1 1 (.int .i64 0) rfl
  have z2 := blk_cell HTW.out.1 2 (.slice none 0 0) rfl
  have z3 := blk_cell HTW.out.1 3 (.string ⟨#[]⟩) rfl
  have y0 := frozen_of_row _ _ 0 _ _ HTW.out.1
  have y1 := frozen_of_row _ _ 1 _ _ HTW.out.1
  have y2 := frozen_of_row _ _ 2 _ _ HTW.out.1
  have y3 := frozen_of_row _ _ 3 _ _ HTW.out.1
  have x0 := blk_cell HTW.out.2.1 0 (.int .i64 0) rfl
  have x1 := blk_cell HTW.out.2.1 1 (.int .i64 0) rfl
  have x2 := blk_cell HTW.out.2.1 2 (.slice none 0 0) rfl
  have x3 := blk_cell HTW.out.2.1 3 (.string ⟨#[]⟩) rfl
  have hlt : (s.size : Int) - (q2 : Int) < (m : Int) := by omega
  go_wp2
  clear z0 z1 z2 z3 y0 y1 y2 y3 x0 x1 x2 x3
  have hzz := zero4 HTW.out.1
  have t0 := blk_cell hzz 0 (.int .i64 0) rfl
  have t1 := blk_cell hzz 1 (.int .i64 0) rfl
  have t2 := blk_cell hzz 2 (.slice none 0 0) rfl
  have t3 := blk_cell hzz 3 (.string ⟨#[]⟩) rfl
  refine bodyPost_ret (v := .tuple #[(.agg #[.int .i64 0, .int .i64 0, .slice none 0 0, .string ⟨#[]⟩]), .int .i64 0, .int .i64 10]) (by simp [results, Try.results25, go_sem, t0, t1, t2, t3]) rfl ⟨_, rfl, evAt_zero _, ?_⟩
  exact Ext.set4 HTW.out.2.2 _ _ _ _
end Go.Proofs.Ytcdfpifhjjiioaa
