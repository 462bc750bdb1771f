/-
  The contract of event.Decode, where a kind is right: what stands behind it.
-/
import Derived.Test.YtlbhpgieehallaaEg
set_option linter.unusedVariables false
set_option linter.unusedSimpArgs false
namespace Go.Proofs.Ytlbhpgieehallaa
open Go.RowKit

set_option maxRecDepth 100000 in
set_option maxHeartbeats 1000000 in
theorem decode_err (s : ByteArray) (a : Nat) (w : World) (hs : s.size ≤ maxLen) (h : a ≤ s.size) (c : UInt8) (T : List UInt8) (hc : s.data.toList.drop a = c :: T) (kn : Bool) (hk : Ki.known c.toNat = kn) (hx : kn = false → Ki.exp c.toNat = true)
    (q : Ev × Int × Int) (hq : Ev.rest (s.extract a s.size) c.toNat 1 = q) (he : ¬ q.2.2 = 0) :
    Calls Try.prog 30 #[.string s, .int .i64 a] w (DecPost (Ev.zero, 0, q.2.2) w) := by
  unfold maxLen at hs
  have hd0 : decide ((a : Int) < 0) = false := by simp
  have hd1 : decide (s.size < a) = false := by simpa using h
  have hzw := blk_new w ((.cells #[.int .i64 0, .int .i64 0, .slice none 0 0, .string ⟨#[]⟩] 41))
  have HZW := Lib.hid hzw
  clear hzw
  have HS : Hid ((s.extract a s.size).size ≤ maxLen) := Lib.hid (by simp [maxLen]; omega)
  obtain ⟨hb, hsz⟩ := Wi.byte_cons (s := s.extract a s.size) (c := c) (T := T) (by rw [extract_drop, hc])
  have HB := Lib.hid hb
  have HSZ := Lib.hid hsz
  have HK := Lib.hid hk
  have HX := Lib.hid hx
  clear hc hb hk hx hsz
  cases kn with
  | true =>
    go_enter Try.func30, Try.ntmps30
    go_wp2_with fail
    refine (new_any _ _).mono ?_
    rintro r w1 ⟨rfl, hr1, hx1⟩
    have hgz : w.heap.size + 1 ≤ (w.alloc ((.cells #[.int .i64 0, .int .i64 0, .slice none 0 0, .string ⟨#[]⟩] 41))).heap.size := by simp
    have HX1 : Hid (Ext w w1) := Lib.hid (((Ext.refl w).alloc _).trans hx1)
    have HZ1 := Lib.hid (hx1.blk HZW.out)
    clear hx1 HZW
    generalize s.extract a s.size = t at *
    generalize (w.alloc ((.cells #[.int .i64 0, .int .i64 0, .slice none 0 0, .string ⟨#[]⟩] 41))).heap.size = g at *
    have HR1 := Lib.hid hr1
    clear hr1
    go_wp2_with fail
    refine (byte_eq _ HR1.out HS.out (by omega) (by simp) HB.out).mono ?_
    rintro r w2 ⟨rfl, hr2, hu2⟩
    generalize (c.toNat : Int) = k at *
    have HU2 := Lib.hid hu2
    clear hu2
    go_wp2_with fail
    refine (err_ok _ _ _ _ hr2).mono ?_
    rintro r w3 ⟨rfl, rfl⟩
    go_wp2_with fail
    refine (known_eq k true HK.out _).mono ?_
    rintro r w3 ⟨rfl, rfl⟩
    go_wp2_with fail
    refine (rest_any g t k 1 _ hr2 HS.out).mono ?_
    rintro r w3 ⟨v, rfl, ⟨A, cc, rfl, hI, hB⟩, hr3, hu3⟩
    obtain ⟨⟨k', d', xs', t'⟩, a', e'⟩ := q
    try simp only at hq
    have HQ := Lib.hid hq
    rw [hq] at hI hr3 hB
    try simp only [hq] at *
    clear hq
    have HU3 := Lib.hid hu3
    have HI := Lib.hid hI
    have HBB := Lib.hid hB
    have HZ3 := Lib.hid (hu3.blk (HU2.out.blk HZ1.out (by omega)) (by omega))
    have HX3 : Hid (Ext w w3) := Lib.hid ((HX1.out.upd HU2.out (by omega)).upd hu3 (by omega))
    have hz3 := HX3.out.size
    have hz2 := Nat.lt_of_lt_of_le (blk_lt HZ1.out) HU2.out.size
    clear HU2 HU3
    have HR3 := Lib.hid (hr3.ext ((Ext.refl w3).alloc (.cells #[.int .i64 k', .int .i64 d', .slice A xs'.length cc, .string t'] 41)))
    clear hr2 hr3 hu3 hI hB
    have hb1 : (e' == 0) = false := by simpa using he
    have hb2 : (e' != 0) = true := by simpa using he
    have HE := Lib.hid he
    clear he
    go_wp2_with fail
    refine (err_ne HR3.out HE.out).mono ?_
    rintro r w4 ⟨rfl, hr4, hu4⟩
    have hzb := hu4.blk (blk_alloc HZ3.out _) (by omega)
    have HX4 : Hid (Ext w w4) := Lib.hid ((HX3.out.alloc _).upd hu4 (by omega))
    clear hr4 hu4 HR3 HZ3
    have z0 := blk_cell hzb 0 (.int .i64 0) rfl
    have z1 := blk_cell hzb 1 (.int .i64 0) rfl
    have z2 := blk_cell hzb 2 (.slice none 0 0) rfl
    have z3 := blk_cell hzb 3 (.string ⟨#[]⟩) rfl
    have y0 := frozen_of_row _ _ 0 _ _ hzb
    have y1 := frozen_of_row _ _ 1 _ _ hzb
    have y2 := frozen_of_row _ _ 2 _ _ hzb
    have y3 := frozen_of_row _ _ 3 _ _ hzb
    have HZB := Lib.hid hzb
    clear hzb
    go_wp2
    have hzz := zero4 HZB.out
    have t0 := blk_cell hzz 0 (.int .i64 0) rfl
    have t1 := blk_cell hzz 1 (.int .i64 0) rfl
    have t2 := blk_cell hzz 2 (.slice none 0 0) rfl
    have t3 := blk_cell hzz 3 (.string ⟨#[]⟩) rfl
    refine bodyPost_ret (v := .tuple #[(.agg #[.int .i64 0, .int .i64 0, .slice none 0 0, .string ⟨#[]⟩]), .int .i64 0, .int .i64 e']) (by simp [results, Try.results30, go_sem, t0, t1, t2, t3]) rfl ⟨_, rfl, evAt_zero _, ?_⟩
    exact HX4.out.set4 _ _ _ _
  | false =>
    have HX2 := Lib.hid (HX.out rfl)
    clear HX
    go_enter Try.func30, Try.ntmps30
    go_wp2_with fail
    refine (new_any _ _).mono ?_
    rintro r w1 ⟨rfl, hr1, hx1⟩
    have hgz : w.heap.size + 1 ≤ (w.alloc ((.cells #[.int .i64 0, .int .i64 0, .slice none 0 0, .string ⟨#[]⟩] 41))).heap.size := by simp
    have HX1 : Hid (Ext w w1) := Lib.hid (((Ext.refl w).alloc _).trans hx1)
    have HZ1 := Lib.hid (hx1.blk HZW.out)
    clear hx1 HZW
    generalize s.extract a s.size = t at *
    generalize (w.alloc ((.cells #[.int .i64 0, .int .i64 0, .slice none 0 0, .string ⟨#[]⟩] 41))).heap.size = g at *
    have HR1 := Lib.hid hr1
    clear hr1
    go_wp2_with fail
    refine (byte_eq _ HR1.out HS.out (by omega) (by simp) HB.out).mono ?_
    rintro r w2 ⟨rfl, hr2, hu2⟩
    generalize (c.toNat : Int) = k at *
    have HU2 := Lib.hid hu2
    clear hu2
    go_wp2_with fail
    refine (err_ok _ _ _ _ hr2).mono ?_
    rintro r w3 ⟨rfl, rfl⟩
    go_wp2_with fail
    refine (known_eq k false HK.out _).mono ?_
    rintro r w3 ⟨rfl, rfl⟩
    go_wp2_with fail
    refine (exp_eq k true HX2.out _).mono ?_
    rintro r w3 ⟨rfl, rfl⟩
    go_wp2_with fail
    refine (rest_any g t k 1 _ hr2 HS.out).mono ?_
    rintro r w3 ⟨v, rfl, ⟨A, cc, rfl, hI, hB⟩, hr3, hu3⟩
    obtain ⟨⟨k', d', xs', t'⟩, a', e'⟩ := q
    try simp only at hq
    have HQ := Lib.hid hq
    rw [hq] at hI hr3 hB
    try simp only [hq] at *
    clear hq
    have HU3 := Lib.hid hu3
    have HI := Lib.hid hI
    have HBB := Lib.hid hB
    have HZ3 := Lib.hid (hu3.blk (HU2.out.blk HZ1.out (by omega)) (by omega))
    have HX3 : Hid (Ext w w3) := Lib.hid ((HX1.out.upd HU2.out (by omega)).upd hu3 (by omega))
    have hz3 := HX3.out.size
    have hz2 := Nat.lt_of_lt_of_le (blk_lt HZ1.out) HU2.out.size
    clear HU2 HU3
    have HR3 := Lib.hid (hr3.ext ((Ext.refl w3).alloc (.cells #[.int .i64 k', .int .i64 d', .slice A xs'.length cc, .string t'] 41)))
    clear hr2 hr3 hu3 hI hB
    have hb1 : (e' == 0) = false := by simpa using he
    have hb2 : (e' != 0) = true := by simpa using he
    have HE := Lib.hid he
    clear he
    go_wp2_with fail
    refine (err_ne HR3.out HE.out).mono ?_
    rintro r w4 ⟨rfl, hr4, hu4⟩
    have hzb := hu4.blk (blk_alloc HZ3.out _) (by omega)
    have HX4 : Hid (Ext w w4) := Lib.hid ((HX3.out.alloc _).upd hu4 (by omega))
    clear hr4 hu4 HR3 HZ3
    have z0 := blk_cell hzb 0 (.int .i64 0) rfl
    have z1 := blk_cell hzb 1 (.int .i64 0) rfl
    have z2 := blk_cell hzb 2 (.slice none 0 0) rfl
    have z3 := blk_cell hzb 3 (.string ⟨#[]⟩) rfl
    have y0 := frozen_of_row _ _ 0 _ _ hzb
    have y1 := frozen_of_row _ _ 1 _ _ hzb
    have y2 := frozen_of_row _ _ 2 _ _ hzb
    have y3 := frozen_of_row _ _ 3 _ _ hzb
    have HZB := Lib.hid hzb
    clear hzb
    go_wp2
    have hzz := zero4 HZB.out
    have t0 := blk_cell hzz 0 (.int .i64 0) rfl
    have t1 := blk_cell hzz 1 (.int .i64 0) rfl
    have t2 := blk_cell hzz 2 (.slice none 0 0) rfl
    have t3 := blk_cell hzz 3 (.string ⟨#[]⟩) rfl
    refine bodyPost_ret (v := .tuple #[(.agg #[.int .i64 0, .int .i64 0, .slice none 0 0, .string ⟨#[]⟩]), .int .i64 0, .int .i64 e']) (by simp [results, Try.results30, go_sem, t0, t1, t2, t3]) rfl ⟨_, rfl, evAt_zero _, ?_⟩
    exact HX4.out.set4 _ _ _ _

end Go.Proofs.Ytlbhpgieehallaa
