/-
  The contract of batch.Decode.
-/
import Derived.Test.YtlbhpgieehallaaBb
import Derived.Test.YtlbhpgieehallaaEi
set_option linter.unusedVariables false
set_option linter.unusedSimpArgs false
namespace Go.Proofs.Ytlbhpgieehallaa
open Go.RowKit

/-- What a call of Decode answers, of batches. -/
def BDec (p : Bt × Int × Int) (w : World) (r : Ending) (w' : World) : Prop :=
  r = .returned (.tuple #[.agg #[.int .i64 p.1.gen, .int .i64 p.1.stream, .int .i64 p.1.base, .string p.1.body], .int .i64 p.2.1, .int .i64 p.2.2]) ∧ Ext w w'
theorem bzero4 {w : World} {g : Nat} (h : w.heap[g]? = some ((.cells #[.int .i64 0, .int .i64 0, .int .i64 0, .string ⟨#[]⟩] 23))) : ((((w.setCell ⟨g, 0, none⟩ (.int .i64 0)).setCell ⟨g, 1, none⟩ (.int .i64 0)).setCell ⟨g, 2, none⟩ (.int .i64 0)).setCell ⟨g, 3, none⟩ (.string ⟨#[]⟩)).heap[g]? = some ((.cells #[.int .i64 0, .int .i64 0, .int .i64 0, .string ⟨#[]⟩] 23)) :=
  blk_set (blk_set (blk_set (blk_set h 0 (.int .i64 0)) 1 (.int .i64 0)) 2 (.int .i64 0)) 3 (.string ⟨#[]⟩)
set_option maxRecDepth 100000 in
set_option maxHeartbeats 1000000 in
theorem bdec_out (s : ByteArray) (a : Int) (w : World) (h : a < 0 ∨ (s.size : Int) < a) :
    Calls Try.prog 9 #[.string s, .int .i64 a] w (BDec (Bt.zero, 0, 1) w) := by
  have hzb := blk_new w ((.cells #[.int .i64 0, .int .i64 0, .int .i64 0, .string ⟨#[]⟩] 23))
  have z0 := blk_cell hzb 0 (.int .i64 0) rfl
  have z1 := blk_cell hzb 1 (.int .i64 0) rfl
  have z2 := blk_cell hzb 2 (.int .i64 0) rfl
  have z3 := blk_cell hzb 3 (.string ⟨#[]⟩) rfl
  have y0 := frozen_of_row _ _ 0 _ _ hzb
  have y1 := frozen_of_row _ _ 1 _ _ hzb
  have y2 := frozen_of_row _ _ 2 _ _ hzb
  have y3 := frozen_of_row _ _ 3 _ _ hzb
  have HZB := Lib.hid hzb
  clear hzb
  by_cases h0 : a < 0
  · clear h
    go_enter Try.func9, Try.ntmps9
    go_wp2
    have hzz := bzero4 HZB.out
    have t0 := blk_cell hzz 0 (.int .i64 0) rfl
    have t1 := blk_cell hzz 1 (.int .i64 0) rfl
    have t2 := blk_cell hzz 2 (.int .i64 0) rfl
    have t3 := blk_cell hzz 3 (.string ⟨#[]⟩) rfl
    refine bodyPost_ret (v := .tuple #[(.agg #[.int .i64 0, .int .i64 0, .int .i64 0, .string ⟨#[]⟩]), .int .i64 0, .int .i64 1]) (by simp [results, Try.results9, go_sem, t0, t1, t2, t3]) rfl ⟨rfl, ?_⟩
    exact (Ext.refl w).alloc _
  · have h1 : (s.size : Int) < a := by omega
    clear h
    go_enter Try.func9, Try.ntmps9
    go_wp2
    have hzz := bzero4 HZB.out
    have t0 := blk_cell hzz 0 (.int .i64 0) rfl
    have t1 := blk_cell hzz 1 (.int .i64 0) rfl
    have t2 := blk_cell hzz 2 (.int .i64 0) rfl
    have t3 := blk_cell hzz 3 (.string ⟨#[]⟩) rfl
    refine bodyPost_ret (v := .tuple #[(.agg #[.int .i64 0, .int .i64 0, .int .i64 0, .string ⟨#[]⟩]), .int .i64 0, .int .i64 1]) (by simp [results, Try.results9, go_sem, t0, t1, t2, t3]) rfl ⟨rfl, ?_⟩
    exact (Ext.refl w).alloc _

theorem Wi.take_none {s : ByteArray} (h : s.data.toList = []) : Wi.take s 0 0 1 = (⟨#[]⟩, 0, 10) := Wi.take_over s 1 (by
  have : s.size = s.data.toList.length := by simp
  rw [this, h]; decide)
theorem Wi.take_one {s : ByteArray} {c : UInt8} {T : List UInt8} (h : s.data.toList = c :: T) : Wi.take s 0 0 1 = (⟨#[c]⟩, 1, 0) ∧ 1 ≤ s.size := by
  have hsz : s.size = T.length + 1 := by
    have : s.size = s.data.toList.length := by simp
    rw [this, h]; rfl
  refine ⟨?_, by omega⟩
  rw [Wi.take_in s 0 1 (by omega) (by omega)]
  simp only [Prod.mk.injEq]
  refine ⟨?_, by omega, trivial⟩
  apply ByteArray.ext
  apply Array.toList_inj.1
  rw [Lib.extract_data, h]
  rfl
set_option maxRecDepth 100000 in
set_option maxHeartbeats 1000000 in
theorem bdec_short (s : ByteArray) (a : Nat) (w : World) (hs : s.size ≤ maxLen) (h : a ≤ s.size) (hnil : s.data.toList.drop a = []) :
    Calls Try.prog 9 #[.string s, .int .i64 a] w (BDec (Bt.zero, 0, 10) w) := by
  unfold maxLen at hs
  have hd0 : decide ((a : Int) < 0) = false := by simp
  have hd1 : decide (s.size < a) = false := by simpa using h
  have hzw := blk_new w ((.cells #[.int .i64 0, .int .i64 0, .int .i64 0, .string ⟨#[]⟩] 23))
  have HZW := Lib.hid hzw
  clear hzw
  have HS : Hid ((s.extract a s.size).size ≤ maxLen) := Lib.hid (by simp [maxLen]; omega)
  have HB := Lib.hid (Wi.take_none (s := s.extract a s.size) (by rw [extract_drop, hnil]))
  clear hnil
  go_enter Try.func9, Try.ntmps9
  go_wp2_with fail
  refine (new_any _ _).mono ?_
  rintro r w1 ⟨rfl, hr1, hx1⟩
  have hgz : w.heap.size + 1 ≤ (w.alloc ((.cells #[.int .i64 0, .int .i64 0, .int .i64 0, .string ⟨#[]⟩] 23))).heap.size := by simp
  have HX1 : Hid (Ext w w1) := Lib.hid (((Ext.refl w).alloc _).trans hx1)
  have HZ1 := Lib.hid (hx1.blk HZW.out)
  clear hx1 HZW
  generalize s.extract a s.size = t at *
  generalize (w.alloc ((.cells #[.int .i64 0, .int .i64 0, .int .i64 0, .string ⟨#[]⟩] 23))).heap.size = g at *
  have HR1 := Lib.hid hr1
  clear hr1
  go_wp2_with fail
  refine (rtake_eq 1 _ HR1.out HS.out (by omega) (by simp) (by omega) HB.out).mono ?_
  rintro r w2 ⟨rfl, hr2, hu2⟩
  have HU2 := Lib.hid hu2
  clear hu2
  go_wp2_with fail
  refine (err_ne hr2 (by omega)).mono ?_
  rintro r w3 ⟨rfl, hr3, hu3⟩
  have hzb := hu3.blk (HU2.out.blk HZ1.out (by omega)) (by omega)
  have HX3 : Hid (Ext w w3) := Lib.hid ((HX1.out.upd HU2.out (by omega)).upd hu3 (by omega))
  clear hr2 hr3 hu3 HU2
  have z0 := blk_cell hzb 0 (.int .i64 0) rfl
  have z1 := blk_cell hzb 1 (.int .i64 0) rfl
  have z2 := blk_cell hzb 2 (.int .i64 0) rfl
  have z3 := blk_cell hzb 3 (.string ⟨#[]⟩) rfl
  have y0 := frozen_of_row _ _ 0 _ _ hzb
  have y1 := frozen_of_row _ _ 1 _ _ hzb
  have y2 := frozen_of_row _ _ 2 _ _ hzb
  have y3 := frozen_of_row _ _ 3 _ _ hzb
  have HZB := Lib.hid hzb
  clear hzb
  go_wp2
  have hzz := bzero4 HZB.out
  have t0 := blk_cell hzz 0 (.int .i64 0) rfl
  have t1 := blk_cell hzz 1 (.int .i64 0) rfl
  have t2 := blk_cell hzz 2 (.int .i64 0) rfl
  have t3 := blk_cell hzz 3 (.string ⟨#[]⟩) rfl
  refine bodyPost_ret (v := .tuple #[(.agg #[.int .i64 0, .int .i64 0, .int .i64 0, .string ⟨#[]⟩]), .int .i64 0, .int .i64 10]) (by simp [results, Try.results9, go_sem, t0, t1, t2, t3]) rfl ⟨rfl, ?_⟩
  exact HX3.out.set4 _ _ _ _
theorem one_ne {c : UInt8} (h : c ≠ 66) : ((⟨#[c]⟩ : ByteArray).toList == [66]) = false := by
  simp only [ByteArray.toList_eq]; simpa using h
theorem one_eq : ((⟨#[66]⟩ : ByteArray).toList == [66]) = true := by simp [ByteArray.toList_eq]
set_option maxRecDepth 100000 in
set_option maxHeartbeats 1000000 in
theorem bdec_mark (s : ByteArray) (a : Nat) (w : World) (hs : s.size ≤ maxLen) (h : a ≤ s.size) (c : UInt8) (T : List UInt8) (hc : s.data.toList.drop a = c :: T) (h66 : c ≠ 66) :
    Calls Try.prog 9 #[.string s, .int .i64 a] w (BDec (Bt.zero, 0, 50) w) := by
  unfold maxLen at hs
  have hd0 : decide ((a : Int) < 0) = false := by simp
  have hd1 : decide (s.size < a) = false := by simpa using h
  have hzw := blk_new w ((.cells #[.int .i64 0, .int .i64 0, .int .i64 0, .string ⟨#[]⟩] 23))
  have HZW := Lib.hid hzw
  clear hzw
  have HS : Hid ((s.extract a s.size).size ≤ maxLen) := Lib.hid (by simp [maxLen]; omega)
  obtain ⟨hb, hsz⟩ := Wi.take_one (s := s.extract a s.size) (c := c) (T := T) (by rw [extract_drop, hc])
  have HB := Lib.hid hb
  have HSZ := Lib.hid hsz
  have hne := one_ne h66
  clear hc hb h66 hsz
  go_enter Try.func9, Try.ntmps9
  go_wp2_with fail
  refine (new_any _ _).mono ?_
  rintro r w1 ⟨rfl, hr1, hx1⟩
  have hgz : w.heap.size + 1 ≤ (w.alloc ((.cells #[.int .i64 0, .int .i64 0, .int .i64 0, .string ⟨#[]⟩] 23))).heap.size := by simp
  have HX1 : Hid (Ext w w1) := Lib.hid (((Ext.refl w).alloc _).trans hx1)
  have HZ1 := Lib.hid (hx1.blk HZW.out)
  clear hx1 HZW
  generalize s.extract a s.size = t at *
  generalize (w.alloc ((.cells #[.int .i64 0, .int .i64 0, .int .i64 0, .string ⟨#[]⟩] 23))).heap.size = g at *
  have HR1 := Lib.hid hr1
  clear hr1
  generalize (⟨#[c]⟩ : ByteArray) = fst at *
  go_wp2_with fail
  refine (rtake_eq 1 _ HR1.out HS.out (by omega) (by simp) (by omega) HB.out).mono ?_
  rintro r w2 ⟨rfl, hr2, hu2⟩
  have HU2 := Lib.hid hu2
  clear hu2
  go_wp2_with fail
  refine (err_ok _ _ _ _ hr2).mono ?_
  rintro r w3 ⟨rfl, rfl⟩
  have hzb := HU2.out.blk HZ1.out (by omega)
  have HX3 : Hid (Ext w w2) := Lib.hid (HX1.out.upd HU2.out (by omega))
  clear hr2 HU2
  have z0 := blk_cell hzb 0 (.int .i64 0) rfl
  have z1 := blk_cell hzb 1 (.int .i64 0) rfl
  have z2 := blk_cell hzb 2 (.int .i64 0) rfl
  have z3 := blk_cell hzb 3 (.string ⟨#[]⟩) rfl
  have y0 := frozen_of_row _ _ 0 _ _ hzb
  have y1 := frozen_of_row _ _ 1 _ _ hzb
  have y2 := frozen_of_row _ _ 2 _ _ hzb
  have y3 := frozen_of_row _ _ 3 _ _ hzb
  have HZB := Lib.hid hzb
  clear hzb
  go_wp2
  have hzz := bzero4 HZB.out
  have t0 := blk_cell hzz 0 (.int .i64 0) rfl
  have t1 := blk_cell hzz 1 (.int .i64 0) rfl
  have t2 := blk_cell hzz 2 (.int .i64 0) rfl
  have t3 := blk_cell hzz 3 (.string ⟨#[]⟩) rfl
  refine bodyPost_ret (v := .tuple #[(.agg #[.int .i64 0, .int .i64 0, .int .i64 0, .string ⟨#[]⟩]), .int .i64 0, .int .i64 50]) (by simp [results, Try.results9, go_sem, t0, t1, t2, t3]) rfl ⟨rfl, ?_⟩
  exact HX3.out.set4 _ _ _ _
set_option maxRecDepth 100000 in
set_option maxHeartbeats 1000000 in
theorem bdec_err (s : ByteArray) (a : Nat) (w : World) (hs : s.size ≤ maxLen) (h : a ≤ s.size) (T : List UInt8) (hc : s.data.toList.drop a = 66 :: T) (gn a1 e1 st a2 e2 ba a3 e3 : Int) (bo : ByteArray) (a4 e4 : Int) (h1 : Wi.num (s.extract a s.size) 1 0 = (gn, a1, e1)) (h2 : Wi.num (s.extract a s.size) a1 e1 = (st, a2, e2)) (h3 : Wi.num (s.extract a s.size) a2 e2 = (ba, a3, e3)) (h4 : Wi.text (s.extract a s.size) a3 e3 = (bo, a4, e4)) (he : ¬ e4 = 0) :
    Calls Try.prog 9 #[.string s, .int .i64 a] w (BDec (Bt.zero, 0, e4) w) := by
  have HE := Lib.hid he
  have hb2 : (e4 != 0) = true := by simpa using he
  clear he
  unfold maxLen at hs
  have hd0 : decide ((a : Int) < 0) = false := by simp
  have hd1 : decide (s.size < a) = false := by simpa using h
  have hzw := blk_new w ((.cells #[.int .i64 0, .int .i64 0, .int .i64 0, .string ⟨#[]⟩] 23))
  have HZW := Lib.hid hzw
  clear hzw
  have HS : Hid ((s.extract a s.size).size ≤ maxLen) := Lib.hid (by simp [maxLen]; omega)
  obtain ⟨hb, hsz⟩ := Wi.take_one (s := s.extract a s.size) (c := 66) (T := T) (by rw [extract_drop, hc])
  have HB := Lib.hid hb
  have HSZ := Lib.hid hsz
  have H1 := Lib.hid h1
  have H2 := Lib.hid h2
  have H3 := Lib.hid h3
  have H4 := Lib.hid h4
  have hne := one_eq
  clear hc hb hsz h1 h2 h3 h4
  go_enter Try.func9, Try.ntmps9
  go_wp2_with fail
  refine (new_any _ _).mono ?_
  rintro r w1 ⟨rfl, hr1, hx1⟩
  have hgz : w.heap.size + 1 ≤ (w.alloc ((.cells #[.int .i64 0, .int .i64 0, .int .i64 0, .string ⟨#[]⟩] 23))).heap.size := by simp
  have HX1 : Hid (Ext w w1) := Lib.hid (((Ext.refl w).alloc _).trans hx1)
  have HZ1 := Lib.hid (hx1.blk HZW.out)
  clear hx1 HZW
  generalize s.extract a s.size = t at *
  generalize (w.alloc ((.cells #[.int .i64 0, .int .i64 0, .int .i64 0, .string ⟨#[]⟩] 23))).heap.size = g at *
  have HR1 := Lib.hid hr1
  clear hr1
  generalize (⟨#[66]⟩ : ByteArray) = fst at HB hne
  go_wp2_with fail
  refine (rtake_eq 1 _ HR1.out HS.out (by omega) (by simp) (by omega) HB.out).mono ?_
  rintro r w2 ⟨rfl, hr2, hu2⟩
  have HU2 := Lib.hid hu2
  clear hu2
  go_wp2_with fail
  refine (err_ok _ _ _ _ hr2).mono ?_
  rintro r w3 ⟨rfl, rfl⟩
  go_wp2_with fail
  refine (num_eq _ hr2 HS.out H1.out).mono ?_
  rintro r w3 ⟨rfl, hr3, hu3⟩
  have HU3 := Lib.hid (HU2.out.trans hu3)
  clear hr2 hu3 HU2
  go_wp2_with fail
  refine (num_eq _ hr3 HS.out H2.out).mono ?_
  rintro r w4 ⟨rfl, hr4, hu4⟩
  have HU4 := Lib.hid (HU3.out.trans hu4)
  clear hr3 hu4 HU3
  go_wp2_with fail
  refine (num_eq _ hr4 HS.out H3.out).mono ?_
  rintro r w5 ⟨rfl, hr5, hu5⟩
  have HU5 := Lib.hid (HU4.out.trans hu5)
  clear hr4 hu5 HU4
  go_wp2_with fail
  refine (text_eq _ hr5 HS.out H4.out).mono ?_
  rintro r w6 ⟨rfl, hr6, hu6⟩
  have HU6 := Lib.hid (HU5.out.trans hu6)
  clear hr5 hu6 HU5
  have HZ6 := Lib.hid (HU6.out.blk HZ1.out (by omega))
  have HX6 : Hid (Ext w w6) := Lib.hid (HX1.out.upd HU6.out (by omega))
  have HR6 := Lib.hid (hr6.ext ((Ext.refl w6).alloc (.cells #[.int .i64 gn, .int .i64 st, .int .i64 ba, .string bo] 23)))
  have hz6 := HX6.out.size
  have hz2 := Nat.lt_of_lt_of_le (blk_lt HZ1.out) HU6.out.size
  clear hr6 HU6
  go_wp2_with fail
  refine (err_ne HR6.out HE.out).mono ?_
  rintro r w7 ⟨rfl, hr7, hu7⟩
  have hzb := hu7.blk (blk_alloc HZ6.out _) (by omega)
  have HX7 : Hid (Ext w w7) := Lib.hid ((HX6.out.alloc _).upd hu7 (by omega))
  clear hr7 hu7 HR6 HZ6
  have z0 := blk_cell hzb 0 (.int .i64 0) rfl
  have z1 := blk_cell hzb 1 (.int .i64 0) rfl
  have z2 := blk_cell hzb 2 (.int .i64 0) rfl
  have z3 := blk_cell hzb 3 (.string ⟨#[]⟩) rfl
  have y0 := frozen_of_row _ _ 0 _ _ hzb
  have y1 := frozen_of_row _ _ 1 _ _ hzb
  have y2 := frozen_of_row _ _ 2 _ _ hzb
  have y3 := frozen_of_row _ _ 3 _ _ hzb
  have HZB := Lib.hid hzb
  clear hzb
  go_wp2
  have hzz := bzero4 HZB.out
  have t0 := blk_cell hzz 0 (.int .i64 0) rfl
  have t1 := blk_cell hzz 1 (.int .i64 0) rfl
  have t2 := blk_cell hzz 2 (.int .i64 0) rfl
  have t3 := blk_cell hzz 3 (.string ⟨#[]⟩) rfl
  refine bodyPost_ret (v := .tuple #[(.agg #[.int .i64 0, .int .i64 0, .int .i64 0, .string ⟨#[]⟩]), .int .i64 0, .int .i64 e4]) (by simp [results, Try.results9, go_sem, t0, t1, t2, t3]) rfl ⟨rfl, ?_⟩
  exact HX7.out.set4 _ _ _ _
set_option maxRecDepth 100000 in
set_option maxHeartbeats 1000000 in
theorem bdec_no (s : ByteArray) (a : Nat) (w : World) (hs : s.size ≤ maxLen) (h : a ≤ s.size) (T : List UInt8) (hc : s.data.toList.drop a = 66 :: T) (gn a1 e1 st a2 e2 ba a3 e3 : Int) (bo : ByteArray) (a4 e4 : Int) (h1 : Wi.num (s.extract a s.size) 1 0 = (gn, a1, e1)) (h2 : Wi.num (s.extract a s.size) a1 e1 = (st, a2, e2)) (h3 : Wi.num (s.extract a s.size) a2 e2 = (ba, a3, e3)) (h4 : Wi.text (s.extract a s.size) a3 e3 = (bo, a4, e4)) (he : e4 = 0) (hm : Bt.may ⟨gn, st, ba, bo⟩ = false) :
    Calls Try.prog 9 #[.string s, .int .i64 a] w (BDec (Bt.zero, 0, 50) w) := by
  subst he
  have HM := Lib.hid hm
  clear hm
  unfold maxLen at hs
  have hd0 : decide ((a : Int) < 0) = false := by simp
  have hd1 : decide (s.size < a) = false := by simpa using h
  have hzw := blk_new w ((.cells #[.int .i64 0, .int .i64 0, .int .i64 0, .string ⟨#[]⟩] 23))
  have HZW := Lib.hid hzw
  clear hzw
  have HS : Hid ((s.extract a s.size).size ≤ maxLen) := Lib.hid (by simp [maxLen]; omega)
  obtain ⟨hb, hsz⟩ := Wi.take_one (s := s.extract a s.size) (c := 66) (T := T) (by rw [extract_drop, hc])
  have HB := Lib.hid hb
  have HSZ := Lib.hid hsz
  have H1 := Lib.hid h1
  have H2 := Lib.hid h2
  have H3 := Lib.hid h3
  have H4 := Lib.hid h4
  have hne := one_eq
  clear hc hb hsz h1 h2 h3 h4
  go_enter Try.func9, Try.ntmps9
  go_wp2_with fail
  refine (new_any _ _).mono ?_
  rintro r w1 ⟨rfl, hr1, hx1⟩
  have hgz : w.heap.size + 1 ≤ (w.alloc ((.cells #[.int .i64 0, .int .i64 0, .int .i64 0, .string ⟨#[]⟩] 23))).heap.size := by simp
  have HX1 : Hid (Ext w w1) := Lib.hid (((Ext.refl w).alloc _).trans hx1)
  have HZ1 := Lib.hid (hx1.blk HZW.out)
  clear hx1 HZW
  generalize s.extract a s.size = t at *
  generalize (w.alloc ((.cells #[.int .i64 0, .int .i64 0, .int .i64 0, .string ⟨#[]⟩] 23))).heap.size = g at *
  have HR1 := Lib.hid hr1
  clear hr1
  generalize (⟨#[66]⟩ : ByteArray) = fst at HB hne
  go_wp2_with fail
  refine (rtake_eq 1 _ HR1.out HS.out (by omega) (by simp) (by omega) HB.out).mono ?_
  rintro r w2 ⟨rfl, hr2, hu2⟩
  have HU2 := Lib.hid hu2
  clear hu2
  go_wp2_with fail
  refine (err_ok _ _ _ _ hr2).mono ?_
  rintro r w3 ⟨rfl, rfl⟩
  go_wp2_with fail
  refine (num_eq _ hr2 HS.out H1.out).mono ?_
  rintro r w3 ⟨rfl, hr3, hu3⟩
  have HU3 := Lib.hid (HU2.out.trans hu3)
  clear hr2 hu3 HU2
  go_wp2_with fail
  refine (num_eq _ hr3 HS.out H2.out).mono ?_
  rintro r w4 ⟨rfl, hr4, hu4⟩
  have HU4 := Lib.hid (HU3.out.trans hu4)
  clear hr3 hu4 HU3
  go_wp2_with fail
  refine (num_eq _ hr4 HS.out H3.out).mono ?_
  rintro r w5 ⟨rfl, hr5, hu5⟩
  have HU5 := Lib.hid (HU4.out.trans hu5)
  clear hr4 hu5 HU4
  go_wp2_with fail
  refine (text_eq _ hr5 HS.out H4.out).mono ?_
  rintro r w6 ⟨rfl, hr6, hu6⟩
  have HU6 := Lib.hid (HU5.out.trans hu6)
  clear hr5 hu6 HU5
  have HZ6 := Lib.hid (HU6.out.blk HZ1.out (by omega))
  have HX6 : Hid (Ext w w6) := Lib.hid (HX1.out.upd HU6.out (by omega))
  have HR6 := Lib.hid (hr6.ext ((Ext.refl w6).alloc (.cells #[.int .i64 gn, .int .i64 st, .int .i64 ba, .string bo] 23)))
  have hz6 := HX6.out.size
  have hz2 := Nat.lt_of_lt_of_le (blk_lt HZ1.out) HU6.out.size
  clear hr6 HU6
  go_wp2_with fail
  refine (err_ok _ _ _ _ HR6.out).mono ?_
  rintro r w7 ⟨rfl, rfl⟩
  go_wp2_with fail
  refine (bmay_eq gn st ba bo false HM.out _).mono ?_
  rintro r w7 ⟨rfl, hx7⟩
  have hzb := hx7.blk (blk_alloc HZ6.out _)
  have HX7 : Hid (Ext w w7) := Lib.hid ((HX6.out.alloc _).trans hx7)
  clear hx7 HR6 HZ6
  have z0 := blk_cell hzb 0 (.int .i64 0) rfl
  have z1 := blk_cell hzb 1 (.int .i64 0) rfl
  have z2 := blk_cell hzb 2 (.int .i64 0) rfl
  have z3 := blk_cell hzb 3 (.string ⟨#[]⟩) rfl
  have y0 := frozen_of_row _ _ 0 _ _ hzb
  have y1 := frozen_of_row _ _ 1 _ _ hzb
  have y2 := frozen_of_row _ _ 2 _ _ hzb
  have y3 := frozen_of_row _ _ 3 _ _ hzb
  have HZB := Lib.hid hzb
  clear hzb
  go_wp2
  have hzz := bzero4 HZB.out
  have t0 := blk_cell hzz 0 (.int .i64 0) rfl
  have t1 := blk_cell hzz 1 (.int .i64 0) rfl
  have t2 := blk_cell hzz 2 (.int .i64 0) rfl
  have t3 := blk_cell hzz 3 (.string ⟨#[]⟩) rfl
  refine bodyPost_ret (v := .tuple #[(.agg #[.int .i64 0, .int .i64 0, .int .i64 0, .string ⟨#[]⟩]), .int .i64 0, .int .i64 50]) (by simp [results, Try.results9, go_sem, t0, t1, t2, t3]) rfl ⟨rfl, ?_⟩
  exact HX7.out.set4 _ _ _ _
def BD5 (w : World) (g st ba : Int) (bo : ByteArray) (_ : Value) (v : World) : Prop :=
  v.heap[w.heap.size]? = some (.cells #[.int .i64 g, .int .i64 st, .int .i64 ba, .string bo] 23 (0, 0)) ∧ Ext w v
set_option maxRecDepth 100000 in
set_option maxHeartbeats 1000000 in
theorem bdec_ok (s : ByteArray) (a : Nat) (w : World) (hs : s.size ≤ maxLen) (h : a ≤ s.size) (T : List UInt8) (hc : s.data.toList.drop a = 66 :: T) (gn a1 e1 st a2 e2 ba a3 e3 : Int) (bo : ByteArray) (a4 e4 : Int) (h1 : Wi.num (s.extract a s.size) 1 0 = (gn, a1, e1)) (h2 : Wi.num (s.extract a s.size) a1 e1 = (st, a2, e2)) (h3 : Wi.num (s.extract a s.size) a2 e2 = (ba, a3, e3)) (h4 : Wi.text (s.extract a s.size) a3 e3 = (bo, a4, e4)) (he : e4 = 0) (hm : Bt.may ⟨gn, st, ba, bo⟩ = true) (ha0 : 0 ≤ a4) (ha1 : (a : Int) + a4 ≤ s.size) :
    Calls Try.prog 9 #[.string s, .int .i64 a] w (BDec (⟨gn, st, ba, bo⟩, (a : Int) + a4, 0) w) := by
  subst he
  have HM := Lib.hid hm
  clear hm
  unfold maxLen at hs
  have hd0 : decide ((a : Int) < 0) = false := by simp
  have hd1 : decide (s.size < a) = false := by simpa using h
  have hzw := blk_new w ((.cells #[.int .i64 0, .int .i64 0, .int .i64 0, .string ⟨#[]⟩] 23))
  have HZW := Lib.hid hzw
  clear hzw
  have HS : Hid ((s.extract a s.size).size ≤ maxLen) := Lib.hid (by simp [maxLen]; omega)
  obtain ⟨hb, hsz⟩ := Wi.take_one (s := s.extract a s.size) (c := 66) (T := T) (by rw [extract_drop, hc])
  have HB := Lib.hid hb
  have HSZ := Lib.hid hsz
  have H1 := Lib.hid h1
  have H2 := Lib.hid h2
  have H3 := Lib.hid h3
  have H4 := Lib.hid h4
  have hne := one_eq
  clear hc hb hsz h1 h2 h3 h4
  go_enter Try.func9, Try.ntmps9
  go_wp2_with fail
  refine (new_any _ _).mono ?_
  rintro r w1 ⟨rfl, hr1, hx1⟩
  have hgz : w.heap.size + 1 ≤ (w.alloc ((.cells #[.int .i64 0, .int .i64 0, .int .i64 0, .string ⟨#[]⟩] 23))).heap.size := by simp
  have HX1 : Hid (Ext w w1) := Lib.hid (((Ext.refl w).alloc _).trans hx1)
  have HZ1 := Lib.hid (hx1.blk HZW.out)
  clear hx1 HZW
  generalize s.extract a s.size = t at *
  generalize (w.alloc ((.cells #[.int .i64 0, .int .i64 0, .int .i64 0, .string ⟨#[]⟩] 23))).heap.size = g at *
  have HR1 := Lib.hid hr1
  clear hr1
  generalize (⟨#[66]⟩ : ByteArray) = fst at HB hne
  go_wp2_with fail
  refine (rtake_eq 1 _ HR1.out HS.out (by omega) (by simp) (by omega) HB.out).mono ?_
  rintro r w2 ⟨rfl, hr2, hu2⟩
  have HU2 := Lib.hid hu2
  clear hu2
  go_wp2_with fail
  refine (err_ok _ _ _ _ hr2).mono ?_
  rintro r w3 ⟨rfl, rfl⟩
  go_wp2_with fail
  refine (num_eq _ hr2 HS.out H1.out).mono ?_
  rintro r w3 ⟨rfl, hr3, hu3⟩
  have HU3 := Lib.hid (HU2.out.trans hu3)
  clear hr2 hu3 HU2
  go_wp2_with fail
  refine (num_eq _ hr3 HS.out H2.out).mono ?_
  rintro r w4 ⟨rfl, hr4, hu4⟩
  have HU4 := Lib.hid (HU3.out.trans hu4)
  clear hr3 hu4 HU3
  go_wp2_with fail
  refine (num_eq _ hr4 HS.out H3.out).mono ?_
  rintro r w5 ⟨rfl, hr5, hu5⟩
  have HU5 := Lib.hid (HU4.out.trans hu5)
  clear hr4 hu5 HU4
  go_wp2_with fail
  refine (text_eq _ hr5 HS.out H4.out).mono ?_
  rintro r w6 ⟨rfl, hr6, hu6⟩
  have HU6 := Lib.hid (HU5.out.trans hu6)
  clear hr5 hu6 HU5
  have HZ6 := Lib.hid (HU6.out.blk HZ1.out (by omega))
  have HX6 : Hid (Ext w w6) := Lib.hid (HX1.out.upd HU6.out (by omega))
  have HR6 := Lib.hid (hr6.ext ((Ext.refl w6).alloc (.cells #[.int .i64 gn, .int .i64 st, .int .i64 ba, .string bo] 23)))
  have hz6 := HX6.out.size
  have hz2 := Nat.lt_of_lt_of_le (blk_lt HZ1.out) HU6.out.size
  clear hr6 HU6
  go_wp2_with fail
  refine (err_ok _ _ _ _ HR6.out).mono ?_
  rintro r w7 ⟨rfl, rfl⟩
  go_wp2_with fail
  refine (bmay_eq gn st ba bo true HM.out _).mono ?_
  rintro r w7 ⟨rfl, hx7⟩
  have HX7 := Lib.hid hx7
  clear hx7
  go_wp2
  have HBN : Hid (w7.drew.heap[w6.heap.size]? = some (.cells #[.int .i64 gn, .int .i64 st, .int .i64 ba, .string bo] 23 (0, 0))) := Lib.hid (HX7.out.blk (blk_new w6 _))
  have HZ4 : Hid (w7.drew.heap[w.heap.size]? = some ((.cells #[.int .i64 0, .int .i64 0, .int .i64 0, .string ⟨#[]⟩] 23))) := Lib.hid (HX7.out.blk (blk_alloc HZ6.out _))
  have HR4 : Hid (RD w7.drew g t a4 0) := Lib.hid (RD.drew (HR6.out.ext HX7.out))
  have HX4 : Hid (Ext w w7.drew) := Lib.hid (((HX6.out.alloc _).trans HX7.out).drew)
  have hwr : IntKind.i64.wrap ((a : Int) + a4) = (a : Int) + a4 := IntWalk.i64_in _ (by omega)
  clear HZ6 HR6 HX7 HX6
  generalize hq3 : w7.drew = w4' at *
  have HU : Cov (fun v => v = w4') (fun v => v = w4') [] := ⟨fun _ h => h, fun p hp => by simp at hp⟩
  have HU : (∀ v, v = w4' → v = w4') ∧ ∀ p ∈ [((5 : Nat), BD5 w gn st ba bo)], p.1 = 5 ∨ ∀ u v, p.2 u v → v = w4' := ⟨fun _ h => h, fun p hp => by rw [List.mem_singleton] at hp; subst hp; exact .inl rfl⟩
  refine region_ph (fun v => v = w4') [(5, BD5 w gn st ba bo)] (by kernel_rfl) hq3 ?_
  clear hq3
  have K0 : ∀ v, v = w4' → v.cell? ⟨w6.heap.size, 0, none⟩ = some (.int .i64 gn) := fun v hv => by subst hv; exact blk_cell HBN.out 0 _ rfl
  have K1 : ∀ v, v = w4' → v.cell? ⟨w6.heap.size, 1, none⟩ = some (.int .i64 st) := fun v hv => by subst hv; exact blk_cell HBN.out 1 _ rfl
  have K2 : ∀ v, v = w4' → v.cell? ⟨w6.heap.size, 2, none⟩ = some (.int .i64 ba) := fun v hv => by subst hv; exact blk_cell HBN.out 2 _ rfl
  have K3 : ∀ v, v = w4' → v.cell? ⟨w6.heap.size, 3, none⟩ = some (.string bo) := fun v hv => by subst hv; exact blk_cell HBN.out 3 _ rfl
  refine ph_take2 _ HU (i := 0) (v := ?_) rfl (by kernel_rfl) (by kernel_rfl) (by kernel_rfl) (by kernel_rfl) (by kernel_rfl) (by kernel_rfl) (fun _ _ _ h => h) (Still.yes (by kernel_rfl) fun w hS => ?_) ?_
  rotate_left 1
  · skip
    go_simp
    refine gives_mk ?_ rfl
    with_reducible rfl
  refine ph_take (Cov.triv _ _) (i := 1) (v := ?_) rfl (by kernel_rfl) (by kernel_rfl) (by kernel_rfl) (by kernel_rfl) (fun _ _ _ h => h) (Still.yes (by kernel_rfl) fun w hS => ?_) ?_
  rotate_left 1
  · skip
    go_simp
    refine gives_mk ?_ rfl
    with_reducible rfl
  refine ph_take2 _ HU (i := 2) (v := ?_) rfl (by kernel_rfl) (by kernel_rfl) (by kernel_rfl) (by kernel_rfl) (by kernel_rfl) (by kernel_rfl) (fun _ _ _ h => h) (Still.yes (by kernel_rfl) fun w hS => ?_) ?_
  rotate_left 1
  · skip
    go_simp
    refine gives_mk ?_ rfl
    with_reducible rfl
  refine ph_take2 _ HU (i := 3) (v := .int .i64 a4) rfl (by kernel_rfl) (by kernel_rfl) (by kernel_rfl) (by kernel_rfl) (by kernel_rfl) (by kernel_rfl) (fun _ _ _ h => h) (Still.yes (by kernel_rfl) fun w hS => ?_) ?_
  · go_simp
    refine gives_call ((at_any g t a4 0 _ (hS ▸ HR4.out)).mono ?_)
    exact fun r w2 ⟨he, hx⟩ => ⟨he, hx.symm⟩
  refine ph_take (Cov.triv _ _) (i := 4) (v := ?_) rfl (by kernel_rfl) (by kernel_rfl) (by kernel_rfl) (by kernel_rfl) (fun _ _ _ h => h) (Still.yes (by kernel_rfl) fun w hS => ?_) ?_
  rotate_left 1
  · skip
    go_simp
    try simp only [hwr]
    refine gives_mk ?_ rfl
    with_reducible rfl
  refine ph_skip (by kernel_rfl) rfl (by kernel_rfl) (fun v hv => ?_) ?_
  · subst hv
    have hzb := HZ4.out
    have z0 := blk_cell hzb 0 (.int .i64 0) rfl
    have z1 := blk_cell hzb 1 (.int .i64 0) rfl
    have z2 := blk_cell hzb 2 (.int .i64 0) rfl
    have z3 := blk_cell hzb 3 (.string ⟨#[]⟩) rfl
    have y0 := frozen_of_row _ _ 0 _ _ hzb
    have y1 := frozen_of_row _ _ 1 _ _ hzb
    have y2 := frozen_of_row _ _ 2 _ _ hzb
    have y3 := frozen_of_row _ _ 3 _ _ hzb
    have HZB := Lib.hid hzb
    clear hzb
    have e0 := K0 _ rfl
    have e1 := K1 _ rfl
    have e2 := K2 _ rfl
    have e3 := K3 _ rfl
    clear K0 K1 K2 K3 HU
    go_simp
    exact ⟨blk_set (blk_set (blk_set (blk_set HZB.out 0 (.int .i64 gn)) 1 (.int .i64 st)) 2 (.int .i64 ba)) 3 (.string bo), HX4.out.set4 _ _ _ _⟩
  refine ph_take (Cov.triv _ _) (i := 6) (v := ?_) rfl (by kernel_rfl) (by kernel_rfl) (by kernel_rfl) (by kernel_rfl) (fun _ _ _ h => h) (Still.yes (by kernel_rfl) fun w hS => ?_) ?_
  rotate_left 1
  · skip
    go_simp
    refine gives_mk ?_ rfl
    with_reducible rfl
  refine ph_take (Cov.triv _ _) (i := 7) (v := ?_) rfl (by kernel_rfl) (by kernel_rfl) (by kernel_rfl) (by kernel_rfl) (fun _ _ _ h => h) (Still.yes (by kernel_rfl) fun w hS => ?_) ?_
  rotate_left 1
  · skip
    go_simp
    refine gives_mk ?_ rfl
    with_reducible rfl
  refine ph_done ?_ ?_ _
  · kernel_rfl
  intro w5 hw5
  clear K0 K1 K2 K3 HU
  obtain ⟨hzz, hx5⟩ := hw5
  have t0 := blk_cell hzz 0 (.int .i64 gn) rfl
  have t1 := blk_cell hzz 1 (.int .i64 st) rfl
  have t2 := blk_cell hzz 2 (.int .i64 ba) rfl
  have t3 := blk_cell hzz 3 (.string bo) rfl
  clear hzz
  go_simp
  go_wp2
  refine bodyPost_ret (v := .tuple #[.agg #[.int .i64 gn, .int .i64 st, .int .i64 ba, .string bo], .int .i64 ((a : Int) + a4), .int .i64 0]) (by simp [results, Try.results9, go_sem, t0, t1, t2, t3]) rfl ⟨rfl, hx5⟩
theorem bdecode_any (s : ByteArray) (a : Int) (w : World) (hs : s.size ≤ maxLen) : Calls Try.prog 9 #[.string s, .int .i64 a] w (BDec (Bt.decP s a) w) := by
  by_cases h : a < 0 ∨ (s.size : Int) < a
  · rw [show Bt.decP s a = (Bt.zero, 0, 1) by unfold Bt.decP; rw [if_pos h]]
    exact bdec_out s a w h
  · obtain ⟨k, rfl⟩ := Int.eq_ofNat_of_zero_le (show 0 ≤ a by omega)
    have hk : k ≤ s.size := by omega
    cases hl : s.data.toList.drop k with
    | nil =>
      rw [Bt.decP_err s k hk (by rw [hl]; simp [Bt.dec]), hl]
      exact bdec_short s k w hs hk hl
    | cons c T =>
      by_cases h66 : c = 66
      · subst h66
        have hT : (s.extract k s.size).data.toList = 66 :: T := by rw [extract_drop, hl]
        have hT1 : (s.extract k s.size).data.toList.drop 1 = T := by rw [hT]; rfl
        have hln : (s.extract k s.size).size = s.size - k := by simp
        have hlT : T.length + 1 = s.size - k := by
          have := congrArg List.length hT
          simp at this
          omega
        rcases h1 : Wi.num (s.extract k s.size) 1 0 with ⟨gn, a1, e1⟩
        rcases h2 : Wi.num (s.extract k s.size) a1 e1 with ⟨st, a2, e2⟩
        rcases h3 : Wi.num (s.extract k s.size) a2 e2 with ⟨ba, a3, e3⟩
        rcases h4 : Wi.text (s.extract k s.size) a3 e3 with ⟨bo, a4, e4⟩
        obtain ⟨r1, r2⟩ := Bt.rd_dec (s.extract k s.size) 1 (by omega) gn a1 e1 st a2 e2 ba a3 e3 bo a4 e4 h1 h2 h3 h4
        rw [hT1] at r1 r2
        have hdec : Bt.dec (66 :: T) = if (Bt.decT T).2.2 = 0 then if (Bt.decT T).1.may then ((Bt.decT T).1, 1 + (Bt.decT T).2.1, 0) else (Bt.zero, 0, 50) else (Bt.zero, 0, (Bt.decT T).2.2) := by
          simp [Bt.dec]
        by_cases h0 : (Bt.decT T).2.2 = 0
        · obtain ⟨he, hb, ha4⟩ := r1 h0
          have hsz := Bt.decT_size h0
          rw [if_pos h0, hb] at hdec
          by_cases hm : Bt.may ⟨gn, st, ba, bo⟩ = true
          · rw [if_pos hm] at hdec
            rw [Bt.decP_nat s k hk, hl, hdec]
            simp only [if_true]
            have : (k : Int) + ((1 + (Bt.decT T).2.1 : Nat) : Int) = (k : Int) + a4 := by rw [ha4]
            rw [this]
            exact bdec_ok s k w hs hk T hl gn a1 e1 st a2 e2 ba a3 e3 bo a4 e4 h1 h2 h3 h4 he hm (by omega) (by omega)
          · rw [if_neg hm] at hdec
            rw [Bt.decP_nat s k hk, hl, hdec]
            exact bdec_no s k w hs hk T hl gn a1 e1 st a2 e2 ba a3 e3 bo a4 e4 h1 h2 h3 h4 he (by simpa using hm)
        · rw [if_neg h0] at hdec
          rw [Bt.decP_nat s k hk, hl, hdec]
          simp only
          rw [if_neg h0, ← r2 h0]
          exact bdec_err s k w hs hk T hl gn a1 e1 st a2 e2 ba a3 e3 bo a4 e4 h1 h2 h3 h4 (by rw [r2 h0]; omega)
      · have hd : Bt.dec (c :: T) = (Bt.zero, 0, 50) := by simp only [Bt.dec]; rw [if_neg h66]
        rw [Bt.decP_nat s k hk, hl, hd]
        exact bdec_mark s k w hs hk c T hl h66

end Go.Proofs.Ytlbhpgieehallaa
