/-
  The contract of event.Decode.
-/
import Derived.Test.YtlbhpgieehallaaEf
import Derived.Test.YtlbhpgieehallaaWe
set_option linter.unusedVariables false
set_option linter.unusedSimpArgs false
namespace Go.Proofs.Ytlbhpgieehallaa
open Go.RowKit

/-- What Decode answers at a place: the event, the place behind, the error. -/
def Ev.decP (s : ByteArray) (a : Int) : Ev × Int × Int :=
  if a < 0 ∨ (s.size : Int) < a then (Ev.zero, 0, 1)
  else ((Ev.dec (s.data.toList.drop a.toNat)).1, if (Ev.dec (s.data.toList.drop a.toNat)).2.2 = 0 then a + ((Ev.dec (s.data.toList.drop a.toNat)).2.1 : Int) else 0, ((Ev.dec (s.data.toList.drop a.toNat)).2.2 : Int))
def DecPost (p : Ev × Int × Int) (w : World) (r : Ending) (w' : World) : Prop :=
  ∃ v, r = .returned (.tuple #[v, .int .i64 p.2.1, .int .i64 p.2.2]) ∧ EvNew w.heap.size w' v p.1 ∧ Ext w w'
theorem evAt_zero {B : Nat} (w : World) : EvNew B w (.agg #[.int .i64 0, .int .i64 0, .slice none 0 0, .string ⟨#[]⟩]) Ev.zero := ⟨none, 0, rfl, ⟨none, 0, rfl, fun h => by simp [Ev.zero] at h⟩, fun _ _ _ h => by simp at h⟩
theorem EvNew.at {B : Nat} {w : World} {v : Value} {e : Ev} (h : EvNew B w v e) : EvAt w v e := by obtain ⟨A, c, h1, h2, _⟩ := h; exact ⟨A, c, h1, h2⟩
theorem Ev.decP_nat (s : ByteArray) (a : Nat) (h : a ≤ s.size) : Ev.decP s a = ((Ev.dec (s.data.toList.drop a)).1, if (Ev.dec (s.data.toList.drop a)).2.2 = 0 then (a : Int) + ((Ev.dec (s.data.toList.drop a)).2.1 : Int) else 0, ((Ev.dec (s.data.toList.drop a)).2.2 : Int)) := by
  unfold Ev.decP
  rw [if_neg (by omega), Int.toNat_natCast]
theorem Ev.decP_err (s : ByteArray) (a : Nat) (h : a ≤ s.size) (he : (Ev.dec (s.data.toList.drop a)).2.2 ≠ 0) : Ev.decP s a = (Ev.zero, 0, ((Ev.dec (s.data.toList.drop a)).2.2 : Int)) := by
  rw [Ev.decP_nat s a h, if_neg he, Ev.dec_zero he]

theorem zero4 {w : World} {g : Nat} (h : w.heap[g]? = some ((.cells #[.int .i64 0, .int .i64 0, .slice none 0 0, .string ⟨#[]⟩] 41))) : ((((w.setCell ⟨g, 0, none⟩ (.int .i64 0)).setCell ⟨g, 1, none⟩ (.int .i64 0)).setCell ⟨g, 2, none⟩ (.slice none 0 0)).setCell ⟨g, 3, none⟩ (.string ⟨#[]⟩)).heap[g]? = some ((.cells #[.int .i64 0, .int .i64 0, .slice none 0 0, .string ⟨#[]⟩] 41)) :=
  blk_set (blk_set (blk_set (blk_set h 0 (.int .i64 0)) 1 (.int .i64 0)) 2 (.slice none 0 0)) 3 (.string ⟨#[]⟩)
theorem Ext.set4 {w w' : World} (h : Ext w w') (a b c d : Value) : Ext w ((((w'.setCell ⟨w.heap.size, 0, none⟩ a).setCell ⟨w.heap.size, 1, none⟩ b).setCell ⟨w.heap.size, 2, none⟩ c).setCell ⟨w.heap.size, 3, none⟩ d) :=
  (((h.setCell (Nat.le_refl _) _).setCell (Nat.le_refl _) _).setCell (Nat.le_refl _) _).setCell (Nat.le_refl _) _
set_option maxRecDepth 100000 in
set_option maxHeartbeats 1000000 in
theorem decode_out (s : ByteArray) (a : Int) (w : World) (h : a < 0 ∨ (s.size : Int) < a) :
    Calls Try.prog 30 #[.string s, .int .i64 a] w (DecPost (Ev.zero, 0, 1) w) := by
  have hzb := blk_new w ((.cells #[.int .i64 0, .int .i64 0, .slice none 0 0, .string ⟨#[]⟩] 41))
  have z0 := blk_cell hzb 0 (.int .i64 0) rfl
  have z1 := blk_cell hzb 1 (.int .i64 0) rfl
  have z2 := blk_cell hzb 2 (.slice none 0 0) rfl
  have z3 := blk_cell hzb 3 (.string ⟨#[]⟩) rfl
  have y0 := frozen_of_row _ _ 0 _ _ hzb
  have y1 := frozen_of_row _ _ 1 _ _ hzb
  have y2 := frozen_of_row _ _ 2 _ _ hzb
  have y3 := frozen_of_row _ _ 3 _ _ hzb
  have HZB := Lib.hid hzb
  clear hzb
  by_cases h0 : a < 0
  · clear h
    go_enter Try.func30, Try.ntmps30
    go_wp2
    have hzz := zero4 HZB.out
    have t0 := blk_cell hzz 0 (.int .i64 0) rfl
    have t1 := blk_cell hzz 1 (.int .i64 0) rfl
    have t2 := blk_cell hzz 2 (.slice none 0 0) rfl
    have t3 := blk_cell hzz 3 (.string ⟨#[]⟩) rfl
    refine bodyPost_ret (v := .tuple #[(.agg #[.int .i64 0, .int .i64 0, .slice none 0 0, .string ⟨#[]⟩]), .int .i64 0, .int .i64 1]) (by simp [results, Try.results30, go_sem, t0, t1, t2, t3]) rfl ⟨_, rfl, evAt_zero _, ?_⟩
    exact (Ext.refl w).alloc _
  · have h1 : (s.size : Int) < a := by omega
    clear h
    go_enter Try.func30, Try.ntmps30
    go_wp2
    have hzz := zero4 HZB.out
    have t0 := blk_cell hzz 0 (.int .i64 0) rfl
    have t1 := blk_cell hzz 1 (.int .i64 0) rfl
    have t2 := blk_cell hzz 2 (.slice none 0 0) rfl
    have t3 := blk_cell hzz 3 (.string ⟨#[]⟩) rfl
    refine bodyPost_ret (v := .tuple #[(.agg #[.int .i64 0, .int .i64 0, .slice none 0 0, .string ⟨#[]⟩]), .int .i64 0, .int .i64 1]) (by simp [results, Try.results30, go_sem, t0, t1, t2, t3]) rfl ⟨_, rfl, evAt_zero _, ?_⟩
    exact (Ext.refl w).alloc _

theorem extract_drop (s : ByteArray) (a : Nat) : (s.extract a s.size).data.toList = s.data.toList.drop a := by
  rw [Lib.extract_data]
  apply List.take_of_length_le
  simp
theorem Wi.byte_nil {s : ByteArray} (h : s.data.toList = []) : Wi.byte s 0 0 = (0, 0, 10) := by
  have : s = ⟨#[]⟩ := by apply ByteArray.ext; apply Array.toList_inj.1; rw [h]
  subst this; rfl
set_option maxRecDepth 100000 in
set_option maxHeartbeats 1000000 in
theorem decode_short (s : ByteArray) (a : Nat) (w : World) (hs : s.size ≤ maxLen) (h : a ≤ s.size) (hnil : s.data.toList.drop a = []) :
    Calls Try.prog 30 #[.string s, .int .i64 a] w (DecPost (Ev.zero, 0, 10) w) := by
  unfold maxLen at hs
  have hd0 : decide ((a : Int) < 0) = false := by simp
  have hd1 : decide (s.size < a) = false := by simpa using h
  have hzw := blk_new w ((.cells #[.int .i64 0, .int .i64 0, .slice none 0 0, .string ⟨#[]⟩] 41))
  have HZW := Lib.hid hzw
  clear hzw
  have HS : Hid ((s.extract a s.size).size ≤ maxLen) := Lib.hid (by simp [maxLen]; omega)
  have HB := Lib.hid (Wi.byte_nil (s := s.extract a s.size) (by rw [extract_drop, hnil]))
  clear hnil
  go_enter Try.func30, Try.ntmps30
  go_wp2_with fail
  refine (new_any _ _).mono ?_
  rintro r w1 ⟨rfl, hr1, hx1⟩
  have hgz : w.heap.size + 1 ≤ (w.alloc ((.cells #[.int .i64 0, .int .i64 0, .slice none 0 0, .string ⟨#[]⟩] 41))).heap.size := by simp
  have HX1 : Hid (Ext w w1) := Lib.hid (((Ext.refl w).alloc _).trans hx1)
  have HZ1 := Lib.hid (hx1.blk HZW.out)
  clear hx1 HZW
  generalize s.extract a s.size = t at *
  generalize (w.alloc ((.cells #[.int .i64 0, .int .i64 0, .slice none 0 0, .string ⟨#[]⟩] 41))).heap.size = g at *
  have HR1 := Lib.hid hr1
  clear hr1
  go_wp2_with fail
  refine (byte_eq 0 HR1.out HS.out (by omega) (by simp) HB.out).mono ?_
  rintro r w2 ⟨rfl, hr2, hu2⟩
  have HU2 := Lib.hid hu2
  clear hu2
  go_wp2_with fail
  refine (err_ne hr2 (by omega)).mono ?_
  rintro r w3 ⟨rfl, hr3, hu3⟩
  have hzb := hu3.blk (HU2.out.blk HZ1.out (by omega)) (by omega)
  have HX3 : Hid (Ext w w3) := Lib.hid ((HX1.out.upd HU2.out (by omega)).upd hu3 (by omega))
  clear hr2 hr3 hu3 HU2
  have z0 := blk_cell hzb 0 (.int .i64 0) rfl
  have z1 := blk_cell hzb 1 (.int .i64 0) rfl
  have z2 := blk_cell hzb 2 (.slice none 0 0) rfl
  have z3 := blk_cell hzb 3 (.string ⟨#[]⟩) rfl
  have y0 := frozen_of_row _ _ 0 _ _ hzb
  have y1 := frozen_of_row _ _ 1 _ _ hzb
  have y2 := frozen_of_row _ _ 2 _ _ hzb
  have y3 := frozen_of_row _ _ 3 _ _ hzb
  have HZB := Lib.hid hzb
  clear hzb
  go_wp2
  have hzz := zero4 HZB.out
  have t0 := blk_cell hzz 0 (.int .i64 0) rfl
  have t1 := blk_cell hzz 1 (.int .i64 0) rfl
  have t2 := blk_cell hzz 2 (.slice none 0 0) rfl
  have t3 := blk_cell hzz 3 (.string ⟨#[]⟩) rfl
  refine bodyPost_ret (v := .tuple #[(.agg #[.int .i64 0, .int .i64 0, .slice none 0 0, .string ⟨#[]⟩]), .int .i64 0, .int .i64 10]) (by simp [results, Try.results30, go_sem, t0, t1, t2, t3]) rfl ⟨_, rfl, evAt_zero _, ?_⟩
  exact HX3.out.set4 _ _ _ _

theorem Wi.byte_cons {s : ByteArray} {c : UInt8} {T : List UInt8} (h : s.data.toList = c :: T) : Wi.byte s 0 0 = ((c.toNat : Int), 1, 0) ∧ 1 ≤ s.size := by
  have hsz : s.size = T.length + 1 := by
    have : s.size = s.data.toList.length := by simp
    rw [this, h]; rfl
  have hb := Wi.byte_in s 0 (by omega)
  have h0 : s[0] = c := by
    have : s.data.toList[0]? = some c := by rw [h]; rfl
    rw [Array.getElem?_toList, Array.getElem?_eq_getElem (by simpa using (by omega : 0 < s.size))] at this
    injection this
  rw [h0] at hb
  exact ⟨hb, by omega⟩
set_option maxRecDepth 100000 in
set_option maxHeartbeats 1000000 in
theorem decode_kind (s : ByteArray) (a : Nat) (w : World) (hs : s.size ≤ maxLen) (h : a ≤ s.size) (c : UInt8) (T : List UInt8) (hc : s.data.toList.drop a = c :: T) (hk : Ki.known c.toNat = false) (hx : Ki.exp c.toNat = false) :
    Calls Try.prog 30 #[.string s, .int .i64 a] w (DecPost (Ev.zero, 0, 30) w) := by
  unfold maxLen at hs
  have hd0 : decide ((a : Int) < 0) = false := by simp
  have hd1 : decide (s.size < a) = false := by simpa using h
  have hzw := blk_new w ((.cells #[.int .i64 0, .int .i64 0, .slice none 0 0, .string ⟨#[]⟩] 41))
  have HZW := Lib.hid hzw
  clear hzw
  have HS : Hid ((s.extract a s.size).size ≤ maxLen) := Lib.hid (by simp [maxLen]; omega)
  obtain ⟨hb, hsz⟩ := Wi.byte_cons (s := s.extract a s.size) (c := c) (T := T) (by rw [extract_drop, hc])
  have HB := Lib.hid hb
  have HSZ := Lib.hid hsz
  have HK := Lib.hid hk
  have HX := Lib.hid hx
  clear hc hb hk hx hsz
  go_enter Try.func30, Try.ntmps30
  go_wp2_with fail
  refine (new_any _ _).mono ?_
  rintro r w1 ⟨rfl, hr1, hx1⟩
  have hgz : w.heap.size + 1 ≤ (w.alloc ((.cells #[.int .i64 0, .int .i64 0, .slice none 0 0, .string ⟨#[]⟩] 41))).heap.size := by simp
  have HX1 : Hid (Ext w w1) := Lib.hid (((Ext.refl w).alloc _).trans hx1)
  have HZ1 := Lib.hid (hx1.blk HZW.out)
  clear hx1 HZW
  generalize s.extract a s.size = t at *
  generalize (w.alloc ((.cells #[.int .i64 0, .int .i64 0, .slice none 0 0, .string ⟨#[]⟩] 41))).heap.size = g at *
  have HR1 := Lib.hid hr1
  clear hr1
  go_wp2_with fail
  refine (byte_eq _ HR1.out HS.out (by omega) (by simp) HB.out).mono ?_
  rintro r w2 ⟨rfl, hr2, hu2⟩
  generalize (c.toNat : Int) = k at *
  have HU2 := Lib.hid hu2
  clear hu2
  go_wp2_with fail
  refine (err_ok _ _ _ _ hr2).mono ?_
  rintro r w3 ⟨rfl, rfl⟩
  go_wp2_with fail
  refine (known_eq k false HK.out _).mono ?_
  rintro r w3 ⟨rfl, rfl⟩
  go_wp2_with fail
  refine (exp_eq k false HX.out _).mono ?_
  rintro r w3 ⟨rfl, rfl⟩
  have hzb := HU2.out.blk HZ1.out (by omega)
  have HX3 : Hid (Ext w w2) := Lib.hid (HX1.out.upd HU2.out (by omega))
  clear hr2 HU2
  have z0 := blk_cell hzb 0 (.int .i64 0) rfl
  have z1 := blk_cell hzb 1 (.int .i64 0) rfl
  have z2 := blk_cell hzb 2 (.slice none 0 0) rfl
  have z3 := blk_cell hzb 3 (.string ⟨#[]⟩) rfl
  have y0 := frozen_of_row _ _ 0 _ _ hzb
  have y1 := frozen_of_row _ _ 1 _ _ hzb
  have y2 := frozen_of_row _ _ 2 _ _ hzb
  have y3 := frozen_of_row _ _ 3 _ _ hzb
  have HZB := Lib.hid hzb
  clear hzb
  go_wp2
  have hzz := zero4 HZB.out
  have t0 := blk_cell hzz 0 (.int .i64 0) rfl
  have t1 := blk_cell hzz 1 (.int .i64 0) rfl
  have t2 := blk_cell hzz 2 (.slice none 0 0) rfl
  have t3 := blk_cell hzz 3 (.string ⟨#[]⟩) rfl
  refine bodyPost_ret (v := .tuple #[(.agg #[.int .i64 0, .int .i64 0, .slice none 0 0, .string ⟨#[]⟩]), .int .i64 0, .int .i64 30]) (by simp [results, Try.results30, go_sem, t0, t1, t2, t3]) rfl ⟨_, rfl, evAt_zero _, ?_⟩
  exact HX3.out.set4 _ _ _ _

end Go.Proofs.Ytlbhpgieehallaa
