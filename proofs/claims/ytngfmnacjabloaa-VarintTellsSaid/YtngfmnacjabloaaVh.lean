/-
  The walk of the statement VarintBack: for every two numbers and every text it returns true, and leaves what was there as it was.
-/
import Derived.Test.YtngfmnacjabloaaVd
import Derived.Test.YtngfmnacjabloaaRg
import Derived.Lib.Strings
namespace Go.Proofs.Ytngfmnacjabloaa
open Go.RowKit

theorem take_num (t : ByteArray) (a n : Int) (r : List UInt8) (w : World) (h0 : 0 ≤ a) (hn0 : 0 ≤ n) (hn1 : n < 4611686018427387904) (h : t.data.toList.drop a.toNat = Va.put n.toNat ++ r) (hs : t.size ≤ maxLen) (ha : a.toNat ≤ t.size) :
    Calls Try.prog 9 #[.string t, .int .i64 a] w fun e w' => e = .returned (.tuple #[.int .i64 n, .int .i64 (a + (Va.puts n.toNat).size), .int .i64 0]) ∧ w = w' := by
  have := take_good_int t a n.toNat (Va.puts n.toNat).size w h0 (by rw [h, Va.take_put _ _ (by unfold Va.most; omega), Va.puts_size]) hs ha
  rw [Int.toNat_of_nonneg hn0] at this
  exact this

theorem Va.puts_ne (n : Nat) : (Va.puts n).toList.isEmpty = false := by
  rw [ByteArray.toList_eq, Va.puts_list]
  have := Va.put_len_pos n
  cases h : Va.put n with
  | nil => rw [h] at this; simp at this
  | cons a b => rfl
theorem Va.puts_nn (n : Nat) : ¬ (Va.puts n).toList = [] := by
  intro h
  have := Va.puts_ne n
  rw [h] at this
  simp at this
theorem Va.puts_nine {n : Int} (h0 : 0 ≤ n) (h1 : n < 4611686018427387904) : (Va.puts n.toNat).size ≤ 9 := by
  rw [Va.puts_size]; exact Va.put_len_most (by unfold Va.most; omega)
theorem Va.drop1 (s : ByteArray) (n m : Nat) : (s ++ Va.puts n ++ Va.puts m).data.toList.drop (s.size : Int).toNat = Va.put n ++ Va.put m := by
  rw [Int.toNat_natCast, ByteArray.data_append, ByteArray.data_append, Array.toList_append, Array.toList_append, Va.puts_list, Va.puts_list, List.append_assoc,
    show s.size = s.data.toList.length by simp, List.drop_left]
theorem Va.drop2 (s : ByteArray) (n m : Nat) : (s ++ Va.puts n ++ Va.puts m).data.toList.drop ((s.size : Int) + ((Va.puts n).size : Int)).toNat = Va.put m ++ [] := by
  have e : ((s.size : Int) + ((Va.puts n).size : Int)).toNat = (s ++ Va.puts n).data.toList.length := by simp; omega
  rw [e]
  clear e
  generalize s ++ Va.puts n = A
  rw [ByteArray.data_append, Array.toList_append, Va.puts_list, List.append_nil]
  exact List.drop_left
theorem Va.begins {n m : Int} (hn0 : 0 ≤ n) (hn1 : n < 4611686018427387904) (hm0 : 0 ≤ m) (hm1 : m < 4611686018427387904) (hne : ¬ n = m) :
    (((Va.puts m.toNat).extract 0 (Va.puts n.toNat).size).toList == (Va.puts n.toNat).toList) = false := by
  rw [beq_eq_false_iff_ne]
  intro hx
  rw [ByteArray.toList_eq, ByteArray.toList_eq, Lib.extract_data, Va.puts_list, Va.puts_list, Va.puts_size, Nat.sub_zero, List.drop_zero] at hx
  have h1 : Va.put n.toNat ++ (Va.put m.toNat).drop (Va.put n.toNat).length = Va.put m.toNat ++ [] := by
    conv => lhs; lhs; rw [← hx]
    rw [List.take_append_drop, List.append_nil]
  have := Va.put_inj (by unfold Va.most; omega) (by unfold Va.most; omega) h1
  omega
theorem Va.begins_self (n : Nat) : (((Va.puts n).extract 0 (Va.puts n).size).toList == (Va.puts n).toList) = true := by
  rw [show (Va.puts n).extract 0 (Va.puts n).size = Va.puts n by simp]; exact beq_self_eq_true _

set_option maxRecDepth 100000 in
set_option maxHeartbeats 4000000 in
theorem vback_out (n m : Int) (s : ByteArray) (hs : s.size ≤ maxLen) (w : World) (h : 10000 < s.size) :
    Calls Try.prog 4 #[.int .i64 n, .int .i64 m, .string s] w fun e w' => e = .returned (.bool true) ∧ Ext w w' := by
  unfold maxLen at hs
  go_enter Try.func4, Try.ntmps4
  go_wp2_with (go_at_call 8; refine (fixed_yes _).mono ?_; rintro e w1 ⟨rfl, hb1⟩)
  all_goals (go_ret; exact ⟨rfl, (by repeat (first | exact Ext.refl _ | assumption | refine Ext.trans (by assumption) ?_))⟩)

set_option maxRecDepth 100000 in
set_option maxHeartbeats 4000000 in
theorem vback_ok (n m : Int) (s : ByteArray) (w : World) (h : s.size ≤ 10000) (a k : Nat) (hk0 : 1 ≤ k) (hk1 : k ≤ s.size) (hput : Va.puts a = s.extract 0 k) (ha : a < Va.most) (ht : Va.take (s.data.toList.drop 0) = (a, k, 0)) (hcs : Hid ((0 ≤ n ∧ n < 4611686018427387904 ∧ n = m) ∨ (0 ≤ n ∧ n < 4611686018427387904 ∧ 0 ≤ m ∧ m < 4611686018427387904 ∧ (n == m) = false ∧ (Va.puts n.toNat).size ≤ (Va.puts m.toNat).size ∧ (((Va.puts m.toNat).extract 0 (Va.puts n.toNat).size).toList == (Va.puts n.toNat).toList) = false) ∨ (0 ≤ n ∧ n < 4611686018427387904 ∧ 0 ≤ m ∧ m < 4611686018427387904 ∧ (n == m) = false ∧ (Va.puts m.toNat).size < (Va.puts n.toNat).size) ∨ n < 0 ∨ 4611686018427387904 ≤ n ∨ (0 ≤ n ∧ n < 4611686018427387904 ∧ m < 0) ∨ (0 ≤ n ∧ n < 4611686018427387904 ∧ 4611686018427387904 ≤ m))) :
    Calls Try.prog 4 #[.int .i64 n, .int .i64 m, .string s] w fun e w' => e = .returned (.bool true) ∧ Ext w w' := by
  have HT := Lib.hid ht; clear ht
  have hd1 : decide ((k : Int) < 1) = false := by simp; omega
  have hd2 : decide (s.size < k) = false := by simp; omega
  have hne : ((Va.puts a).toList == (s.extract 0 k).toList) = true := by rw [hput]; exact beq_self_eq_true _
  clear hput
  have HA := Lib.hid ha; clear ha
  go_enter Try.func4, Try.ntmps4
  go_wp2_with fail
  refine (fixed_yes _).mono ?_
  rintro e w1 ⟨rfl, hb1⟩
  go_wp2_with fail
  refine (take_good_int s 0 a k _ (by omega) HT.out (by unfold maxLen; omega) (by simp)).mono ?_
  rintro e w2 ⟨rfl, rfl⟩
  go_wp2_with fail
  refine region_all (fun v => Ext w1 v) (by kernel_rfl) (Ext.drew (Ext.refl _)) ?_
  refine all_take (i := 0) (v := ?_) rfl (by kernel_rfl) (by kernel_rfl) (by kernel_rfl) (fun _ _ _ h => h) (Tame.yes (by kernel_rfl) fun w hS => ?_) ?_
  rotate_left 1
  · go_simp
    refine gives_mk ?_ hS
    with_reducible rfl
  refine all_take (i := 1) (v := ?_) rfl (by kernel_rfl) (by kernel_rfl) (by kernel_rfl) (fun _ _ _ h => h) (Tame.yes (by kernel_rfl) fun w hS => ?_) ?_
  rotate_left 1
  · go_simp
    refine gives_mk ?_ hS
    with_reducible rfl
  refine all_take (i := 2) (v := ?_) rfl (by kernel_rfl) (by kernel_rfl) (by kernel_rfl) (fun _ _ _ h => h) (Tame.yes (by kernel_rfl) fun w hS => ?_) ?_
  rotate_left 1
  · go_simp
    refine gives_mk ?_ hS
    with_reducible rfl
  refine all_take (i := 3) (v := ?_) rfl (by kernel_rfl) (by kernel_rfl) (by kernel_rfl) (fun _ _ _ h => h) (Tame.yes (by kernel_rfl) fun w hS => ?_) ?_
  rotate_left 1
  · go_simp
    refine gives_mk ?_ hS
    with_reducible rfl
  refine all_take (i := 4) (v := ?_) rfl (by kernel_rfl) (by kernel_rfl) (by kernel_rfl) (fun _ _ _ h => h) (Tame.yes (by kernel_rfl) fun w hS => ?_) ?_
  rotate_left 1
  · go_simp
    try simp only [hd1, hd2]
    refine gives_mk ?_ hS
    with_reducible rfl
  refine all_take (i := 5) (v := ?_) rfl (by kernel_rfl) (by kernel_rfl) (by kernel_rfl) (fun _ _ _ h => h) (Tame.yes (by kernel_rfl) fun w hS => ?_) ?_
  rotate_left 1
  · go_simp
    try simp only [hd1, hd2]
    refine gives_mk ?_ hS
    with_reducible rfl
  refine all_take (i := 6) (v := ?_) rfl (by kernel_rfl) (by kernel_rfl) (by kernel_rfl) (fun _ _ _ h => h) (Tame.yes (by kernel_rfl) fun w hS => ?_) ?_
  rotate_left 1
  · go_simp
    try simp only [hd1, hd2]
    refine gives_mk ?_ hS
    with_reducible rfl
  refine all_take (i := 7) (v := ?_) rfl (by kernel_rfl) (by kernel_rfl) (by kernel_rfl) (fun _ _ _ h => h) (Tame.yes (by kernel_rfl) fun w hS => ?_) ?_
  rotate_left 1
  · go_simp
    try simp only [hd1, hd2]
    refine gives_mk ?_ hS
    with_reducible rfl
  refine all_take (i := 8) (v := ?_) rfl (by kernel_rfl) (by kernel_rfl) (by kernel_rfl) (fun _ _ _ h => h) (Tame.yes (by kernel_rfl) fun w hS => ?_) ?_
  rotate_left 1
  · go_simp
    try simp only [hd1, hd2]
    refine gives_mk ?_ hS
    with_reducible rfl
  refine all_take (i := 9) (v := ?_) rfl (by kernel_rfl) (by kernel_rfl) (by kernel_rfl) (fun _ _ _ h => h) (Tame.yes (by kernel_rfl) fun w hS => ?_) ?_
  rotate_left 1
  · go_simp
    try simp only [hd1, hd2]
    refine gives_mk ?_ hS
    with_reducible rfl
  refine all_take (i := 10) (v := ?_) rfl (by kernel_rfl) (by kernel_rfl) (by kernel_rfl) (fun _ _ _ h => h) (Tame.yes (by kernel_rfl) fun w hS => ?_) ?_
  rotate_left 1
  · go_simp
    try simp only [hd1, hd2]
    refine gives_mk ?_ hS
    with_reducible rfl
  refine all_take (i := 11) (v := ?_) rfl (by kernel_rfl) (by kernel_rfl) (by kernel_rfl) (fun _ _ _ h => h) (Tame.yes (by kernel_rfl) fun w hS => ?_) ?_
  rotate_left 1
  · go_simp
    try simp only [hd1, hd2]
    refine gives_mk ?_ hS
    with_reducible rfl
  refine all_take (i := 12) (v := ?_) rfl (by kernel_rfl) (by kernel_rfl) (by kernel_rfl) (fun _ _ _ h => h) (Tame.yes (by kernel_rfl) fun w hS => ?_) ?_
  rotate_left 1
  · go_simp
    try simp only [hd1, hd2]
    refine gives_mk ?_ hS
    with_reducible rfl
  refine all_take (i := 13) (v := .string (Va.puts a)) rfl (by kernel_rfl) (by kernel_rfl) (by kernel_rfl) (fun _ _ _ h => h) (Tame.yes (by kernel_rfl) fun w hS => ?_) ?_
  · go_simp
    refine gives_call ((put_str _ _ (by omega) (Va.most_int HA.out)).mono ?_)
    exact fun e w2 ⟨he, hx⟩ => ⟨he, hS.trans hx⟩
  refine all_take (i := 14) (v := ?_) rfl (by kernel_rfl) (by kernel_rfl) (by kernel_rfl) (fun _ _ _ h => h) (Tame.yes (by kernel_rfl) fun w hS => ?_) ?_
  rotate_left 1
  · go_simp
    refine gives_mk ?_ hS
    with_reducible rfl
  refine all_take (i := 15) (v := ?_) rfl (by kernel_rfl) (by kernel_rfl) (by kernel_rfl) (fun _ _ _ h => h) (Tame.yes (by kernel_rfl) fun w hS => ?_) ?_
  rotate_left 1
  · go_simp
    refine gives_mk ?_ hS
    with_reducible rfl
  refine all_take (i := 16) (v := ?_) rfl (by kernel_rfl) (by kernel_rfl) (by kernel_rfl) (fun _ _ _ h => h) (Tame.yes (by kernel_rfl) fun w hS => ?_) ?_
  rotate_left 1
  · go_simp
    refine gives_mk ?_ hS
    with_reducible rfl
  refine all_take (i := 17) (v := ?_) rfl (by kernel_rfl) (by kernel_rfl) (by kernel_rfl) (fun _ _ _ h => h) (Tame.yes (by kernel_rfl) fun w hS => ?_) ?_
  rotate_left 1
  · go_simp
    try simp only [hne]
    refine gives_mk ?_ hS
    with_reducible rfl
  refine all_take (i := 18) (v := ?_) rfl (by kernel_rfl) (by kernel_rfl) (by kernel_rfl) (fun _ _ _ h => h) (Tame.yes (by kernel_rfl) fun w hS => ?_) ?_
  rotate_left 1
  · go_simp
    try simp only [hne]
    refine gives_mk ?_ hS
    with_reducible rfl
  refine all_take (i := 19) (v := ?_) rfl (by kernel_rfl) (by kernel_rfl) (by kernel_rfl) (fun _ _ _ h => h) (Tame.yes (by kernel_rfl) fun w hS => ?_) ?_
  rotate_left 1
  · go_simp
    try simp only [hne]
    refine gives_mk ?_ hS
    with_reducible rfl
  refine all_done ?_ ?_ _
  · kernel_rfl
  intro w2 hb2
  go_simp
  clear hne hd1 hd2
  rcases hcs.out with ⟨hn0, hn1, rfl⟩ | ⟨hn0, hn1, hm0, hm1, hnm, hl, hq⟩ | ⟨hn0, hn1, hm0, hm1, hnm, hl⟩ | hn | hn | ⟨hn0, hn1, hm⟩ | ⟨hn0, hn1, hm⟩
  · have hq := Va.begins_self n.toNat
    have hz1 := Va.puts_nine hn0 hn1
    have he1 := Va.puts_ne n.toNat
    have he3 := Va.puts_nn n.toNat
    have HZ : Hid ((s ++ Va.puts n.toNat ++ Va.puts n.toNat).size = s.size + (Va.puts n.toNat).size + (Va.puts n.toNat).size) := Lib.hid (by simp)
    go_wp2_with fail
    refine (put_str n _ (by omega) (by omega)).mono ?_
    rintro e w3 ⟨rfl, hb3⟩
    go_wp2_with fail
    refine (put_str n _ (by omega) (by omega)).mono ?_
    rintro e w4 ⟨rfl, hb4⟩
    go_wp2_with fail
    refine (take_num _ _ n (Va.put n.toNat) _ (by omega) (by omega) (by omega) (Va.drop1 _ _ _) (by unfold maxLen; rw [HZ.out]; omega) (by rw [HZ.out]; omega)).mono ?_
    rintro e w3 ⟨rfl, rfl⟩
    go_wp2_with fail
    refine (take_num _ _ n [] _ (by omega) (by omega) (by omega) (Va.drop2 _ _ _) (by unfold maxLen; rw [HZ.out]; omega) (by rw [HZ.out]; omega)).mono ?_
    rintro e w3 ⟨rfl, rfl⟩
    go_wp2_with fail
    go_ret
    exact ⟨rfl, (by repeat (first | exact Ext.refl _ | assumption | refine Ext.trans (by assumption) ?_))⟩
  · clear hcs
    have hz1 := Va.puts_nine hn0 hn1
    have he1 := Va.puts_ne n.toNat
    have he3 := Va.puts_nn n.toNat
    have hz2 := Va.puts_nine hm0 hm1
    have he2 := Va.puts_ne m.toNat
    have HZ : Hid ((s ++ Va.puts n.toNat ++ Va.puts m.toNat).size = s.size + (Va.puts n.toNat).size + (Va.puts m.toNat).size) := Lib.hid (by simp)
    go_wp2_with fail
    refine (put_str n _ (by omega) (by omega)).mono ?_
    rintro e w3 ⟨rfl, hb3⟩
    go_wp2_with fail
    refine (put_str m _ (by omega) (by omega)).mono ?_
    rintro e w4 ⟨rfl, hb4⟩
    go_wp2_with fail
    refine (take_num _ _ n (Va.put m.toNat) _ (by omega) (by omega) (by omega) (Va.drop1 _ _ _) (by unfold maxLen; rw [HZ.out]; omega) (by rw [HZ.out]; omega)).mono ?_
    rintro e w3 ⟨rfl, rfl⟩
    go_wp2_with fail
    refine (take_num _ _ m [] _ (by omega) (by omega) (by omega) (Va.drop2 _ _ _) (by unfold maxLen; rw [HZ.out]; omega) (by rw [HZ.out]; omega)).mono ?_
    rintro e w3 ⟨rfl, rfl⟩
    go_wp2_with fail
    go_ret
    exact ⟨rfl, (by repeat (first | exact Ext.refl _ | assumption | refine Ext.trans (by assumption) ?_))⟩
  · clear hcs
    have hz1 := Va.puts_nine hn0 hn1
    have he1 := Va.puts_ne n.toNat
    have he3 := Va.puts_nn n.toNat
    have hz2 := Va.puts_nine hm0 hm1
    have he2 := Va.puts_ne m.toNat
    have HZ : Hid ((s ++ Va.puts n.toNat ++ Va.puts m.toNat).size = s.size + (Va.puts n.toNat).size + (Va.puts m.toNat).size) := Lib.hid (by simp)
    go_wp2_with fail
    refine (put_str n _ (by omega) (by omega)).mono ?_
    rintro e w3 ⟨rfl, hb3⟩
    go_wp2_with fail
    refine (put_str m _ (by omega) (by omega)).mono ?_
    rintro e w4 ⟨rfl, hb4⟩
    go_wp2_with fail
    refine (take_num _ _ n (Va.put m.toNat) _ (by omega) (by omega) (by omega) (Va.drop1 _ _ _) (by unfold maxLen; rw [HZ.out]; omega) (by rw [HZ.out]; omega)).mono ?_
    rintro e w3 ⟨rfl, rfl⟩
    go_wp2_with fail
    refine (take_num _ _ m [] _ (by omega) (by omega) (by omega) (Va.drop2 _ _ _) (by unfold maxLen; rw [HZ.out]; omega) (by rw [HZ.out]; omega)).mono ?_
    rintro e w3 ⟨rfl, rfl⟩
    go_wp2_with fail
    go_ret
    exact ⟨rfl, (by repeat (first | exact Ext.refl _ | assumption | refine Ext.trans (by assumption) ?_))⟩
  · have hpn := fun w => put_no n w (by omega)
    have HPN := Lib.hid hpn; clear hpn hcs
    go_wp2_with fail
    refine (HPN.out _).mono ?_
    rintro e w3 ⟨rfl, rfl⟩
    by_cases hm : 0 ≤ m ∧ m < 4611686018427387904
    · obtain ⟨hm0, hm1⟩ := hm
      have he2 := Va.puts_ne m.toNat
      have he4 := Va.puts_nn m.toNat
      go_wp2_with fail
      refine (put_str m _ (by omega) (by omega)).mono ?_
      rintro e w4 ⟨rfl, hb4⟩
      go_wp2_with fail
      go_ret
      exact ⟨rfl, (by repeat (first | exact Ext.refl _ | assumption | refine Ext.trans (by assumption) ?_))⟩
    · rcases (by omega : m < 0 ∨ 4611686018427387904 ≤ m) with hm' | hm'
      all_goals
        clear hm
        go_wp2_with fail
        refine (put_no m _ (by omega)).mono ?_
        rintro e w4 ⟨rfl, rfl⟩
        go_wp2_with fail
        go_ret
        exact ⟨rfl, (by repeat (first | exact Ext.refl _ | assumption | refine Ext.trans (by assumption) ?_))⟩
  · have hpn := fun w => put_no n w (by omega)
    have HPN := Lib.hid hpn; clear hpn hcs
    go_wp2_with fail
    refine (HPN.out _).mono ?_
    rintro e w3 ⟨rfl, rfl⟩
    by_cases hm : 0 ≤ m ∧ m < 4611686018427387904
    · obtain ⟨hm0, hm1⟩ := hm
      have he2 := Va.puts_ne m.toNat
      have he4 := Va.puts_nn m.toNat
      go_wp2_with fail
      refine (put_str m _ (by omega) (by omega)).mono ?_
      rintro e w4 ⟨rfl, hb4⟩
      go_wp2_with fail
      go_ret
      exact ⟨rfl, (by repeat (first | exact Ext.refl _ | assumption | refine Ext.trans (by assumption) ?_))⟩
    · rcases (by omega : m < 0 ∨ 4611686018427387904 ≤ m) with hm' | hm'
      all_goals
        clear hm
        go_wp2_with fail
        refine (put_no m _ (by omega)).mono ?_
        rintro e w4 ⟨rfl, rfl⟩
        go_wp2_with fail
        go_ret
        exact ⟨rfl, (by repeat (first | exact Ext.refl _ | assumption | refine Ext.trans (by assumption) ?_))⟩
  · clear hcs
    have hz1 := Va.puts_nine hn0 hn1
    have he1 := Va.puts_ne n.toNat
    have he3 := Va.puts_nn n.toNat
    go_wp2_with fail
    refine (put_str n _ (by omega) (by omega)).mono ?_
    rintro e w3 ⟨rfl, hb3⟩
    go_wp2_with fail
    refine (put_no m _ (by omega)).mono ?_
    rintro e w4 ⟨rfl, rfl⟩
    go_wp2_with fail
    go_ret
    exact ⟨rfl, (by repeat (first | exact Ext.refl _ | assumption | refine Ext.trans (by assumption) ?_))⟩
  · clear hcs
    have hz1 := Va.puts_nine hn0 hn1
    have he1 := Va.puts_ne n.toNat
    have he3 := Va.puts_nn n.toNat
    go_wp2_with fail
    refine (put_str n _ (by omega) (by omega)).mono ?_
    rintro e w3 ⟨rfl, hb3⟩
    go_wp2_with fail
    refine (put_no m _ (by omega)).mono ?_
    rintro e w4 ⟨rfl, rfl⟩
    go_wp2_with fail
    go_ret
    exact ⟨rfl, (by repeat (first | exact Ext.refl _ | assumption | refine Ext.trans (by assumption) ?_))⟩

set_option maxRecDepth 100000 in
set_option maxHeartbeats 4000000 in
theorem vback_bad (n m : Int) (s : ByteArray) (w : World) (h : s.size ≤ 10000) (c : Nat) (hc : 0 < c) (ht : Va.take (s.data.toList.drop 0) = (0, 0, c)) (hcs : Hid ((0 ≤ n ∧ n < 4611686018427387904 ∧ n = m) ∨ (0 ≤ n ∧ n < 4611686018427387904 ∧ 0 ≤ m ∧ m < 4611686018427387904 ∧ (n == m) = false ∧ (Va.puts n.toNat).size ≤ (Va.puts m.toNat).size ∧ (((Va.puts m.toNat).extract 0 (Va.puts n.toNat).size).toList == (Va.puts n.toNat).toList) = false) ∨ (0 ≤ n ∧ n < 4611686018427387904 ∧ 0 ≤ m ∧ m < 4611686018427387904 ∧ (n == m) = false ∧ (Va.puts m.toNat).size < (Va.puts n.toNat).size) ∨ n < 0 ∨ 4611686018427387904 ≤ n ∨ (0 ≤ n ∧ n < 4611686018427387904 ∧ m < 0) ∨ (0 ≤ n ∧ n < 4611686018427387904 ∧ 4611686018427387904 ≤ m))) :
    Calls Try.prog 4 #[.int .i64 n, .int .i64 m, .string s] w fun e w' => e = .returned (.bool true) ∧ Ext w w' := by
  have HT := Lib.hid ht; clear ht
  have hcz : ((c : Int) == 0) = false := by simp; omega
  go_enter Try.func4, Try.ntmps4
  go_wp2_with fail
  refine (fixed_yes _).mono ?_
  rintro e w1 ⟨rfl, hb1⟩
  go_wp2_with fail
  refine (take_bad_int s 0 c _ (by omega) HT.out (by omega) (by unfold maxLen; omega) (by simp)).mono ?_
  rintro e w2 ⟨rfl, rfl⟩
  go_wp2_with fail
  refine region_all (fun v => Ext w1 v) (by kernel_rfl) (Ext.drew (Ext.refl _)) ?_
  refine all_take (i := 0) (v := ?_) rfl (by kernel_rfl) (by kernel_rfl) (by kernel_rfl) (fun _ _ _ h => h) (Tame.yes (by kernel_rfl) fun w hS => ?_) ?_
  rotate_left 1
  · go_simp
    try simp only [hcz]
    refine gives_mk ?_ hS
    with_reducible rfl
  refine all_take (i := 1) (v := ?_) rfl (by kernel_rfl) (by kernel_rfl) (by kernel_rfl) (fun _ _ _ h => h) (Tame.yes (by kernel_rfl) fun w hS => ?_) ?_
  rotate_left 1
  · go_simp
    try simp only [hcz]
    refine gives_mk ?_ hS
    with_reducible rfl
  refine all_take (i := 2) (v := ?_) rfl (by kernel_rfl) (by kernel_rfl) (by kernel_rfl) (fun _ _ _ h => h) (Tame.yes (by kernel_rfl) fun w hS => ?_) ?_
  rotate_left 1
  · go_simp
    try simp only [hcz]
    refine gives_mk ?_ hS
    with_reducible rfl
  refine all_take (i := 3) rfl (by kernel_rfl) (by kernel_rfl) (by kernel_rfl) (fun _ _ _ h => h) (Tame.no (by kernel_rfl)) ?_
  refine all_take (i := 4) rfl (by kernel_rfl) (by kernel_rfl) (by kernel_rfl) (fun _ _ _ h => h) (Tame.no (by kernel_rfl)) ?_
  refine all_take (i := 5) rfl (by kernel_rfl) (by kernel_rfl) (by kernel_rfl) (fun _ _ _ h => h) (Tame.no (by kernel_rfl)) ?_
  refine all_take (i := 6) rfl (by kernel_rfl) (by kernel_rfl) (by kernel_rfl) (fun _ _ _ h => h) (Tame.no (by kernel_rfl)) ?_
  refine all_take (i := 7) rfl (by kernel_rfl) (by kernel_rfl) (by kernel_rfl) (fun _ _ _ h => h) (Tame.no (by kernel_rfl)) ?_
  refine all_take (i := 8) rfl (by kernel_rfl) (by kernel_rfl) (by kernel_rfl) (fun _ _ _ h => h) (Tame.no (by kernel_rfl)) ?_
  refine all_take (i := 9) rfl (by kernel_rfl) (by kernel_rfl) (by kernel_rfl) (fun _ _ _ h => h) (Tame.no (by kernel_rfl)) ?_
  refine all_take (i := 10) rfl (by kernel_rfl) (by kernel_rfl) (by kernel_rfl) (fun _ _ _ h => h) (Tame.no (by kernel_rfl)) ?_
  refine all_take (i := 11) rfl (by kernel_rfl) (by kernel_rfl) (by kernel_rfl) (fun _ _ _ h => h) (Tame.no (by kernel_rfl)) ?_
  refine all_take (i := 12) rfl (by kernel_rfl) (by kernel_rfl) (by kernel_rfl) (fun _ _ _ h => h) (Tame.no (by kernel_rfl)) ?_
  refine all_take (i := 13) rfl (by kernel_rfl) (by kernel_rfl) (by kernel_rfl) (fun _ _ _ h => h) (Tame.no (by kernel_rfl)) ?_
  refine all_take (i := 14) rfl (by kernel_rfl) (by kernel_rfl) (by kernel_rfl) (fun _ _ _ h => h) (Tame.no (by kernel_rfl)) ?_
  refine all_take (i := 15) rfl (by kernel_rfl) (by kernel_rfl) (by kernel_rfl) (fun _ _ _ h => h) (Tame.no (by kernel_rfl)) ?_
  refine all_take (i := 16) rfl (by kernel_rfl) (by kernel_rfl) (by kernel_rfl) (fun _ _ _ h => h) (Tame.no (by kernel_rfl)) ?_
  refine all_take (i := 17) rfl (by kernel_rfl) (by kernel_rfl) (by kernel_rfl) (fun _ _ _ h => h) (Tame.no (by kernel_rfl)) ?_
  refine all_take (i := 18) rfl (by kernel_rfl) (by kernel_rfl) (by kernel_rfl) (fun _ _ _ h => h) (Tame.no (by kernel_rfl)) ?_
  refine all_take (i := 19) (v := ?_) rfl (by kernel_rfl) (by kernel_rfl) (by kernel_rfl) (fun _ _ _ h => h) (Tame.yes (by kernel_rfl) fun w hS => ?_) ?_
  rotate_left 1
  · go_simp
    refine gives_mk ?_ hS
    with_reducible rfl
  refine all_done ?_ ?_ _
  · kernel_rfl
  intro w2 hb2
  go_simp
  clear hcz
  rcases hcs.out with ⟨hn0, hn1, rfl⟩ | ⟨hn0, hn1, hm0, hm1, hnm, hl, hq⟩ | ⟨hn0, hn1, hm0, hm1, hnm, hl⟩ | hn | hn | ⟨hn0, hn1, hm⟩ | ⟨hn0, hn1, hm⟩
  · have hq := Va.begins_self n.toNat
    have hz1 := Va.puts_nine hn0 hn1
    have he1 := Va.puts_ne n.toNat
    have he3 := Va.puts_nn n.toNat
    have HZ : Hid ((s ++ Va.puts n.toNat ++ Va.puts n.toNat).size = s.size + (Va.puts n.toNat).size + (Va.puts n.toNat).size) := Lib.hid (by simp)
    go_wp2_with fail
    refine (put_str n _ (by omega) (by omega)).mono ?_
    rintro e w3 ⟨rfl, hb3⟩
    go_wp2_with fail
    refine (put_str n _ (by omega) (by omega)).mono ?_
    rintro e w4 ⟨rfl, hb4⟩
    go_wp2_with fail
    refine (take_num _ _ n (Va.put n.toNat) _ (by omega) (by omega) (by omega) (Va.drop1 _ _ _) (by unfold maxLen; rw [HZ.out]; omega) (by rw [HZ.out]; omega)).mono ?_
    rintro e w3 ⟨rfl, rfl⟩
    go_wp2_with fail
    refine (take_num _ _ n [] _ (by omega) (by omega) (by omega) (Va.drop2 _ _ _) (by unfold maxLen; rw [HZ.out]; omega) (by rw [HZ.out]; omega)).mono ?_
    rintro e w3 ⟨rfl, rfl⟩
    go_wp2_with fail
    go_ret
    exact ⟨rfl, (by repeat (first | exact Ext.refl _ | assumption | refine Ext.trans (by assumption) ?_))⟩
  · clear hcs
    have hz1 := Va.puts_nine hn0 hn1
    have he1 := Va.puts_ne n.toNat
    have he3 := Va.puts_nn n.toNat
    have hz2 := Va.puts_nine hm0 hm1
    have he2 := Va.puts_ne m.toNat
    have HZ : Hid ((s ++ Va.puts n.toNat ++ Va.puts m.toNat).size = s.size + (Va.puts n.toNat).size + (Va.puts m.toNat).size) := Lib.hid (by simp)
    go_wp2_with fail
    refine (put_str n _ (by omega) (by omega)).mono ?_
    rintro e w3 ⟨rfl, hb3⟩
    go_wp2_with fail
    refine (put_str m _ (by omega) (by omega)).mono ?_
    rintro e w4 ⟨rfl, hb4⟩
    go_wp2_with fail
    refine (take_num _ _ n (Va.put m.toNat) _ (by omega) (by omega) (by omega) (Va.drop1 _ _ _) (by unfold maxLen; rw [HZ.out]; omega) (by rw [HZ.out]; omega)).mono ?_
    rintro e w3 ⟨rfl, rfl⟩
    go_wp2_with fail
    refine (take_num _ _ m [] _ (by omega) (by omega) (by omega) (Va.drop2 _ _ _) (by unfold maxLen; rw [HZ.out]; omega) (by rw [HZ.out]; omega)).mono ?_
    rintro e w3 ⟨rfl, rfl⟩
    go_wp2_with fail
    go_ret
    exact ⟨rfl, (by repeat (first | exact Ext.refl _ | assumption | refine Ext.trans (by assumption) ?_))⟩
  · clear hcs
    have hz1 := Va.puts_nine hn0 hn1
    have he1 := Va.puts_ne n.toNat
    have he3 := Va.puts_nn n.toNat
    have hz2 := Va.puts_nine hm0 hm1
    have he2 := Va.puts_ne m.toNat
    have HZ : Hid ((s ++ Va.puts n.toNat ++ Va.puts m.toNat).size = s.size + (Va.puts n.toNat).size + (Va.puts m.toNat).size) := Lib.hid (by simp)
    go_wp2_with fail
    refine (put_str n _ (by omega) (by omega)).mono ?_
    rintro e w3 ⟨rfl, hb3⟩
    go_wp2_with fail
    refine (put_str m _ (by omega) (by omega)).mono ?_
    rintro e w4 ⟨rfl, hb4⟩
    go_wp2_with fail
    refine (take_num _ _ n (Va.put m.toNat) _ (by omega) (by omega) (by omega) (Va.drop1 _ _ _) (by unfold maxLen; rw [HZ.out]; omega) (by rw [HZ.out]; omega)).mono ?_
    rintro e w3 ⟨rfl, rfl⟩
    go_wp2_with fail
    refine (take_num _ _ m [] _ (by omega) (by omega) (by omega) (Va.drop2 _ _ _) (by unfold maxLen; rw [HZ.out]; omega) (by rw [HZ.out]; omega)).mono ?_
    rintro e w3 ⟨rfl, rfl⟩
    go_wp2_with fail
    go_ret
    exact ⟨rfl, (by repeat (first | exact Ext.refl _ | assumption | refine Ext.trans (by assumption) ?_))⟩
  · have hpn := fun w => put_no n w (by omega)
    have HPN := Lib.hid hpn; clear hpn hcs
    go_wp2_with fail
    refine (HPN.out _).mono ?_
    rintro e w3 ⟨rfl, rfl⟩
    by_cases hm : 0 ≤ m ∧ m < 4611686018427387904
    · obtain ⟨hm0, hm1⟩ := hm
      have he2 := Va.puts_ne m.toNat
      have he4 := Va.puts_nn m.toNat
      go_wp2_with fail
      refine (put_str m _ (by omega) (by omega)).mono ?_
      rintro e w4 ⟨rfl, hb4⟩
      go_wp2_with fail
      go_ret
      exact ⟨rfl, (by repeat (first | exact Ext.refl _ | assumption | refine Ext.trans (by assumption) ?_))⟩
    · rcases (by omega : m < 0 ∨ 4611686018427387904 ≤ m) with hm' | hm'
      all_goals
        clear hm
        go_wp2_with fail
        refine (put_no m _ (by omega)).mono ?_
        rintro e w4 ⟨rfl, rfl⟩
        go_wp2_with fail
        go_ret
        exact ⟨rfl, (by repeat (first | exact Ext.refl _ | assumption | refine Ext.trans (by assumption) ?_))⟩
  · have hpn := fun w => put_no n w (by omega)
    have HPN := Lib.hid hpn; clear hpn hcs
    go_wp2_with fail
    refine (HPN.out _).mono ?_
    rintro e w3 ⟨rfl, rfl⟩
    by_cases hm : 0 ≤ m ∧ m < 4611686018427387904
    · obtain ⟨hm0, hm1⟩ := hm
      have he2 := Va.puts_ne m.toNat
      have he4 := Va.puts_nn m.toNat
      go_wp2_with fail
      refine (put_str m _ (by omega) (by omega)).mono ?_
      rintro e w4 ⟨rfl, hb4⟩
      go_wp2_with fail
      go_ret
      exact ⟨rfl, (by repeat (first | exact Ext.refl _ | assumption | refine Ext.trans (by assumption) ?_))⟩
    · rcases (by omega : m < 0 ∨ 4611686018427387904 ≤ m) with hm' | hm'
      all_goals
        clear hm
        go_wp2_with fail
        refine (put_no m _ (by omega)).mono ?_
        rintro e w4 ⟨rfl, rfl⟩
        go_wp2_with fail
        go_ret
        exact ⟨rfl, (by repeat (first | exact Ext.refl _ | assumption | refine Ext.trans (by assumption) ?_))⟩
  · clear hcs
    have hz1 := Va.puts_nine hn0 hn1
    have he1 := Va.puts_ne n.toNat
    have he3 := Va.puts_nn n.toNat
    go_wp2_with fail
    refine (put_str n _ (by omega) (by omega)).mono ?_
    rintro e w3 ⟨rfl, hb3⟩
    go_wp2_with fail
    refine (put_no m _ (by omega)).mono ?_
    rintro e w4 ⟨rfl, rfl⟩
    go_wp2_with fail
    go_ret
    exact ⟨rfl, (by repeat (first | exact Ext.refl _ | assumption | refine Ext.trans (by assumption) ?_))⟩
  · clear hcs
    have hz1 := Va.puts_nine hn0 hn1
    have he1 := Va.puts_ne n.toNat
    have he3 := Va.puts_nn n.toNat
    go_wp2_with fail
    refine (put_str n _ (by omega) (by omega)).mono ?_
    rintro e w3 ⟨rfl, hb3⟩
    go_wp2_with fail
    refine (put_no m _ (by omega)).mono ?_
    rintro e w4 ⟨rfl, rfl⟩
    go_wp2_with fail
    go_ret
    exact ⟨rfl, (by repeat (first | exact Ext.refl _ | assumption | refine Ext.trans (by assumption) ?_))⟩


theorem walk_VarintBack (n m : Int) (s : ByteArray) (_ : (Lit.int .i64 n).wf = true) (_ : (Lit.int .i64 m).wf = true) (hs : s.size ≤ maxLen) (w : World) :
    Calls Try.prog 4 #[.int .i64 n, .int .i64 m, .string s] w fun e w' => e = .returned (.bool true) ∧ Ext w w' := by
  by_cases h : 10000 < s.size
  · exact vback_out n m s hs w h
  · have cs : (0 ≤ n ∧ n < 4611686018427387904 ∧ n = m) ∨ (0 ≤ n ∧ n < 4611686018427387904 ∧ 0 ≤ m ∧ m < 4611686018427387904 ∧ (n == m) = false ∧ (Va.puts n.toNat).size ≤ (Va.puts m.toNat).size ∧ (((Va.puts m.toNat).extract 0 (Va.puts n.toNat).size).toList == (Va.puts n.toNat).toList) = false) ∨ (0 ≤ n ∧ n < 4611686018427387904 ∧ 0 ≤ m ∧ m < 4611686018427387904 ∧ (n == m) = false ∧ (Va.puts m.toNat).size < (Va.puts n.toNat).size) ∨ n < 0 ∨ 4611686018427387904 ≤ n ∨ (0 ≤ n ∧ n < 4611686018427387904 ∧ m < 0) ∨ (0 ≤ n ∧ n < 4611686018427387904 ∧ 4611686018427387904 ≤ m) := by
      by_cases hn : 0 ≤ n ∧ n < 4611686018427387904
      · by_cases hm : 0 ≤ m ∧ m < 4611686018427387904
        · by_cases hnm : n = m
          · exact .inl ⟨hn.1, hn.2, hnm⟩
          · by_cases hl : (Va.puts n.toNat).size ≤ (Va.puts m.toNat).size
            · exact .inr (.inl ⟨hn.1, hn.2, hm.1, hm.2, by simpa using hnm, hl, Va.begins hn.1 hn.2 hm.1 hm.2 hnm⟩)
            · exact .inr (.inr (.inl ⟨hn.1, hn.2, hm.1, hm.2, by simpa using hnm, by omega⟩))
        · omega
      · omega
    have HCS := Lib.hid cs
    rcases ht : Va.take (s.data.toList.drop 0) with ⟨a, k, c⟩
    rcases Va.tk_none 9 0 0 a k c _ ht with rfl | ⟨rfl, rfl, rfl⟩ | ⟨rfl, rfl, rfl⟩
    · obtain ⟨r, h1, h2, h3⟩ := Va.take_ok ht
      have hp := Va.put_len_pos a
      rw [List.drop_zero] at h1
      have hsz : s.size = (Va.put a).length + r.length := by
        rw [show s.size = s.data.toList.length by simp, h1, List.length_append]
      refine vback_ok n m s w (by omega) a k (by omega) (by omega) ?_ h3 ht HCS
      apply ByteArray.ext
      apply Array.toList_inj.1
      rw [Lib.extract_data, Va.puts_list, h1, h2]
      simp
    · exact vback_bad n m s w (by omega) 10 (by omega) ht HCS
    · exact vback_bad n m s w (by omega) 11 (by omega) ht HCS

end Go.Proofs.Ytngfmnacjabloaa
