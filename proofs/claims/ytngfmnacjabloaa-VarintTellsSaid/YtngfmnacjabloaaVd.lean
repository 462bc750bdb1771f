/-
  Contracts of the statements' own helper 'fixed', and the statements' walks.
-/
import Derived.Test.YtngfmnacjabloaaVb
import Derived.Test.YtngfmnacjabloaaVc
namespace Go.Proofs.Ytngfmnacjabloaa
open Go.RowKit

theorem put_eq (n : Nat) (l : List UInt8) (h : Va.put n = l) (hm : n < Va.most) (w : World) :
    Calls Try.prog 11 #[.int .i64 n] w fun e w' => e = .returned (.string ⟨l.toArray⟩) ∧ Ext w w' := by
  subst h; exact put_yes n w hm
theorem take_good (s : ByteArray) (a n k : Nat) (h : Va.take (s.data.toList.drop a) = (n, k, 0)) (hs : s.size ≤ maxLen) (ha : a ≤ s.size) (w : World) :
    Calls Try.prog 9 #[.string s, .int .i64 a] w fun e w' => e = .returned (.tuple #[.int .i64 n, .int .i64 ((a + k : Nat) : Int), .int .i64 0]) ∧ w = w' :=
  (take_in s a w hs ha).mono fun _ _ ⟨he, hw⟩ => ⟨by rw [he, h]; rfl, hw⟩
theorem take_bad (s : ByteArray) (a c : Nat) (h : Va.take (s.data.toList.drop a) = (0, 0, c)) (hc : 0 < c) (hs : s.size ≤ maxLen) (ha : a ≤ s.size) (w : World) :
    Calls Try.prog 9 #[.string s, .int .i64 a] w fun e w' => e = .returned (.tuple #[.int .i64 0, .int .i64 0, .int .i64 c]) ∧ w = w' :=
  (take_in s a w hs ha).mono fun _ _ ⟨he, hw⟩ => ⟨by rw [he, h]; unfold takeV; rw [if_neg (by simp; omega)]; rfl, hw⟩

theorem len_eq (n k : Nat) (h : (Va.put n).length = k) (hm : n < Va.most) (w : World) :
    Calls Try.prog 13 #[.int .i64 n] w fun e w' => e = .returned (.int .i64 k) ∧ w = w' := by
  subst h; exact len_yes n w hm
theorem take_bad_int (s : ByteArray) (a : Int) (c : Nat) (w : World) (h0 : 0 ≤ a) (h : Va.take (s.data.toList.drop a.toNat) = (0, 0, c)) (hc : 0 < c) (hs : s.size ≤ maxLen) (ha : a.toNat ≤ s.size) :
    Calls Try.prog 9 #[.string s, .int .i64 a] w fun e w' => e = .returned (.tuple #[.int .i64 0, .int .i64 0, .int .i64 c]) ∧ w = w' := by
  obtain ⟨k, rfl⟩ := Int.eq_ofNat_of_zero_le h0
  rw [Int.toNat_natCast] at h ha
  exact take_bad s k c h hc hs ha w
theorem take_good_int (s : ByteArray) (a : Int) (n k : Nat) (w : World) (h0 : 0 ≤ a) (h : Va.take (s.data.toList.drop a.toNat) = (n, k, 0)) (hs : s.size ≤ maxLen) (ha : a.toNat ≤ s.size) :
    Calls Try.prog 9 #[.string s, .int .i64 a] w fun e w' => e = .returned (.tuple #[.int .i64 n, .int .i64 (a + k), .int .i64 0]) ∧ w = w' := by
  obtain ⟨j, rfl⟩ := Int.eq_ofNat_of_zero_le h0
  rw [Int.toNat_natCast] at h ha
  have := take_good s j n k h hs ha w
  rw [Int.natCast_add] at this
  exact this
theorem put_int (n : Int) (w : World) (h0 : 0 ≤ n) (h1 : n < 4611686018427387904) :
    Calls Try.prog 11 #[.int .i64 n] w fun e w' => e = .returned (.string ⟨(Va.put n.toNat).toArray⟩) ∧ Ext w w' := by
  obtain ⟨k, rfl⟩ := Int.eq_ofNat_of_zero_le h0
  rw [Int.toNat_natCast]
  exact put_yes k w (by unfold Va.most; omega)
theorem put_str (n : Int) (w : World) (h0 : 0 ≤ n) (h1 : n < 4611686018427387904) :
    Calls Try.prog 11 #[.int .i64 n] w fun e w' => e = .returned (.string (Va.puts n.toNat)) ∧ Ext w w' := put_int n w h0 h1
theorem len_str (n : Int) (w : World) (h0 : 0 ≤ n) (h1 : n < 4611686018427387904) :
    Calls Try.prog 13 #[.int .i64 n] w fun e w' => e = .returned (.int .i64 (Va.puts n.toNat).size) ∧ w = w' := by
  obtain ⟨k, rfl⟩ := Int.eq_ofNat_of_zero_le h0
  rw [Int.toNat_natCast, Va.puts_size]
  exact len_yes k w (by unfold Va.most; omega)
theorem len_int (n : Int) (w : World) (h0 : 0 ≤ n) (h1 : n < 4611686018427387904) :
    Calls Try.prog 13 #[.int .i64 n] w fun e w' => e = .returned (.int .i64 (Va.put n.toNat).length) ∧ w = w' := by
  obtain ⟨k, rfl⟩ := Int.eq_ofNat_of_zero_le h0
  rw [Int.toNat_natCast]
  exact len_yes k w (by unfold Va.most; omega)
theorem put300 : Va.put 300 = [172, 2] := by
  rw [Va.put_big (by decide), Va.put_small (by decide)]; decide

set_option maxRecDepth 100000 in
theorem fixed_yes (w : World) : Calls Try.prog 8 #[] w fun e w' => e = .returned (.bool true) ∧ Ext w w' := by
  have H1 := Lib.hid (fun w => take_good ⟨#[172, 2, 33]⟩ 0 300 2 (by decide +kernel) (by decide) (by decide) w)
  have H2 := Lib.hid (fun w => take_bad ⟨#[128]⟩ 0 10 (by decide +kernel) (by decide) (by decide) (by decide) w)
  have H3 := Lib.hid (fun w => take_bad ⟨#[128, 0]⟩ 0 11 (by decide +kernel) (by decide) (by decide) (by decide) w)
  have H5 := Lib.hid (fun w => put_eq 300 _ put300 (by decide) w)
  have H6 := Lib.hid (fun w => len_eq 127 1 (by rw [Va.put_small (by decide)]; rfl) (by decide) w)
  go_enter Try.func8, Try.ntmps8
  go_wp2_with fail
  refine (H1.out _).mono ?_
  rintro e w' ⟨rfl, rfl⟩
  go_wp2_with fail
  refine (H2.out _).mono ?_
  rintro e w' ⟨rfl, rfl⟩
  go_wp2_with fail
  refine (H3.out _).mono ?_
  rintro e w' ⟨rfl, rfl⟩
  go_wp2_with fail
  refine (take_arg ⟨#[]⟩ 1 _ (Or.inr (by decide))).mono ?_
  rintro e w' ⟨rfl, rfl⟩
  go_wp2_with fail
  refine (H5.out _).mono ?_
  rintro e w' ⟨rfl, hb⟩
  go_wp2_with fail
  refine (put_no (-1) _ (by omega)).mono ?_
  rintro e w' ⟨rfl, rfl⟩
  go_wp2_with fail
  refine (H6.out _).mono ?_
  rintro e w' ⟨rfl, rfl⟩
  go_wp2_with fail
  go_ret
  exact ⟨rfl, hb⟩

end Go.Proofs.Ytngfmnacjabloaa
