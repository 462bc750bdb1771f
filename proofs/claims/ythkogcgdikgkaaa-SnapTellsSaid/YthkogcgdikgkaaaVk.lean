/-
  Contracts of package varint, in the forms that its callers meet.
-/
import Derived.Test.YthkogcgdikgkaaaVc
import Derived.Lib.Strings
set_option linter.unusedVariables false
set_option linter.unusedSimpArgs false
namespace Go.Proofs.Ythkogcgdikgkaaa
open Go.RowKit

theorem put_eq (n : Nat) (l : List UInt8) (h : Va.put n = l) (hm : n < Va.most) (w : World) :
    Calls Try.prog 40 #[.int .i64 n] w fun e w' => e = .returned (.string ⟨l.toArray⟩) ∧ Ext w w' := by
  subst h; exact put_yes n w hm
theorem take_good (s : ByteArray) (a n k : Nat) (h : Va.take (s.data.toList.drop a) = (n, k, 0)) (hs : s.size ≤ maxLen) (ha : a ≤ s.size) (w : World) :
    Calls Try.prog 34 #[.string s, .int .i64 a] w fun e w' => e = .returned (.tuple #[.int .i64 n, .int .i64 ((a + k : Nat) : Int), .int .i64 0]) ∧ w = w' :=
  (take_in s a w hs ha).mono fun _ _ ⟨he, hw⟩ => ⟨by rw [he, h]; rfl, hw⟩
theorem take_bad (s : ByteArray) (a c : Nat) (h : Va.take (s.data.toList.drop a) = (0, 0, c)) (hc : 0 < c) (hs : s.size ≤ maxLen) (ha : a ≤ s.size) (w : World) :
    Calls Try.prog 34 #[.string s, .int .i64 a] w fun e w' => e = .returned (.tuple #[.int .i64 0, .int .i64 0, .int .i64 c]) ∧ w = w' :=
  (take_in s a w hs ha).mono fun _ _ ⟨he, hw⟩ => ⟨by rw [he, h]; unfold takeV; rw [if_neg (by simp; omega)]; rfl, hw⟩

theorem take_bad_int (s : ByteArray) (a : Int) (c : Nat) (w : World) (h0 : 0 ≤ a) (h : Va.take (s.data.toList.drop a.toNat) = (0, 0, c)) (hc : 0 < c) (hs : s.size ≤ maxLen) (ha : a.toNat ≤ s.size) :
    Calls Try.prog 34 #[.string s, .int .i64 a] w fun e w' => e = .returned (.tuple #[.int .i64 0, .int .i64 0, .int .i64 c]) ∧ w = w' := by
  obtain ⟨k, rfl⟩ := Int.eq_ofNat_of_zero_le h0
  rw [Int.toNat_natCast] at h ha
  exact take_bad s k c h hc hs ha w
theorem take_good_int (s : ByteArray) (a : Int) (n k : Nat) (w : World) (h0 : 0 ≤ a) (h : Va.take (s.data.toList.drop a.toNat) = (n, k, 0)) (hs : s.size ≤ maxLen) (ha : a.toNat ≤ s.size) :
    Calls Try.prog 34 #[.string s, .int .i64 a] w fun e w' => e = .returned (.tuple #[.int .i64 n, .int .i64 (a + k), .int .i64 0]) ∧ w = w' := by
  obtain ⟨j, rfl⟩ := Int.eq_ofNat_of_zero_le h0
  rw [Int.toNat_natCast] at h ha
  have := take_good s j n k h hs ha w
  rw [Int.natCast_add] at this
  exact this
theorem put_int (n : Int) (w : World) (h0 : 0 ≤ n) (h1 : n < 4611686018427387904) :
    Calls Try.prog 40 #[.int .i64 n] w fun e w' => e = .returned (.string ⟨(Va.put n.toNat).toArray⟩) ∧ Ext w w' := by
  obtain ⟨k, rfl⟩ := Int.eq_ofNat_of_zero_le h0
  rw [Int.toNat_natCast]
  exact put_yes k w (by unfold Va.most; omega)
theorem put_str (n : Int) (w : World) (h0 : 0 ≤ n) (h1 : n < 4611686018427387904) :
    Calls Try.prog 40 #[.int .i64 n] w fun e w' => e = .returned (.string (Va.puts n.toNat)) ∧ Ext w w' := put_int n w h0 h1
theorem take_num (t : ByteArray) (a n : Int) (r : List UInt8) (w : World) (h0 : 0 ≤ a) (hn0 : 0 ≤ n) (hn1 : n < 4611686018427387904) (h : t.data.toList.drop a.toNat = Va.put n.toNat ++ r) (hs : t.size ≤ maxLen) (ha : a.toNat ≤ t.size) :
    Calls Try.prog 34 #[.string t, .int .i64 a] w fun e w' => e = .returned (.tuple #[.int .i64 n, .int .i64 (a + (Va.puts n.toNat).size), .int .i64 0]) ∧ w = w' := by
  have := take_good_int t a n.toNat (Va.puts n.toNat).size w h0 (by rw [h, Va.take_put _ _ (by unfold Va.most; omega), Va.puts_size]) hs ha
  rw [Int.toNat_of_nonneg hn0] at this
  exact this

theorem Va.puts_ne (n : Nat) : (Va.puts n).toList.isEmpty = false := by
  rw [ByteArray.toList_eq, Va.puts_list]
  have := Va.put_len_pos n
  cases h : Va.put n with
  | nil => rw [h] at this; simp at this
  | cons a b => rfl
theorem Va.puts_nn (n : Nat) : ¬ (Va.puts n).toList = [] := by
  intro h
  have := Va.puts_ne n
  rw [h] at this
  simp at this
theorem Va.puts_nine {n : Int} (h0 : 0 ≤ n) (h1 : n < 4611686018427387904) : (Va.puts n.toNat).size ≤ 9 := by
  rw [Va.puts_size]; exact Va.put_len_most (by unfold Va.most; omega)
/-- What Put answers, for every number. -/
def Va.pz (n : Int) : ByteArray := if 0 ≤ n ∧ n < 4611686018427387904 then Va.puts n.toNat else ⟨#[]⟩
theorem put_any (n : Int) (w : World) : Calls Try.prog 40 #[.int .i64 n] w fun e w' => e = .returned (.string (Va.pz n)) ∧ Ext w w' := by
  unfold Va.pz
  by_cases h : 0 ≤ n ∧ n < 4611686018427387904
  · rw [if_pos h]; exact put_str n w h.1 h.2
  · rw [if_neg h]
    exact (put_no n w (by omega)).mono fun e w' ⟨he, hw⟩ => ⟨he, hw ▸ Ext.refl _⟩
/-- What Take answers, part by part, at every place. -/
def Va.tx (s : ByteArray) (a : Int) : Int := if a < 0 ∨ (s.size : Int) < a then 0 else ((Va.take (s.data.toList.drop a.toNat)).1 : Int)
def Va.ty (s : ByteArray) (a : Int) : Int := if a < 0 ∨ (s.size : Int) < a then 0 else if (Va.take (s.data.toList.drop a.toNat)).2.2 = 0 then ((a.toNat + (Va.take (s.data.toList.drop a.toNat)).2.1 : Nat) : Int) else 0
def Va.tz (s : ByteArray) (a : Int) : Int := if a < 0 ∨ (s.size : Int) < a then 1 else ((Va.take (s.data.toList.drop a.toNat)).2.2 : Int)
theorem take_all (s : ByteArray) (a : Int) (w : World) (hs : s.size ≤ maxLen) :
    Calls Try.prog 34 #[.string s, .int .i64 a] w fun e w' => e = .returned (.tuple #[.int .i64 (Va.tx s a), .int .i64 (Va.ty s a), .int .i64 (Va.tz s a)]) ∧ w = w' := by
  unfold Va.tx Va.ty Va.tz
  by_cases h : a < 0 ∨ (s.size : Int) < a
  · rw [if_pos h, if_pos h, if_pos h]
    exact take_arg s a w h
  · rw [if_neg h, if_neg h, if_neg h]
    obtain ⟨k, rfl⟩ := Int.eq_ofNat_of_zero_le (show 0 ≤ a by omega)
    rw [Int.toNat_natCast]
    exact take_in s k w hs (by omega)

end Go.Proofs.Ythkogcgdikgkaaa
