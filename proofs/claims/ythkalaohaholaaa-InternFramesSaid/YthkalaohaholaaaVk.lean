/-
  Contracts of package varint, in the forms that its callers meet.
-/
import Derived.Test.YthkalaohaholaaaVc
import Derived.Lib.Strings
set_option linter.unusedVariables false
set_option linter.unusedSimpArgs false
namespace Go.Proofs.Ythkalaohaholaaa
open Go.RowKit

theorem put_eq (n : Nat) (l : List UInt8) (h : Va.put n = l) (hm : n < Va.most) (w : World) :
    Calls Try.prog 39 #[.int .i64 n] w fun e w' => e = .returned (.string ⟨l.toArray⟩) ∧ Ext w w' := by
  subst h; exact put_yes n w hm
theorem put_int (n : Int) (w : World) (h0 : 0 ≤ n) (h1 : n < 4611686018427387904) :
    Calls Try.prog 39 #[.int .i64 n] w fun e w' => e = .returned (.string ⟨(Va.put n.toNat).toArray⟩) ∧ Ext w w' := by
  obtain ⟨k, rfl⟩ := Int.eq_ofNat_of_zero_le h0
  rw [Int.toNat_natCast]
  exact put_yes k w (by unfold Va.most; omega)
theorem put_str (n : Int) (w : World) (h0 : 0 ≤ n) (h1 : n < 4611686018427387904) :
    Calls Try.prog 39 #[.int .i64 n] w fun e w' => e = .returned (.string (Va.puts n.toNat)) ∧ Ext w w' := put_int n w h0 h1
theorem Va.puts_ne (n : Nat) : (Va.puts n).toList.isEmpty = false := by
  rw [ByteArray.toList_eq, Va.puts_list]
  have := Va.put_len_pos n
  cases h : Va.put n with
  | nil => rw [h] at this; simp at this
  | cons a b => rfl
theorem Va.puts_nn (n : Nat) : ¬ (Va.puts n).toList = [] := by
  intro h
  have := Va.puts_ne n
  rw [h] at this
  simp at this
theorem Va.puts_nine {n : Int} (h0 : 0 ≤ n) (h1 : n < 4611686018427387904) : (Va.puts n.toNat).size ≤ 9 := by
  rw [Va.puts_size]; exact Va.put_len_most (by unfold Va.most; omega)
/-- What Put answers, for every number. -/
def Va.pz (n : Int) : ByteArray := if 0 ≤ n ∧ n < 4611686018427387904 then Va.puts n.toNat else ⟨#[]⟩
theorem put_any (n : Int) (w : World) : Calls Try.prog 39 #[.int .i64 n] w fun e w' => e = .returned (.string (Va.pz n)) ∧ Ext w w' := by
  unfold Va.pz
  by_cases h : 0 ≤ n ∧ n < 4611686018427387904
  · rw [if_pos h]; exact put_str n w h.1 h.2
  · rw [if_neg h]
    exact (put_no n w (by omega)).mono fun e w' ⟨he, hw⟩ => ⟨he, hw ▸ Ext.refl _⟩
/-- What Take answers, part by part, at every place. -/
def Va.tx (s : ByteArray) (a : Int) : Int := if a < 0 ∨ (s.size : Int) < a then 0 else ((Va.take (s.data.toList.drop a.toNat)).1 : Int)
def Va.ty (s : ByteArray) (a : Int) : Int := if a < 0 ∨ (s.size : Int) < a then 0 else if (Va.take (s.data.toList.drop a.toNat)).2.2 = 0 then ((a.toNat + (Va.take (s.data.toList.drop a.toNat)).2.1 : Nat) : Int) else 0
def Va.tz (s : ByteArray) (a : Int) : Int := if a < 0 ∨ (s.size : Int) < a then 1 else ((Va.take (s.data.toList.drop a.toNat)).2.2 : Int)
end Go.Proofs.Ythkalaohaholaaa
