/-
  The contract of varint.Take: what it answers at every place of every text.
-/
import Derived.Test.YthkalaohaholaaaVb
set_option linter.unusedVariables false
set_option linter.unusedSimpArgs false
namespace Go.Proofs.Ythkalaohaholaaa
open Go.RowKit

/-- What Take answers at a place within the text. -/
def takeV (at_ : Nat) (r : Nat × Nat × Nat) : Value := .tuple #[.int .i64 r.1, .int .i64 (if r.2.2 = 0 then ((at_ + r.2.1 : Nat) : Int) else 0), .int .i64 r.2.2]

theorem tk_step {s : ByteArray} {a k acc : Nat} (hk : k ≤ 8) (hlt : a + k < s.size) : Va.tk (9 - k) k acc ((s.data.toList.drop a).drop k) =
    if k = 8 ∧ 64 ≤ s[a + k].toNat then (0, 0, 11)
    else if 128 ≤ s[a + k].toNat then Va.tk (9 - (k + 1)) (k + 1) (acc + s[a + k].toNat % 128 * 128 ^ k) ((s.data.toList.drop a).drop (k + 1))
    else if s[a + k].toNat = 0 ∧ 0 < k then (0, 0, 11)
    else (acc + s[a + k].toNat % 128 * 128 ^ k, k + 1, 0) := by
  have e : (s.data.toList.drop a).drop k = s[a + k] :: (s.data.toList.drop a).drop (k + 1) := by
    rw [List.drop_drop, List.drop_drop, List.drop_eq_getElem_cons (by simpa using hlt), Nat.add_assoc]
    rfl
  rw [e, show 9 - k = (9 - (k + 1)) + 1 by omega]
  rfl

theorem tup3 {a b c a' b' c' : Int} (h1 : a = a') (h2 : b = b') (h3 : c = c') : Ending.returned (.tuple #[.int .i64 a, .int .i64 b, .int .i64 c]) = .returned (.tuple #[.int .i64 a', .int .i64 b', .int .i64 c']) := by rw [h1, h2, h3]
theorem acc_sum {k acc c : Nat} (hk : k ≤ 8) (ha : acc < 128 ^ k) : wrap64 ((acc : Int) + wrap64 ((c : Int) % 128 * 2 ^ (7 * k))) = ((acc + c % 128 * 128 ^ k : Nat) : Int) := by
  rcases (by omega : k = 0 ∨ k = 1 ∨ k = 2 ∨ k = 3 ∨ k = 4 ∨ k = 5 ∨ k = 6 ∨ k = 7 ∨ k = 8) with rfl | rfl | rfl | rfl | rfl | rfl | rfl | rfl | rfl <;> simp only [Nat.reduceMul, Nat.reducePow, Int.reducePow, wrap64] at * <;> omega
theorem acc_sum8 {k acc c : Nat} (hk : k = 8) (ha : acc < 128 ^ k) : wrap64 ((acc : Int) + (c : Int) % 128 * 72057594037927936) = ((acc + c % 128 * 128 ^ k : Nat) : Int) := by
  subst hk
  simp only [Nat.reducePow, wrap64] at *
  omega
theorem acc_lt {k acc c : Nat} (ha : acc < 128 ^ k) : acc + c % 128 * 128 ^ k < 128 ^ (k + 1) := by
  have : c % 128 * 128 ^ k ≤ 127 * 128 ^ k := Nat.mul_le_mul_right _ (by omega)
  rw [Nat.pow_succ]; omega

end Go.Proofs.Ythkalaohaholaaa
