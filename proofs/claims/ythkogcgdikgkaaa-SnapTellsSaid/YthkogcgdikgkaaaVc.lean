/-
  The contract of varint.Take: what it answers at every place of every text.
-/
import Derived.Test.YthkogcgdikgkaaaVb
set_option linter.unusedVariables false
set_option linter.unusedSimpArgs false
namespace Go.Proofs.Ythkogcgdikgkaaa
open Go.RowKit

set_option maxRecDepth 100000 in
theorem take_arg (s : ByteArray) (a : Int) (w : World) (h : a < 0 ∨ (s.size : Int) < a) :
    Calls Try.prog 34 #[.string s, .int .i64 a] w fun e w' => e = .returned (.tuple #[.int .i64 0, .int .i64 0, .int .i64 1]) ∧ w = w' := by
  by_cases h0 : a < 0
  · go_enter Try.func34, Try.ntmps34
    go_wp2
    go_ret3
    exact ⟨rfl, rfl⟩
  · have h1 : (s.size : Int) < a := by omega
    go_enter Try.func34, Try.ntmps34
    go_wp2
    go_ret3
    exact ⟨rfl, rfl⟩

/-- What Take answers at a place within the text. -/
def takeV (at_ : Nat) (r : Nat × Nat × Nat) : Value := .tuple #[.int .i64 r.1, .int .i64 (if r.2.2 = 0 then ((at_ + r.2.1 : Nat) : Int) else 0), .int .i64 r.2.2]

theorem tk_step {s : ByteArray} {a k acc : Nat} (hk : k ≤ 8) (hlt : a + k < s.size) : Va.tk (9 - k) k acc ((s.data.toList.drop a).drop k) =
    if k = 8 ∧ 64 ≤ s[a + k].toNat then (0, 0, 11)
    else if 128 ≤ s[a + k].toNat then Va.tk (9 - (k + 1)) (k + 1) (acc + s[a + k].toNat % 128 * 128 ^ k) ((s.data.toList.drop a).drop (k + 1))
    else if s[a + k].toNat = 0 ∧ 0 < k then (0, 0, 11)
    else (acc + s[a + k].toNat % 128 * 128 ^ k, k + 1, 0) := by
  have e : (s.data.toList.drop a).drop k = s[a + k] :: (s.data.toList.drop a).drop (k + 1) := by
    rw [List.drop_drop, List.drop_drop, List.drop_eq_getElem_cons (by simpa using hlt), Nat.add_assoc]
    rfl
  rw [e, show 9 - k = (9 - (k + 1)) + 1 by omega]
  rfl

theorem tup3 {a b c a' b' c' : Int} (h1 : a = a') (h2 : b = b') (h3 : c = c') : Ending.returned (.tuple #[.int .i64 a, .int .i64 b, .int .i64 c]) = .returned (.tuple #[.int .i64 a', .int .i64 b', .int .i64 c']) := by rw [h1, h2, h3]
theorem acc_sum {k acc c : Nat} (hk : k ≤ 8) (ha : acc < 128 ^ k) : wrap64 ((acc : Int) + wrap64 ((c : Int) % 128 * 2 ^ (7 * k))) = ((acc + c % 128 * 128 ^ k : Nat) : Int) := by
  rcases (by omega : k = 0 ∨ k = 1 ∨ k = 2 ∨ k = 3 ∨ k = 4 ∨ k = 5 ∨ k = 6 ∨ k = 7 ∨ k = 8) with rfl | rfl | rfl | rfl | rfl | rfl | rfl | rfl | rfl <;> simp only [Nat.reduceMul, Nat.reducePow, Int.reducePow, wrap64] at * <;> omega
theorem acc_sum8 {k acc c : Nat} (hk : k = 8) (ha : acc < 128 ^ k) : wrap64 ((acc : Int) + (c : Int) % 128 * 72057594037927936) = ((acc + c % 128 * 128 ^ k : Nat) : Int) := by
  subst hk
  simp only [Nat.reducePow, wrap64] at *
  omega
theorem acc_lt {k acc c : Nat} (ha : acc < 128 ^ k) : acc + c % 128 * 128 ^ k < 128 ^ (k + 1) := by
  have : c % 128 * 128 ^ k ≤ 127 * 128 ^ k := Nat.mul_le_mul_right _ (by omega)
  rw [Nat.pow_succ]; omega

set_option maxRecDepth 100000 in
theorem take_in (s : ByteArray) (a : Nat) (w : World) (hs : s.size ≤ maxLen) (h : a ≤ s.size) :
    Calls Try.prog 34 #[.string s, .int .i64 a] w fun e w' => e = .returned (takeV a (Va.take (s.data.toList.drop a))) ∧ w = w' := by
  unfold maxLen at hs
  have hd0 : decide ((a : Int) < 0) = false := by simp
  have hd1 : decide (s.size < a) = false := by simpa using h
  go_enter Try.func34, Try.ntmps34
  go_wp2
  go_loop [7, 8, 18] (fun n _ i => ∃ k acc : Nat, k ≤ 9 ∧ a + k ≤ s.size ∧ n = .int .i64 acc ∧ i = .int .i64 k ∧ acc < 128 ^ k ∧ Va.take (s.data.toList.drop a) = Va.tk (9 - k) k acc ((s.data.toList.drop a).drop k)) (fun _ _ i => 9 - (intOf i).toNat)
  case atStart => exact ⟨0, 0, by omega, by omega, rfl, rfl, by omega, rfl⟩
  case round =>
    obtain ⟨k, acc, hk, hle, rfl, rfl, hacc, ht⟩ := hrel
    have HT := Lib.hid ht; clear ht
    have HA := Lib.hid hacc; clear hacc
    rcases (by omega : k = 9 ∨ k ≤ 8) with rfl | hk8
    · go_wp2
      go_ret3
      rw [HT.out]
      exact ⟨rfl, rfl⟩
    · by_cases he : a + k = s.size
      · have HE := Lib.hid he
        have hcmp : ((a : Int) + (k : Int) == (s.size : Int)) = true := by simp; omega
        clear he
        go_wp2
        go_ret3
        rw [HT.out, List.drop_drop, List.drop_eq_nil_of_le (by have := HE.out; simp; omega), show 9 - k = (9 - (k + 1)) + 1 by omega]
        exact ⟨rfl, rfl⟩
      · have hlt : a + k < s.size := by omega
        have HS := Lib.hid (tk_step (s := s) (acc := acc) hk8 hlt)
        have hb : (s[a + k].toNat : Int) ≤ 255 := by have := s[a + k].toNat_lt; omega
        by_cases h8 : k = 8
        · subst h8
          by_cases h64 : 64 ≤ s[a + 8].toNat
          · go_wp2
            go_ret3
            rw [HT.out, HS.out, if_pos ⟨by simp, h64⟩]
            first | exact ⟨rfl, rfl⟩ | exact ⟨rfl, trivial⟩
          · by_cases hz : s[a + 8].toNat = 0
            · have hzb : ((s[a + 8].toNat : Int) == 0) = true := by simpa using hz
              have HZ := Lib.hid hz; clear hz
              go_wp2
              go_ret3
              rw [HT.out, HS.out, if_neg (by omega), if_neg (by omega), if_pos ⟨HZ.out, by omega⟩]
              first | exact ⟨rfl, rfl⟩ | exact ⟨rfl, trivial⟩
            · have hzb : ((s[a + 8].toNat : Int) == 0) = false := by simp; omega
              go_wp2
              go_ret3
              refine ⟨(tup3 (acc_sum8 rfl HA.out) (show _ = ((a + (8 + 1) : Nat) : Int) by omega) rfl).trans ?_, ?_⟩
              · rw [HT.out, HS.out, if_neg (by omega), if_neg (by omega), if_neg (by omega)]
                rfl
              · first | exact rfl | trivial
        · have hk7 : k ≤ 7 := by omega
          have hk8b : ((k : Int) == 8) = false := by simp; omega
          by_cases hbig : 128 ≤ s[a + k].toNat
          · go_wp2
            go_round
            case rel =>
              refine ⟨k + 1, _, by omega, by omega, congrArg (Value.int .i64) (acc_sum hk8 HA.out), by go_num, acc_lt HA.out, ?_⟩
              rw [HT.out, HS.out, if_neg (by omega), if_pos hbig]
            case measure => simp [intOf]; omega
          · by_cases hz : s[a + k].toNat = 0
            · have hzb : ((s[a + k].toNat : Int) == 0) = true := by simpa using hz
              have HZ := Lib.hid hz; clear hz
              by_cases hk0 : 0 < k
              · go_wp2
                go_ret3
                rw [HT.out, HS.out, if_neg (by omega), if_neg (by omega), if_pos ⟨HZ.out, hk0⟩]
                first | exact ⟨rfl, rfl⟩ | exact ⟨rfl, trivial⟩
              · have hkd : decide (0 < k) = false := by simpa using hk0
                go_wp2
                go_ret3
                refine ⟨(tup3 (acc_sum hk8 HA.out) (show _ = ((a + (k + 1) : Nat) : Int) by omega) rfl).trans ?_, ?_⟩
                · rw [HT.out, HS.out, if_neg (by omega), if_neg (by omega), if_neg (by omega)]
                  rfl
                · first | exact rfl | trivial
            · have hzb : ((s[a + k].toNat : Int) == 0) = false := by simp; omega
              go_wp2
              go_ret3
              refine ⟨(tup3 (acc_sum hk8 HA.out) (show _ = ((a + (k + 1) : Nat) : Int) by omega) rfl).trans ?_, ?_⟩
              · rw [HT.out, HS.out, if_neg (by omega), if_neg (by omega), if_neg (by omega)]
                rfl
              · first | exact rfl | trivial

end Go.Proofs.Ythkogcgdikgkaaa
