/-
  The document's decimal digits, and its names of kinds: contracts.
-/
import Derived.Test.YtaeollnaigphlaaDoorKc
set_option linter.unusedVariables false
set_option linter.unusedSimpArgs false
namespace Go.Proofs.YtaeollnaigphlaaDoor
open Go.RowKit

theorem decDigits_len : ∀ (k u : Nat), u < 10 ^ (k + 1) → (Lib.decDigits u).length ≤ k + 1
  | 0, u, h => by
    unfold Lib.decDigits
    rw [dif_pos (by simpa using h)]
    simp
  | k + 1, u, h => by
    unfold Lib.decDigits
    split
    · simp
    · rw [List.length_append]
      have := decDigits_len k (u / 10) (by rw [Nat.pow_succ] at h; omega)
      simp only [List.length_cons, List.length_nil]
      omega
def digitB (d : Nat) : ByteArray := ⟨#[UInt8.ofNat (48 + d)]⟩
theorem digit_slice {d : Nat} (h : d < 10) : (⟨#[48, 49, 50, 51, 52, 53, 54, 55, 56, 57]⟩ : ByteArray).extract d (d + 1) = digitB d := by
  have : d = 0 ∨ d = 1 ∨ d = 2 ∨ d = 3 ∨ d = 4 ∨ d = 5 ∨ d = 6 ∨ d = 7 ∨ d = 8 ∨ d = 9 := by omega
  rcases this with rfl | rfl | rfl | rfl | rfl | rfl | rfl | rfl | rfl | rfl <;> rfl
def decB (u : Nat) : ByteArray := ⟨(Lib.decDigits u).toArray⟩
set_option maxRecDepth 100000 in
set_option maxHeartbeats 1000000 in
theorem rdigits_any (N : Nat) (w : World) (hN : N < 18446744073709551616) : Calls Tryd.prog 28 #[.int .u64 N] w fun e w' => e = .returned (.string (decB N)) ∧ w = w' := by
  have hlen : (Lib.decDigits N).length ≤ 20 := decDigits_len 19 N (by omega)
  go_enter Tryd.func28, Tryd.ntmps28
  go_wp2
  go_loop [0, 3] (fun nv sv => ∃ (n : Nat) (s : ByteArray), nv = .int .u64 n ∧ sv = .string s ∧ Hid (Lib.decDigits N = Lib.decDigits n ++ s.data.toList) ∧ n ≤ N) (fun nv _ => (intOf nv).toNat)
  case atStart => exact ⟨N, ⟨#[]⟩, rfl, rfl, Lib.hid (by simp), Nat.le_refl _⟩
  case round =>
    obtain ⟨n, s, rfl, rfl, HD, hn⟩ := hrel
    have hss : s.size ≤ 20 := by
      have := congrArg List.length HD.out
      rw [List.length_append] at this
      have h2 : s.data.toList.length = s.size := by simp
      omega
    by_cases h9 : 9 < n
    · have h9' : 9 < (n : Int) := by omega
      have hE : Hid (Lib.decDigits N = Lib.decDigits (n / 10) ++ (digitB (n % 10) ++ s).data.toList) := Lib.hid (by
        rw [HD.out]
        conv => lhs; unfold Lib.decDigits
        rw [dif_neg (by omega)]
        simp [digitB])
      have HSL := Lib.hid (digit_slice (Nat.mod_lt n (by omega : 0 < 10)))
      go_wp2
      exact ⟨⟨n / 10, digitB (n % 10) ++ s, rfl, by rw [HSL.out], hE, by omega⟩, by simp only [intOf]; omega⟩
    · have h9' : ¬ 9 < (n : Int) := by omega
      have HE : Hid ((⟨#[48, 49, 50, 51, 52, 53, 54, 55, 56, 57]⟩ : ByteArray).extract n (n + 1) ++ s = decB N) := Lib.hid (by
        rw [digit_slice (by omega)]
        unfold decB
        rw [HD.out]
        conv => rhs; unfold Lib.decDigits
        rw [dif_pos (by omega)]
        exact ByteArray.ext (by simp [digitB]))
      have hn10 : (n : Int) < 10 := by omega
      go_wp2
      go_ret
      exact ⟨by rw [← HE.out]; first | rfl | (simp; done), rfl⟩
set_option maxRecDepth 100000 in
set_option maxHeartbeats 1000000 in
theorem rsigned_pos (n : Int) (w : World) (h0 : 0 ≤ n) (h1 : n ≤ 9223372036854775807) : Calls Tryd.prog 24 #[.int .i64 n] w fun e w' => e = .returned (.string ⟨(Lib.itoa n).toArray⟩) ∧ w = w' := by
  have HN : Hid (decB n.toNat = ⟨(Lib.itoa n).toArray⟩) := Lib.hid (by unfold decB Lib.itoa; rw [if_neg (by omega)])
  obtain ⟨k, rfl⟩ := Int.eq_ofNat_of_zero_le h0
  rw [Int.toNat_natCast] at HN
  rw [← HN.out]
  go_enter Tryd.func24, Tryd.ntmps24
  go_wp2_with fail
  refine (rdigits_any k _ (by omega)).mono ?_
  rintro e w2 ⟨rfl, rfl⟩
  go_wp2
  go_ret
  exact ⟨rfl, rfl⟩
set_option maxRecDepth 100000 in
set_option maxHeartbeats 1000000 in
theorem rkname_any (k : Int) (w : World) : Calls Tryd.prog 9 #[.int .i64 k] w fun e w' => e = .returned (.string (Ki.name k)) ∧ Ext w w' := by
  have HKN := Lib.hid fun v => rknown_any k v
  have HKE := Lib.hid fun v => rexp_any k v
  cases hk : Ki.known k with
  | true =>
    have hb : 1 ≤ k ∧ k ≤ 10 := by unfold Ki.known at hk; exact of_decide_eq_true hk
    have HK := Lib.hid hk
    have hc : k = 1 ∨ k = 2 ∨ k = 3 ∨ k = 4 ∨ k = 5 ∨ k = 6 ∨ k = 7 ∨ k = 8 ∨ k = 9 ∨ k = 10 := by omega
    clear hk hb
    rcases hc with rfl | rfl | rfl | rfl | rfl | rfl | rfl | rfl | rfl | rfl
    all_goals
      go_enter Tryd.func9, Tryd.ntmps9
      go_wp2_with fail
      refine (HKN.out _).mono ?_
      rintro e w2 ⟨he, rfl⟩
      rw [HK.out] at he
      subst he
      go_wp2
      go_ret
      exact ⟨rfl, (Ext.refl _).alloc _⟩
  | false =>
    have HK := Lib.hid hk
    cases hx : Ki.exp k with
    | true =>
      have HX := Lib.hid hx
      have hb : 128 ≤ k ∧ k ≤ 255 := by unfold Ki.exp at hx; exact of_decide_eq_true hx
      have HN := Lib.hid (Ki.name_exp hx)
      have hlen := Ki.itoa_len hb
      obtain ⟨t, htt⟩ : ∃ t : ByteArray, (⟨(Lib.itoa k).toArray⟩ : ByteArray) = t := ⟨_, rfl⟩
      have hts : t.size ≤ 3 := by rw [← htt]; simpa [ByteArray.size] using hlen
      have HTT := Lib.hid htt
      rw [← HN.out, htt]
      clear hx htt hlen hk
      go_enter Tryd.func9, Tryd.ntmps9
      go_wp2_with fail
      refine (HKN.out _).mono ?_
      rintro e w2 ⟨he, rfl⟩
      rw [HK.out] at he
      subst he
      go_wp2_with fail
      refine (HKE.out _).mono ?_
      rintro e w2 ⟨he, rfl⟩
      rw [HX.out] at he
      subst he
      go_wp2_with fail
      refine (rsigned_pos k _ (by omega) (by omega)).mono ?_
      rintro e w3 ⟨he3, rfl⟩
      rw [HTT.out] at he3
      subst he3
      go_wp2
      go_ret
      exact ⟨rfl, (Ext.refl _).alloc _⟩
    | false =>
      have HX := Lib.hid hx
      rw [Ki.name_none hx hk]
      clear hx hk
      go_enter Tryd.func9, Tryd.ntmps9
      go_wp2_with fail
      refine (HKN.out _).mono ?_
      rintro e w2 ⟨he, rfl⟩
      rw [HK.out] at he
      subst he
      go_wp2_with fail
      refine (HKE.out _).mono ?_
      rintro e w2 ⟨he, rfl⟩
      rw [HX.out] at he
      subst he
      go_wp2
      go_ret
      exact ⟨rfl, (Ext.refl _).alloc _⟩

end Go.Proofs.YtaeollnaigphlaaDoor
