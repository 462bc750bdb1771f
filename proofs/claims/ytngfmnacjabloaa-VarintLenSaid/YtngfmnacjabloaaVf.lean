/-
  The walk of the statement VarintLen: for every number it returns true, and leaves what was there as it was.
-/
import Derived.Test.YtngfmnacjabloaaVd
namespace Go.Proofs.Ytngfmnacjabloaa
open Go.RowKit

set_option maxRecDepth 100000 in
set_option maxHeartbeats 4000000 in
theorem vlen_out (n : Int) (w : World) (h : n < 0 ∨ 4611686018427387904 ≤ n) :
    Calls Try.prog 6 #[.int .i64 n] w fun e w' => e = .returned (.bool true) ∧ Ext w w' := by
  rcases h with h | h
  all_goals
    go_enter Try.func6, Try.ntmps6
    go_wp2_with (go_at_call 8; refine (fixed_yes _).mono ?_; rintro e w1 ⟨rfl, hb1⟩)
    all_goals (go_ret; exact ⟨rfl, (by repeat (first | exact Ext.refl _ | assumption | refine Ext.trans (by assumption) ?_))⟩)

set_option maxRecDepth 100000 in
set_option maxHeartbeats 4000000 in
theorem vlen_in (n : Int) (w : World) (h0 : 0 ≤ n) (h1 : n < 4611686018427387904) :
    Calls Try.prog 6 #[.int .i64 n] w fun e w' => e = .returned (.bool true) ∧ Ext w w' := by
  have hm : n.toNat < Va.most := by unfold Va.most; omega
  have H9 := Lib.hid (Va.put_len_most hm); clear hm
  have HC := Lib.hid (Va.cnt_put n.toNat)
  have HZ := Lib.hid (Va.puts_size n.toNat)
  have hz9 : (Va.puts n.toNat).size ≤ 9 := by rw [HZ.out]; exact H9.out
  go_enter Try.func6, Try.ntmps6
  go_wp2_with fail
  refine (fixed_yes _).mono ?_
  rintro e w1 ⟨rfl, hb1⟩
  go_wp2_with fail
  refine (put_str n _ (by omega) (by omega)).mono ?_
  rintro e w2 ⟨rfl, hb2⟩
  go_wp2_with fail
  go_loop [4, 5] (fun p v => ∃ m k : Nat, p = .int .i64 k ∧ v = .int .i64 m ∧ k + Va.cnt m = (Va.put n.toNat).length ∧ m ≤ n.toNat) (fun _ v => (intOf v).toNat)
  case atStart => exact ⟨n.toNat / 128, 1, rfl, by simp; omega, by rw [HC.out], by omega⟩
  case round =>
    obtain ⟨m, k, rfl, rfl, hs, hmn⟩ := hrel
    have HS := Lib.hid hs; clear hs
    have hk9 : k ≤ 9 := by have := HS.out; have := H9.out; omega
    have HN := Lib.hid hmn; clear hmn
    by_cases hm : 0 < m
    · have hmb : (m : Int) ≤ n := by have := HN.out; omega
      go_wp2
      go_round
      case rel => exact ⟨m / 128, k + 1, by go_num, by go_num, by have := HS.out; rw [Va.cnt_step hm] at this; omega, by have := HN.out; omega⟩
      case measure => simp [intOf]; omega
    · have hk : k = (Va.puts n.toNat).size := by
        have := HS.out
        have h0 : m = 0 := by omega
        rw [h0] at this
        rw [HZ.out, ← this]; rfl
      subst hk
      clear HS HN
      go_wp2
      go_loop [6] (fun i => ∃ j : Nat, i = .int .i64 j ∧ j ≤ (Va.puts n.toNat).size) (fun i => 10 - (intOf i).toNat)
      case atStart => exact ⟨0, rfl, by omega⟩
      case round =>
        obtain ⟨j, rfl, hj⟩ := hrel
        by_cases hlt : j < (Va.puts n.toNat).size
        · have HH := Lib.hid (Va.puts_high n.toNat j hlt)
          by_cases hl : j + 1 < (Va.puts n.toNat).size
          · have hA : decide (128 ≤ ((Va.puts n.toNat)[j].toNat : Int)) = true := by have := HH.out.2 hl; simp; omega
            have hB : decide ((j : Int) + 1 < ((Va.puts n.toNat).size : Int)) = true := by simp; omega
            go_wp2
            go_round
            case rel => exact ⟨j + 1, by go_num, by omega⟩
            case measure => simp [intOf]; omega
          · have hA : decide (128 ≤ ((Va.puts n.toNat)[j].toNat : Int)) = false := by have := HH.out; simp; omega
            have hB : decide ((j : Int) + 1 < ((Va.puts n.toNat).size : Int)) = false := by simp; omega
            go_wp2
            go_round
            case rel => exact ⟨j + 1, by go_num, by omega⟩
            case measure => simp [intOf]; omega
        · go_wp2_with (go_at_call 13; refine (len_str n _ (by omega) (by omega)).mono ?_; rintro e w3 ⟨rfl, rfl⟩)
          go_ret
          exact ⟨rfl, (by repeat (first | exact Ext.refl _ | assumption | refine Ext.trans (by assumption) ?_))⟩

theorem walk_VarintLen (n : Int) (_ : (Lit.int .i64 n).wf = true) (w : World) :
    Calls Try.prog 6 #[.int .i64 n] w fun e w' => e = .returned (.bool true) ∧ Ext w w' := by
  by_cases h : n < 0 ∨ 4611686018427387904 ≤ n
  · exact vlen_out n w h
  · exact vlen_in n w (by omega) (by omega)

end Go.Proofs.Ytngfmnacjabloaa
