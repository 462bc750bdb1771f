/-
  Contracts of the functions of package varint: what each call returns, and that it leaves what was there as it was.
-/
import Derived.Test.YthkalaohaholaaaLa
import Derived.Test.YthkalaohaholaaaVa
set_option linter.unusedVariables false
set_option linter.unusedSimpArgs false
namespace Go.Proofs.Ythkalaohaholaaa
open Go.RowKit

theorem may_yes (n : Int) (w : World) (h0 : 0 ≤ n) (h1 : n < 4611686018427387904) :
    Calls Try.prog 42 #[.int .i64 n] w fun e w' => e = .returned (.bool true) ∧ w = w' := by
  go_enter Try.func42, Try.ntmps42
  go_wp2
  go_ret
  exact ⟨rfl, rfl⟩

theorem may_no (n : Int) (w : World) (h : n < 0 ∨ 4611686018427387904 ≤ n) :
    Calls Try.prog 42 #[.int .i64 n] w fun e w' => e = .returned (.bool false) ∧ w = w' := by
  rcases h with h | h
  · go_enter Try.func42, Try.ntmps42
    go_wp2
    go_ret
    exact ⟨rfl, rfl⟩
  · have hd : decide (n < 4611686018427387904) = false := by simpa using h
    go_enter Try.func42, Try.ntmps42
    go_wp2
    go_ret
    exact ⟨rfl, rfl⟩

theorem put_no (n : Int) (w : World) (h : n < 0 ∨ 4611686018427387904 ≤ n) :
    Calls Try.prog 39 #[.int .i64 n] w fun e w' => e = .returned (.string ⟨#[]⟩) ∧ w = w' := by
  go_enter Try.func39, Try.ntmps39
  go_wp2_with (go_at_call 42; refine (may_no _ _ h).mono ?_; rintro e w' ⟨rfl, rfl⟩)
  go_ret
  exact ⟨rfl, rfl⟩

set_option maxRecDepth 100000 in
theorem put_yes (n : Nat) (w : World) (h1 : n < Va.most) :
    Calls Try.prog 39 #[.int .i64 n] w fun e w' => e = .returned (.string ⟨(Va.put n).toArray⟩) ∧ Ext w w' := by
  have H := Lib.hid (Va.put_len_most h1)
  have H1 := Lib.hid (Va.most_int h1); clear h1
  obtain ⟨i0, hi, hz0, hz1, hz2⟩ := info_parts Try.infoU8
  go_enter Try.func39, Try.ntmps39
  go_wp2_with (go_at_call 42; refine (may_yes _ _ (by omega) H1.out).mono ?_; rintro e w' ⟨rfl, rfl⟩)
  go_loopw [0, 3] (fun v o wr => ∃ (m : Nat) (l : List UInt8), v = .int .i64 m ∧ wr.ownsRow w.heap.size 5 1 o l.length (bytesV l) ∧ l ++ Va.put m = Va.put n ∧ Below w.heap.size w wr ∧ (m : Int) ≤ 9223372036854775807) (fun v _ _ => (intOf v).toNat)
  case atStart => exact ⟨n, [], rfl, ⟨by simp [bytesV], .inl ⟨rfl, rfl⟩⟩, rfl, Below.refl _ _, by have := H1.out; omega⟩
  case round =>
    obtain ⟨m, l, rfl, hown, hs, hbel, hmn⟩ := hrel
    clear H1
    have hll : l.length ≤ 9 := by have := congrArg List.length hs; have := H.out; simp at *; omega
    have HS := Lib.hid hs; clear hs
    by_cases hm : 128 ≤ m
    · go_wp2_with (at_builtin; refine wpList_append_own _ rfl _ _ 68 rfl w.heap.size 5 i0 (.int .u8 0) 1 1 Try.underlying68 hi hz0 hz1 hz2 rfl (by decide) _ _ _ rfl (hown.alloc _) ⟨wr.heap.size, 0, none⟩ 1 1 [.int .u8 ((m : Int) % 128 + 128)] rfl rfl ?c1 ?c2 ?c3 ?c4 ?c5 ?_)
      case c1 => exact one_new _ _ _
      case c2 => simp [Value.oneCell']
      case c3 => simp [maxLen]; omega
      case c4 => omega
      case c5 => have := hbel.size; simp; omega
      intro v' w1 hown1 hgrow _
      have hb1 : Below w.heap.size w w1 := (hbel.alloc hbel.size _).grown hgrow (by have := hbel.size; simp; omega) (own_block_le hown)
      have HO : Hid (w1.ownsRow w.heap.size 5 1 v' (l ++ [UInt8.ofNat (m % 128 + 128)]).length (bytesV (l ++ [UInt8.ofNat (m % 128 + 128)]))) := Lib.hid (by rw [bytesV_append, List.length_append]; simp only [bytesV, List.map_cons, List.map_nil, List.length_singleton, u8_mod]; exact hown1)
      clear hown hbel hgrow hown1
      go_wp2
      go_roundw
      case rel => exact ⟨m / 128, _, by go_num, HO.out, by have := HS.out; rw [Va.put_big hm] at this; simpa using this, hb1, by omega⟩
      case measure => simp [intOf]; omega
    · go_wp2_with (at_builtin; refine wpList_append_own _ rfl _ _ 68 rfl w.heap.size 5 i0 (.int .u8 0) 1 1 Try.underlying68 hi hz0 hz1 hz2 rfl (by decide) _ _ _ rfl (hown.alloc _) ⟨wr.heap.size, 0, none⟩ 1 1 [.int .u8 (m : Int)] rfl rfl ?c1 ?c2 ?c3 ?c4 ?c5 ?_)
      case c1 => exact one_new _ _ _
      case c2 => simp [Value.oneCell']
      case c3 => simp [maxLen]; omega
      case c4 => omega
      case c5 => have := hbel.size; simp; omega
      intro v' w1 hown1 hgrow _
      have hb1 : Below w.heap.size w w1 := (hbel.alloc hbel.size _).grown hgrow (by have := hbel.size; simp; omega) (own_block_le hown)
      have HO : Hid (w1.ownsRow w.heap.size 5 1 v' (l ++ [UInt8.ofNat m]).length (bytesV (l ++ [UInt8.ofNat m]))) := Lib.hid (by rw [bytesV_append, List.length_append]; simp only [bytesV, List.map_cons, List.map_nil, List.length_singleton, u8_low (show m < 128 by omega)]; exact hown1)
      clear hown hbel hgrow hown1
      have hcv := run_convert_own (P := Try.prog) w1 68 9 5 w.heap.size v' _ HO.out Try.underlying68 Try.underlying5 Try.underlying9
      go_wp2
      go_ret
      refine ⟨?_, hb1⟩
      have := HS.out; rw [Va.put_small (by omega)] at this
      simp [this]
end Go.Proofs.Ythkalaohaholaaa
