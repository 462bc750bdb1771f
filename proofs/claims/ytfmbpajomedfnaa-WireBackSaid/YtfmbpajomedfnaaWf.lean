/-
  The walk of the statement WireBytes: for every text it returns true, and leaves what was there as it was.
-/
import Derived.Test.YtfmbpajomedfnaaWe
import Derived.Deep.RegionWith
namespace Go.Proofs.Ytfmbpajomedfnaa
open Go.RowKit

set_option maxRecDepth 100000 in
set_option maxHeartbeats 1000000 in
theorem wbytes_out (s : ByteArray) (hs : s.size ≤ maxLen) (w : World) (h : 1000 < s.size) :
    Calls Try.prog 8 #[.string s] w fun e w' => e = .returned (.bool true) ∧ Ext w w' := by
  unfold maxLen at hs
  go_enter Try.func8, Try.ntmps8
  go_wp2_with (go_at_call 9; refine (wfixed_yes _).mono ?_; rintro e w1 ⟨rfl, hb1⟩)
  all_goals (go_ret; exact ⟨rfl, (by repeat (first | exact Ext.refl _ | assumption | refine Ext.trans (by assumption) ?_))⟩)

theorem Wi.byte_in (s : ByteArray) (k : Nat) (h : k < s.size) : Wi.byte s k 0 = ((s[k].toNat : Int), ((k : Int) + 1), 0) := by
  unfold Wi.byte Wi.first
  rw [Wi.take_in s k 1 (by omega) (by omega)]
  have hz : 0 < (s.extract (k : Int).toNat ((k : Int) + 1).toNat).size := by simp; omega
  simp only
  rw [dif_pos hz]
  congr 2
  simp [ByteArray.getElem_extract]

set_option maxRecDepth 100000 in
set_option maxHeartbeats 1000000 in
theorem wbytes_in (s : ByteArray) (w : World) (h : s.size ≤ 1000) :
    Calls Try.prog 8 #[.string s] w fun e w' => e = .returned (.bool true) ∧ Ext w w' := by
  have HS : Hid (s.size ≤ maxLen) := Lib.hid (by unfold maxLen; omega)
  go_enter Try.func8, Try.ntmps8
  go_wp2_with fail
  refine (wfixed_yes _).mono ?_
  rintro e w1 ⟨rfl, hx1⟩
  go_wp2_with fail
  refine (new_any s _).mono ?_
  rintro e w3 ⟨rfl, hr3, hx3⟩
  have hg : w.heap.size ≤ w1.heap.size := hx1.size
  have HX : Hid (Ext w w3) := Lib.hid (hx1.trans hx3)
  clear hx1 hx3
  generalize w1.heap.size = g at *
  have HR := Lib.hid hr3
  clear hr3
  go_wp2_with fail
  go_loopw [4] (fun i wr => ∃ k : Nat, k ≤ s.size ∧ i = .int .i64 k ∧ RD wr g s k 0 ∧ Ext w wr) (fun i _ => s.size - (intOf i).toNat)
  case atStart => exact ⟨0, by omega, rfl, HR.out, HX.out⟩
  case round =>
    obtain ⟨k, hk, rfl, hr, hx⟩ := hrel
    have HR := Lib.hid hr; clear hr
    have HX := Lib.hid hx; clear hx
    by_cases hlt : k < s.size
    · have hb : (s[k].toNat : Int) ≤ 255 := by have := s[k].toNat_lt; omega
      have HB := Lib.hid (Wi.byte_in s k hlt)
      have hwr : IntKind.i64.wrap (s[k].toNat : Int) = (s[k].toNat : Int) := IntWalk.i64_in _ (by omega)
      go_wp2_with fail
      go_region_with (first | (go_at_call 20; refine (at_any _ _ _ _ _ HR.out.drew).mono ?_; rintro e w4 ⟨rfl, rfl⟩) | (go_at_call 13; refine (byte_eq _ HR.out.drew HS.out (by omega) (by omega) HB.out).mono ?_; rintro e w5 ⟨rfl, hr5, hu5⟩))
      all_goals
        go_wp2
        refine ⟨⟨k + 1, by omega, by go_num, by rw [Int.natCast_add]; exact hr5, HX.out.drew.upd hu5 hg⟩, ?_⟩
        simp [intOf]; omega
    · obtain rfl : k = s.size := by omega
      go_wp2_with (go_at_call 21; refine (done_eq true HR.out (beq_self_eq_true _)).mono ?_; rintro e w6 ⟨rfl, hr6, hu6⟩)
      go_ret
      exact ⟨rfl, HX.out.upd hu6 hg⟩

theorem walk_WireBytes (s : ByteArray) (hs : s.size ≤ maxLen) (w : World) :
    Calls Try.prog 8 #[.string s] w fun e w' => e = .returned (.bool true) ∧ Ext w w' := by
  by_cases h : 1000 < s.size
  · exact wbytes_out s hs w h
  · exact wbytes_in s w (by omega)

end Go.Proofs.Ytfmbpajomedfnaa
