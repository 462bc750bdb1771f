/-
  The walk of the statement VarintCut: for every three numbers it returns true, and leaves what was there as it was.
-/
import Derived.Test.YtngfmnacjabloaaVd
import Derived.OpenShut
import Derived.Lib.Bytes
namespace Go.Proofs.Ytngfmnacjabloaa
open Go.RowKit

set_option maxRecDepth 100000 in
set_option maxHeartbeats 4000000 in
theorem cut_out (n m c : Int) (w : World) (h : n < 0 ∨ m < n ∨ 4611686018427387904 ≤ m) :
    Calls Try.prog 5 #[.int .i64 n, .int .i64 m, .int .i64 c] w fun e w' => e = .returned (.bool true) ∧ Ext w w' := by
  rcases h with h | h | h
  all_goals
    go_enter Try.func5, Try.ntmps5
    go_wp2_with (go_at_call 8; refine (fixed_yes _).mono ?_; rintro e w1 ⟨rfl, hb1⟩)
    all_goals (go_ret; exact ⟨rfl, (by repeat (first | exact Ext.refl _ | assumption | refine Ext.trans (by assumption) ?_))⟩)

set_option maxRecDepth 100000 in
set_option maxHeartbeats 4000000 in
theorem cut_in (n m c : Int) (w : World) (h0 : 0 ≤ n) (h1 : n ≤ m) (h2 : m < 4611686018427387904) :
    Calls Try.prog 5 #[.int .i64 n, .int .i64 m, .int .i64 c] w fun e w' => e = .returned (.bool true) ∧ Ext w w' := by
  have hn : n.toNat < Va.most := by unfold Va.most; omega
  have HC := Lib.hid (fun k (hk : k < (Va.put n.toNat).length) => Va.take_cut hn hk)
  have hM := Va.put_mono n.toNat m.toNat (by omega)
  have hl9 := Va.put_len_most hn
  have hl0 := Va.put_len_pos n.toNat
  clear hn
  by_cases hc : c < 0 ∨ ((Va.put n.toNat).length : Int) ≤ c
  · rcases hc with hc | hc
    all_goals
      go_enter Try.func5, Try.ntmps5
      go_wp2_with fail
      refine (fixed_yes _).mono ?_
      rintro e w1 ⟨rfl, hb1⟩
      go_wp2_with fail
      refine (put_int n _ (by omega) (by omega)).mono ?_
      rintro e w2 ⟨rfl, hb2⟩
      go_wp2_with fail
      refine (len_int n _ (by omega) (by omega)).mono ?_
      rintro e w3 ⟨rfl, rfl⟩
      go_wp2_with fail
      refine (len_int m _ (by omega) (by omega)).mono ?_
      rintro e w3 ⟨rfl, rfl⟩
      go_wp2_with fail
      go_ret
      exact ⟨rfl, (by repeat (first | exact Ext.refl _ | assumption | refine Ext.trans (by assumption) ?_))⟩
  · have hc0 : 0 ≤ c := by omega
    have hc1 : c < ((Va.put n.toNat).length : Int) := by omega
    clear hc
    go_enter Try.func5, Try.ntmps5
    go_wp2_with fail
    refine (fixed_yes _).mono ?_
    rintro e w1 ⟨rfl, hb1⟩
    go_wp2_with fail
    refine (put_int n _ (by omega) (by omega)).mono ?_
    rintro e w2 ⟨rfl, hb2⟩
    go_wp2_with fail
    refine (len_int n _ (by omega) (by omega)).mono ?_
    rintro e w3 ⟨rfl, rfl⟩
    go_wp2_with fail
    refine (len_int m _ (by omega) (by omega)).mono ?_
    rintro e w3 ⟨rfl, rfl⟩
    go_wp2_with fail
    have hz : c.toNat ≤ (Va.put n.toNat).length := by omega
    refine (take_bad_int _ 0 10 _ (by omega) (by rw [Lib.extract_data]; simpa using HC.out c.toNat (by omega)) (by omega) (by simp [maxLen]; omega) (by simp)).mono ?_
    rintro e w3 ⟨rfl, rfl⟩
    go_wp2_with fail
    go_ret
    exact ⟨rfl, (by repeat (first | exact Ext.refl _ | assumption | refine Ext.trans (by assumption) ?_))⟩

theorem walk_VarintCut (n m c : Int) (_ : (Lit.int .i64 n).wf = true) (_ : (Lit.int .i64 m).wf = true) (_ : (Lit.int .i64 c).wf = true) (w : World) :
    Calls Try.prog 5 #[.int .i64 n, .int .i64 m, .int .i64 c] w fun e w' => e = .returned (.bool true) ∧ Ext w w' := by
  by_cases h : n < 0 ∨ m < n ∨ 4611686018427387904 ≤ m
  · exact cut_out n m c w h
  · exact cut_in n m c w (by omega) (by omega) (by omega)

end Go.Proofs.Ytngfmnacjabloaa
