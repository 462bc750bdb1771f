/-
  The document's kind of a name: contract.
-/
import Derived.Test.YtaeollnaigphlaaDoorKd
set_option linter.unusedVariables false
set_option linter.unusedSimpArgs false
namespace Go.Proofs.YtaeollnaigphlaaDoor
open Go.RowKit

theorem Ki.itoa_ne {k : Int} : [101, 120, 112] ++ Lib.itoa k ≠ ([] : List UInt8) := by simp
theorem Ki.name_ne {k : Int} (h : Ki.known k = true ∨ Ki.exp k = true) : (Ki.name k).toList ≠ [] := by
  rw [Lib.toList_data]
  show Ki.nameL k ≠ []
  unfold Ki.nameL
  by_cases hk : Ki.known k = true
  · rw [if_pos hk]
    have hb : 1 ≤ k ∧ k ≤ 10 := by unfold Ki.known at hk; exact of_decide_eq_true hk
    have hc : k = 1 ∨ k = 2 ∨ k = 3 ∨ k = 4 ∨ k = 5 ∨ k = 6 ∨ k = 7 ∨ k = 8 ∨ k = 9 ∨ k = 10 := by omega
    rcases hc with rfl | rfl | rfl | rfl | rfl | rfl | rfl | rfl | rfl | rfl <;> decide
  · rw [if_neg hk]
    rcases h with h | h
    · exact absurd h hk
    · rw [if_pos h]; simp
/-- A name that is none is no kind's; any other one is a kind's just if it is that kind's name. -/
theorem Ki.hit_eq {s : ByteArray} (hs : s.toList ≠ []) (k : Nat) : Ki.hit s k = ((Ki.name k).toList == s.toList) := by
  unfold Ki.hit
  cases hk : Ki.known (k : Int) with
  | true => rfl
  | false =>
    cases hx : Ki.exp (k : Int) with
    | true => rfl
    | false =>
      rw [Ki.name_none hx hk]
      symm
      simp only [Bool.or_self, Bool.false_and, beq_eq_false_iff_ne]
      intro h
      exact hs (by rw [← h, Lib.toList_data])
theorem Ki.of_empty {s : ByteArray} (hs : s.toList = []) : Ki.of s = 0 := Ki.of_none fun j _ => by
  unfold Ki.hit
  cases hk : Ki.known (j : Int) with
  | true =>
    simp only [Bool.true_or, Bool.true_and, beq_eq_false_iff_ne, hs]
    exact Ki.name_ne (.inl hk)
  | false =>
    cases hx : Ki.exp (j : Int) with
    | true =>
      simp only [Bool.or_true, Bool.true_and, beq_eq_false_iff_ne, hs]
      exact Ki.name_ne (.inr hx)
    | false => rfl
set_option maxRecDepth 100000 in
set_option maxHeartbeats 1000000 in
theorem rkof_any (s : ByteArray) (w : World) (hs : s.size ≤ maxLen) : Calls Tryd.prog 18 #[.string s] w fun e w' => e = .returned (.int .i64 (Ki.of s : Nat)) ∧ Ext w w' := by
  obtain ⟨r, hr⟩ : ∃ r, Ki.of s = r := ⟨_, rfl⟩
  have HR := Lib.hid hr
  rw [hr]
  clear hs
  by_cases he : s.toList = []
  · obtain rfl : r = 0 := by rw [← hr]; exact Ki.of_empty he
    have he2 : s.toList.isEmpty = true := by rw [he]; rfl
    clear hr
    go_enter Tryd.func18, Tryd.ntmps18
    go_wp2
    go_loop [3] (fun iv => iv = .int .i64 1) (fun _ => 0)
    case atStart => rfl
    case round =>
      obtain rfl := hrel
      go_wp2
      go_ret
      exact ⟨rfl, Ext.refl _⟩
  · have he2 : s.toList.isEmpty = false := by cases hq : s.toList with
      | nil => exact absurd hq he
      | cons a b => rfl
    have HHE := Lib.hid (Ki.hit_eq he)
    have HZ : Hid (∀ j, j < 1 → Ki.hit s j = false) := Lib.hid fun j hj => by
      obtain rfl : j = 0 := by omega
      rfl
    clear hr
    go_enter Tryd.func18, Tryd.ntmps18
    go_wp2
    go_loopw [3] (fun iv wr => ∃ k : Nat, 1 ≤ k ∧ k ≤ 256 ∧ iv = .int .i64 k ∧ Hid (∀ j, j < k → Ki.hit s j = false) ∧ Ext w wr) (fun iv _ => 256 - (intOf iv).toNat)
    case atStart => exact ⟨1, by omega, by omega, rfl, HZ, Ext.refl _⟩
    case round =>
      obtain ⟨k, hk1, hk2, rfl, HN, hx⟩ := hrel
      have HX := Lib.hid hx
      clear hx
      by_cases hlt : k ≤ 255
      · have hlt' : (k : Int) < 256 := by omega
        have HM : Hid (Ki.hit s k = false → ∀ j, j < k + 1 → Ki.hit s j = false) := Lib.hid fun h j hj => by
          by_cases hjk : j < k
          · exact HN.out j hjk
          · obtain rfl : j = k := by omega
            exact h
        have HF : Hid (Ki.hit s k = true → r = k) := Lib.hid fun h => by rw [← HR.out]; exact Ki.of_some (by omega) h HN.out
        have HH : Hid (Ki.hit s k = ((Ki.name k).toList == s.toList)) := Lib.hid (HHE.out k)
        generalize Ki.hit s k = hb at *
        have HNM := Lib.hid (rkname_any k wr)
        generalize Ki.name k = nm at *
        cases hq : (nm.toList == s.toList) with
        | true =>
          obtain rfl := HF.out (by rw [HH.out, hq])
          have HQ := Lib.hid hq
          clear hq
          go_wp2_with fail
          refine HNM.out.mono ?_
          rintro e w2 ⟨rfl, hx2⟩
          have hq := HQ.out
          go_wp2
          go_ret
          exact ⟨rfl, HX.out.trans hx2⟩
        | false =>
          have HG := Lib.hid (HM.out (by rw [HH.out, hq]))
          have HQ := Lib.hid hq
          clear hq
          go_wp2_with fail
          refine HNM.out.mono ?_
          rintro e w2 ⟨rfl, hx2⟩
          have hq := HQ.out
          go_wp2
          go_roundw
          case rel => exact ⟨k + 1, by omega, by omega, by go_num, HG, HX.out.trans hx2⟩
          case measure => simp [intOf]; omega
      · obtain rfl : k = 256 := by omega
        obtain rfl : r = 0 := by rw [← HR.out]; exact Ki.of_none HN.out
        go_wp2
        go_ret
        exact ⟨rfl, HX.out⟩

end Go.Proofs.YtaeollnaigphlaaDoor
