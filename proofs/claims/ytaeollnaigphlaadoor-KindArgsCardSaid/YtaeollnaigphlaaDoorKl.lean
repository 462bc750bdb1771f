/-
  KindNames.
-/
import Derived.Test.YtaeollnaigphlaaDoorKj
set_option linter.unusedVariables false
set_option linter.unusedSimpArgs false
namespace Go.Proofs.YtaeollnaigphlaaDoor
open Go.RowKit Go.Maps

set_option maxRecDepth 1000000 in
theorem Ki.of_names : ((List.range 256).all fun k => !(Ki.known k || Ki.exp k) || Ki.of (Ki.name k) == k) = true := by decide +kernel
theorem not_false_of {b : Bool} (h : (!b) = false) : b = true := by cases b <;> simp_all
theorem Ki.of_name {k : Int} (h : Ki.known k = true ∨ Ki.exp k = true) : (Ki.of (Ki.name k) : Int) = k := by
  have hb : 1 ≤ k ∧ k ≤ 255 := by
    rcases h with h | h
    · unfold Ki.known at h; have := of_decide_eq_true h; omega
    · unfold Ki.exp at h; have := of_decide_eq_true h; omega
  obtain ⟨n, rfl⟩ : ∃ n : Nat, k = n := ⟨k.toNat, by omega⟩
  have h2 := List.all_eq_true.1 Ki.of_names n (List.mem_range.2 (by omega))
  have h3 : (Ki.known (n : Int) || Ki.exp (n : Int)) = true := by rcases h with h | h <;> simp [h]
  rw [h3] at h2
  simp only [Bool.not_true, Bool.false_or, beq_iff_eq] at h2
  rw [h2]
theorem Ki.empty_iff (k : Int) : (Ki.name k).toList.isEmpty = !(Ki.known k || Ki.exp k) := by
  cases h : (Ki.known k || Ki.exp k) with
  | true =>
    have h2 := Ki.name_ne (k := k) (by simpa using h)
    cases h3 : (Ki.name k).toList with
    | nil => exact absurd h3 h2
    | cons => rfl
  | false =>
    simp only [Bool.or_eq_false_iff] at h
    rw [Ki.name_none h.2 h.1, Lib.toList_data]
    rfl
/-- Two kinds that have names have the same just if they are the same. -/
theorem Ki.name_inj {a b : Int} (ha : (Ki.name a).toList.isEmpty = false) (hb : (Ki.name b).toList.isEmpty = false) : ((Ki.name a).toList == (Ki.name b).toList) = (a == b) := by
  rw [Ki.empty_iff] at ha hb
  have h1 := Ki.of_name (k := a) ((Bool.or_eq_true _ _).mp (not_false_of ha))
  have h2 := Ki.of_name (k := b) ((Bool.or_eq_true _ _).mp (not_false_of hb))
  by_cases h : a = b
  · subst h; simp
  · have h3 : (a == b) = false := by simpa using h
    rw [h3]
    simp only [beq_eq_false_iff_ne]
    intro hl
    rw [Lib.toList_data, Lib.toList_data] at hl
    have e : Ki.name a = Ki.name b := ByteArray.ext (Array.toList_inj.1 hl)
    rw [e] at h1
    exact h (h1.symm.trans h2)
theorem Ki.name_size (k : Int) : (Ki.name k).size ≤ 100 := by
  cases hk : Ki.known k with
  | true =>
    have hb : 1 ≤ k ∧ k ≤ 10 := by unfold Ki.known at hk; exact of_decide_eq_true hk
    have hc : k = 1 ∨ k = 2 ∨ k = 3 ∨ k = 4 ∨ k = 5 ∨ k = 6 ∨ k = 7 ∨ k = 8 ∨ k = 9 ∨ k = 10 := by omega
    rcases hc with rfl | rfl | rfl | rfl | rfl | rfl | rfl | rfl | rfl | rfl <;> decide
  | false =>
    cases hx : Ki.exp k with
    | true =>
      have hb : 128 ≤ k ∧ k ≤ 255 := by unfold Ki.exp at hx; exact of_decide_eq_true hx
      rw [← Ki.name_exp hx, ByteArray.size_append]
      have := Ki.itoa_len hb
      show 3 + (Lib.itoa k).toArray.size ≤ 100
      simp; omega
    | false => rw [Ki.name_none hx hk]; decide

end Go.Proofs.YtaeollnaigphlaaDoor
