/-
  Numbers appended to a slice of the call's own; two slices that lie apart.
-/
import Derived.Test.YthkalaohaholaaaGc
set_option linter.unusedVariables false
set_option linter.unusedSimpArgs false
namespace Go.Proofs.Ythkalaohaholaaa
open Go.RowKit

theorem intsV_append (a b : List Int) : intsV (a ++ b) = intsV a ++ intsV b := by simp [intsV]
theorem ints_one (v : World) (x : Int) : IntsAt (v.alloc (.cells #[.int .i64 x] 3)) (.slice (some ⟨v.heap.size, 0, none⟩) 1 1) [x] := by
  refine ⟨_, 1, rfl, fun _ => ⟨v.heap.size, 0, rfl, by simp, fun j p hj => ?_⟩⟩
  match j with
  | 0 => simp at hj; subst hj; exact blk_cell (blk_new v _) 0 _ rfl
  | j + 1 => simp at hj
/-- Two slices that lie in blocks of their own. -/
def Apart (d r : Value) : Prop := d.ownBlock = none ∨ d.ownBlock ≠ r.ownBlock
theorem Apart.symm' {d r : Value} (h : Apart d r) : Apart r d := by
  unfold Apart at *
  cases hr : r.ownBlock with
  | none => exact .inl rfl
  | some k =>
    right
    rcases h with h | h
    · rw [h]; simp
    · rw [hr] at h; exact Ne.symm h
/-- A slice that grows lies where it lay, or in a new block. -/
theorem Apart.grows {w w' : World} {d u r : Value} (h : Apart d r) (hu : u.ownBlock = d.ownBlock ∨ ∀ k, u.ownBlock = some k → w.heap.size ≤ k) (hr : ∀ k, r.ownBlock = some k → k < w.heap.size) : Apart u r := by
  unfold Apart at *
  rcases hu with hu | hu
  · rw [hu]; exact h
  · cases huk : u.ownBlock with
    | none => exact .inl rfl
    | some k =>
      right
      intro he
      have h1 := hu k huk
      have h2 := hr k he.symm
      omega

end Go.Proofs.Ythkalaohaholaaa
