/-
  The contract of layer 2's own helper 'fixed': it returns true.
-/
import Derived.Test.YtaeollnaigphlaaDoorWc
set_option linter.unusedVariables false
set_option linter.unusedSimpArgs false
namespace Go.Proofs.YtaeollnaigphlaaDoor
open Go.RowKit

theorem ints_new (w : World) (t : TypeId) (xs : List Int) : IntsAt (w.alloc (.cells (xs.map (Value.int .i64)).toArray t)) (.slice (some ⟨w.heap.size, 0, none⟩) xs.length xs.length) xs :=
  ⟨_, _, rfl, fun _ => ⟨w.heap.size, 0, rfl, by simp, fun j x hj => by
    rw [Nat.zero_add, World.cell?_alloc_new]
    simp [hj]⟩⟩

theorem Va.put300 : Va.put 300 = [172, 2] := by
  rw [Va.put_big (by decide), Va.put_small (by decide)]; decide
theorem Va.put2 : Va.put 2 = [2] := by rw [Va.put_small (by decide)]; decide
theorem Wi.nums300 : Wi.nums [300] = ⟨#[172, 2]⟩ := by
  unfold Wi.nums
  rw [Wi.numsL_ok _ (by intro x hx; rw [List.mem_singleton.1 hx]; exact ⟨by omega, by omega⟩)]
  simp [Wi.cat, Va.put300]
theorem Wi.nums_neg : Wi.nums [1, -1] = ⟨#[]⟩ := by
  unfold Wi.nums
  rw [Wi.numsL_no _ ⟨-1, by simp, by unfold Wi.ok; omega⟩]
theorem Wi.ab : Va.puts (⟨#[97, 98]⟩ : ByteArray).size ++ ⟨#[97, 98]⟩ = ⟨#[2, 97, 98]⟩ := by
  apply ByteArray.ext
  rw [ByteArray.data_append]
  show (Va.put 2).toArray ++ _ = _
  rw [Va.put2]
  rfl

def Wi.S : ByteArray := ⟨#[172, 2, 2, 97, 98, 120]⟩
theorem Wi.S_size : Wi.S.size ≤ maxLen := by decide
theorem Wi.S1 : Wi.num Wi.S 0 0 = (300, 2, 0) := by decide +kernel
theorem Wi.S2 : Wi.text Wi.S 2 0 = (⟨#[97, 98]⟩, 5, 0) := by
  have h1 : Va.tz Wi.S 2 = 0 := by decide +kernel
  have h2 : Va.tx Wi.S 2 = 2 := by decide +kernel
  have h3 : Va.ty Wi.S 2 = 3 := by decide +kernel
  unfold Wi.text
  rw [if_pos rfl, if_pos h1, h2, h3]
  rfl
theorem Wi.S3 : Wi.byte Wi.S 5 0 = (120, 6, 0) := rfl
theorem Wi.S4 : Wi.num Wi.S 6 0 = (0, 6, 10) := by decide +kernel
theorem Wi.S5 : ((6 : Int) == (Wi.S.size : Int)) = true := rfl

end Go.Proofs.YtaeollnaigphlaaDoor
