/-
  The walks of the statements WireStuck and WireTakes: for every input they return true, and leave what was there as it was.
-/
import Derived.Test.YtaeollnaigphlaaDoorWd
set_option linter.unusedVariables false
set_option linter.unusedSimpArgs false
namespace Go.Proofs.YtaeollnaigphlaaDoor
open Go.RowKit

theorem Wi.take_over (s : ByteArray) (n : Int) (h : (s.size : Int) < n) : Wi.take s 0 0 n = (⟨#[]⟩, 0, 10) := by
  unfold Wi.take Wi.piece
  rw [if_pos rfl, if_neg (by omega), if_pos (by omega)]
theorem Wi.take_err (s : ByteArray) (a e n : Int) (h : ¬ e = 0) : Wi.take s a e n = (⟨#[]⟩, a, e) := by unfold Wi.take; rw [if_neg h]
theorem Wi.num_err (s : ByteArray) (a e : Int) (h : ¬ e = 0) : Wi.num s a e = (0, a, e) := by unfold Wi.num; rw [if_neg h]
theorem Wi.text_err (s : ByteArray) (a e : Int) (h : ¬ e = 0) : Wi.text s a e = (⟨#[]⟩, a, e) := by unfold Wi.text; rw [if_neg h]
theorem Wi.byte_err (s : ByteArray) (a e : Int) (h : ¬ e = 0) : Wi.byte s a e = (0, a, e) := by unfold Wi.byte; rw [Wi.take_err _ _ _ _ h]; rfl
theorem Wi.take_in (s : ByteArray) (a n : Int) (h0 : 0 ≤ n) (h1 : n ≤ s.size - a) : Wi.take s a 0 n = (s.extract a.toNat (a + n).toNat, a + n, 0) := by
  unfold Wi.take Wi.piece
  rw [if_pos rfl, if_neg (by omega), if_neg (by omega)]

theorem Wi.byte_in (s : ByteArray) (k : Nat) (h : k < s.size) : Wi.byte s k 0 = ((s[k].toNat : Int), ((k : Int) + 1), 0) := by
  unfold Wi.byte Wi.first
  rw [Wi.take_in s k 1 (by omega) (by omega)]
  have hz : 0 < (s.extract (k : Int).toNat ((k : Int) + 1).toNat).size := by simp; omega
  simp only
  rw [dif_pos hz]
  congr 2
  simp [ByteArray.getElem_extract]

end Go.Proofs.YtaeollnaigphlaaDoor
