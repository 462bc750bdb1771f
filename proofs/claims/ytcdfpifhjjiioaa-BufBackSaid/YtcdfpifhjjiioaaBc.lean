/-
  The contract of batch.Decode.
-/
import Derived.Test.YtcdfpifhjjiioaaBb
import Derived.Test.YtcdfpifhjjiioaaEi
set_option linter.unusedVariables false
set_option linter.unusedSimpArgs false
namespace Go.Proofs.Ytcdfpifhjjiioaa
open Go.RowKit

/-- What a call of Decode answers, of batches. -/
def BDec (p : Bt × Int × Int) (w : World) (r : Ending) (w' : World) : Prop :=
  r = .returned (.tuple #[.agg #[.int .i64 p.1.gen, .int .i64 p.1.stream, .int .i64 p.1.base, .string p.1.body], .int .i64 p.2.1, .int .i64 p.2.2]) ∧ Ext w w'
theorem bzero4 {w : World} {g : Nat} (h : w.heap[g]? = some ((.cells #[.int .i64 0, .int .i64 0, .int .i64 0, .string ⟨#[]⟩] 35))) : ((((w.setCell ⟨g, 0, none⟩ (.int .i64 0)).setCell ⟨g, 1, none⟩ (.int .i64 0)).setCell ⟨g, 2, none⟩ (.int .i64 0)).setCell ⟨g, 3, none⟩ (.string ⟨#[]⟩)).heap[g]? = some ((.cells #[.int .i64 0, .int .i64 0, .int .i64 0, .string ⟨#[]⟩] 35)) :=
  blk_set (blk_set (blk_set (blk_set h 0 (.int .i64 0)) 1 (.int .i64 0)) 2 (.int .i64 0)) 3 (.string ⟨#[]⟩)
theorem Wi.take_none {s : ByteArray} (h : s.data.toList = []) : Wi.take s 0 0 1 = (⟨#[]⟩, 0, 10) := Wi.take_over s 1 (by
  have : s.size = s.data.toList.length := by simp
  rw [this, h]; decide)
theorem Wi.take_one {s : ByteArray} {c : UInt8} {T : List UInt8} (h : s.data.toList = c :: T) : Wi.take s 0 0 1 = (⟨#[c]⟩, 1, 0) ∧ 1 ≤ s.size := by
  have hsz : s.size = T.length + 1 := by
    have : s.size = s.data.toList.length := by simp
    rw [this, h]; rfl
  refine ⟨?_, by omega⟩
  rw [Wi.take_in s 0 1 (by omega) (by omega)]
  simp only [Prod.mk.injEq]
  refine ⟨?_, by omega, trivial⟩
  apply ByteArray.ext
  apply Array.toList_inj.1
  rw [Lib.extract_data, h]
  rfl
theorem one_ne {c : UInt8} (h : c ≠ 66) : ((⟨#[c]⟩ : ByteArray).toList == [66]) = false := by
  simp only [ByteArray.toList_eq]; simpa using h
theorem one_eq : ((⟨#[66]⟩ : ByteArray).toList == [66]) = true := by simp [ByteArray.toList_eq]
def BD5 (w : World) (g st ba : Int) (bo : ByteArray) (_ : Value) (v : World) : Prop :=
  v.heap[w.heap.size]? = some (.cells #[.int .i64 g, .int .i64 st, .int .i64 ba, .string bo] 35 (0, 0)) ∧ Ext w v
end Go.Proofs.Ytcdfpifhjjiioaa
