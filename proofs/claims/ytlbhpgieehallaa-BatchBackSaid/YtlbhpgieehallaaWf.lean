/-
  The walk of the statement WireBytes: for every text it returns true, and leaves what was there as it was.
-/
import Derived.Test.YtlbhpgieehallaaWe
import Derived.Deep.RegionWith
set_option linter.unusedVariables false
set_option linter.unusedSimpArgs false
namespace Go.Proofs.Ytlbhpgieehallaa
open Go.RowKit

theorem Wi.byte_in (s : ByteArray) (k : Nat) (h : k < s.size) : Wi.byte s k 0 = ((s[k].toNat : Int), ((k : Int) + 1), 0) := by
  unfold Wi.byte Wi.first
  rw [Wi.take_in s k 1 (by omega) (by omega)]
  have hz : 0 < (s.extract (k : Int).toNat ((k : Int) + 1).toNat).size := by simp; omega
  simp only
  rw [dif_pos hz]
  congr 2
  simp [ByteArray.getElem_extract]

end Go.Proofs.Ytlbhpgieehallaa
