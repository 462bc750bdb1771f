/-
  More contracts of package wire; and of the statements' own helper 'fixed'.
-/
import Derived.Test.YtcdfpifhjjiioaaWb
set_option linter.unusedVariables false
set_option linter.unusedSimpArgs false
namespace Go.Proofs.Ytcdfpifhjjiioaa
open Go.RowKit

section
variable {g : Nat} {s : ByteArray} {a e a' e' : Int} {w : World}
end

set_option maxRecDepth 100000 in
set_option maxHeartbeats 1000000 in
theorem text_w (s : ByteArray) (w : World) (hs : s.size ≤ 140737488351232) : Calls Try.prog 34 #[.string s] w fun e w' => e = .returned (.string (Va.puts s.size ++ s)) ∧ Ext w w' := by
  have h9 : (Va.puts s.size).size ≤ 9 := by rw [Va.puts_size]; exact Va.put_len_most (by unfold Va.most; omega)
  go_enter Try.func34, Try.ntmps34
  go_wp2_with fail
  refine (put_str _ _ (by omega) (by omega)).mono ?_
  rintro e w1 ⟨rfl, hb1⟩
  go_wp2_with fail
  go_ret
  exact ⟨rfl, hb1⟩
theorem text_weq (s r : ByteArray) (w : World) (hs : s.size ≤ 140737488351232) (hq : Va.puts s.size ++ s = r) : Calls Try.prog 34 #[.string s] w fun e w' => e = .returned (.string r) ∧ Ext w w' := by
  subst hq; exact text_w s w hs
/-- What Head answers. -/
def Wi.head (s : List UInt8) : Int × Int := if Lib.hasPrefix s [83, 72, 84, 76, 1] then (5, 0) else if Lib.hasPrefix [83, 72, 84, 76, 1] s then (0, 10) else (0, 20)
end Go.Proofs.Ytcdfpifhjjiioaa
