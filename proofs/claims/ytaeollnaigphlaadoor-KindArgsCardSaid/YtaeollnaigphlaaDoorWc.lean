/-
  More contracts of package wire; and of the statements' own helper 'fixed'.
-/
import Derived.Test.YtaeollnaigphlaaDoorWb
set_option linter.unusedVariables false
set_option linter.unusedSimpArgs false
namespace Go.Proofs.YtaeollnaigphlaaDoor
open Go.RowKit

section
variable {g : Nat} {s : ByteArray} {a e a' e' : Int} {w : World}
end

/-- What Head answers. -/
def Wi.head (s : List UInt8) : Int × Int := if Lib.hasPrefix s [83, 72, 84, 76, 1] then (5, 0) else if Lib.hasPrefix [83, 72, 84, 76, 1] s then (0, 10) else (0, 20)
end Go.Proofs.YtaeollnaigphlaaDoor
