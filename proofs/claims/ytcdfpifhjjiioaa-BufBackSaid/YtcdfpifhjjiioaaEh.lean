/-
  The contract of event.Decode, where a kind is right: what stands behind it.
-/
import Derived.Test.YtcdfpifhjjiioaaEg
set_option linter.unusedVariables false
set_option linter.unusedSimpArgs false
namespace Go.Proofs.Ytcdfpifhjjiioaa
open Go.RowKit

end Go.Proofs.Ytcdfpifhjjiioaa
