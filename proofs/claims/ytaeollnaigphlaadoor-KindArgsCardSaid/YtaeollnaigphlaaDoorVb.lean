/-
  Contracts of the functions of package varint: what each call returns, and that it leaves what was there as it was.
-/
import Derived.Test.YtaeollnaigphlaaDoorLa
import Derived.Test.YtaeollnaigphlaaDoorVa
set_option linter.unusedVariables false
set_option linter.unusedSimpArgs false
namespace Go.Proofs.YtaeollnaigphlaaDoor
open Go.RowKit

end Go.Proofs.YtaeollnaigphlaaDoor
