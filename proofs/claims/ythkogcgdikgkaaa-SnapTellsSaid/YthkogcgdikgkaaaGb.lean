/-
  The contract of the document's Ints: are two lists of numbers the same.
-/
import Derived.Test.YthkogcgdikgkaaaGa
set_option linter.unusedVariables false
set_option linter.unusedSimpArgs false
namespace Go.Proofs.Ythkogcgdikgkaaa
open Go.RowKit

end Go.Proofs.Ythkogcgdikgkaaa
