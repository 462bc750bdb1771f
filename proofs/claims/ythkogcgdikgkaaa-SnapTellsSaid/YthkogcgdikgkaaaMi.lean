/-
  Statuses of Ps and Gs compared.
-/
import Derived.Test.YthkogcgdikgkaaaMh
import Derived.Test.YthkogcgdikgkaaaGe
import Derived.Test.YthkogcgdikgkaaaGf
set_option linter.unusedVariables false
set_option linter.unusedSimpArgs false
namespace Go.Proofs.Ythkogcgdikgkaaa
open Go.RowKit Go.Maps

theorem run_eqP (a b c d : Int) (w : World) : (Op.equal 46 (.agg #[.int .i64 a, .int .i64 b]) (.agg #[.int .i64 c, .int .i64 d])).run Try.prog w = .ok (decide ([a, b] = [c, d])) w :=
  run_eqInts (ti := 3) Try.underlying3 (by kernel_rfl) (by kernel_rfl) 2 (by kernel_rfl) [a, b] [c, d] rfl rfl w
theorem run_eqG (a b c d a' b' c' d' : Int) (w : World) : (Op.equal 36 (.agg #[.int .i64 a, .int .i64 b, .int .i64 c, .int .i64 d]) (.agg #[.int .i64 a', .int .i64 b', .int .i64 c', .int .i64 d'])).run Try.prog w = .ok (decide ([a, b, c, d] = [a', b', c', d'])) w :=
  run_eqInts (ti := 3) Try.underlying3 (by kernel_rfl) (by kernel_rfl) 4 (by kernel_rfl) [a, b, c, d] [a', b', c', d'] rfl rfl w

end Go.Proofs.Ythkogcgdikgkaaa
