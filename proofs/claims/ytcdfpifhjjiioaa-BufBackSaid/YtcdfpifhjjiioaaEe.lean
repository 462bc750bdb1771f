/-
  The contract of event.rest, of kinds that are known: a number for each argument.
-/
import Derived.Test.YtcdfpifhjjiioaaEd
set_option linter.unusedVariables false
set_option linter.unusedSimpArgs false
namespace Go.Proofs.Ytcdfpifhjjiioaa
open Go.RowKit

theorem args_len (k : Int) (w : World) : Calls Try.prog 29 #[.int .i64 k] w fun e w' => ∃ A c, e = .returned (.slice A (Ki.args k).length c) ∧ Ext w w' :=
  (args_any k w).mono fun _ _ ⟨v, he, A, c, hv, _, _, hx, _⟩ => ⟨A, c, by rw [he, hv], hx⟩
end Go.Proofs.Ytcdfpifhjjiioaa
