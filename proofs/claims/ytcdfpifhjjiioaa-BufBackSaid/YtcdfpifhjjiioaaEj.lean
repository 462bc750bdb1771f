/-
  Contracts of the document's small answers: are two lists of numbers the same, are two events; is a list of events short.
-/
import Derived.Test.YtcdfpifhjjiioaaEi
import Derived.Test.YtcdfpifhjjiioaaGb
set_option linter.unusedVariables false
set_option linter.unusedSimpArgs false
namespace Go.Proofs.Ytcdfpifhjjiioaa
open Go.RowKit

def Ev.sameB (a b : Ev) : Bool := decide (a.kind = b.kind) && decide (a.dt = b.dt) && decide (a.args = b.args) && (a.text.toList == b.text.toList)
theorem Ev.sameB_iff (a b : Ev) : Ev.sameB a b = true ↔ a = b := by
  unfold Ev.sameB
  obtain ⟨k, d, xs, t⟩ := a
  obtain ⟨k', d', xs', t'⟩ := b
  simp only [Bool.and_eq_true, decide_eq_true_eq, beq_iff_eq, Ev.mk.injEq, ByteArray.toList_eq]
  constructor
  · rintro ⟨⟨⟨h1, h2⟩, h3⟩, h4⟩
    exact ⟨h1, h2, h3, ByteArray.ext (Array.toList_inj.1 h4)⟩
  · rintro ⟨h1, h2, h3, h4⟩
    exact ⟨⟨⟨h1, h2⟩, h3⟩, by rw [h4]⟩

end Go.Proofs.Ytcdfpifhjjiioaa
