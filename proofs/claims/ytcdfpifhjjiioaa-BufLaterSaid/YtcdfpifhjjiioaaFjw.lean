/-
  The walk of the statement BufLater.
-/
import Derived.Test.YtcdfpifhjjiioaaFj
set_option linter.unusedVariables false
set_option linter.unusedSimpArgs false
namespace Go.Proofs.Ytcdfpifhjjiioaa
open Go.RowKit
theorem walk_BufLater (b : Bt) (t : Int) (w : World) (hb : BtIn b) (_ : (Lit.int .i64 t).wf = true) :
    Calls Try.prog 5 #[b.val, .int .i64 t] w fun e w' => e = .returned (.bool true) ∧ Ext w w' := by
  obtain ⟨m, ba, la, bo⟩ := b
  by_cases h1 : 3000 < bo.size ∨ (bo.size ≤ 3000 ∧ (t < 0 ∨ (0 ≤ t ∧ (4611686018427387904 ≤ t ∨ (t < 4611686018427387904 ∧ la < 0)))))
  · exact ulater_out m ba la bo t w hb.1 h1
  · have q1 : bo.size ≤ 3000 := by omega
    have q2 : 0 ≤ t := by omega
    have q3 : t < 4611686018427387904 := by omega
    have q4 : 0 ≤ la := by omega
    obtain ⟨k1, k2⟩ := Bu.later_put m ba la bo t q1 q2 q3 q4
    by_cases hz : bo.size = 0
    · obtain ⟨bq, hp, hs, hzz, hc⟩ := k2 hz
      exact ulater_first m ba la bo bq t w q1 q2 q3 q4 hz t rfl hp hs hzz hc
    · by_cases hl : la ≤ t
      · obtain ⟨bq, hp, hs, hzz, hc⟩ := k1 hz hl
        exact ulater_more m ba la bo bq t w q1 q2 q3 q4 hz hl ba rfl hp hs hzz hc
      · exact ulater_early m ba la bo t w q1 q2 q3 q4 hz (by omega)

end Go.Proofs.Ytcdfpifhjjiioaa
