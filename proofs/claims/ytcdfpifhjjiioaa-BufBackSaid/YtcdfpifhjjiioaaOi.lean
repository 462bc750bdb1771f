/-
  A slice of numbers that the call itself makes and appends to; blocks that stay as they are where one block alone turns.
-/
import Derived.Test.YtcdfpifhjjiioaaKa
import Derived.Deep.AppendLies
set_option linter.unusedVariables false
set_option linter.unusedSimpArgs false
namespace Go.Proofs.Ytcdfpifhjjiioaa
open Go.RowKit

theorem hU_next {U S : World → Prop} {k z : Nat} {T : Value → World → Prop} {ps : List (Nat × (Value → World → Prop))} (h : (∀ w, S w → U w) ∧ ∀ p ∈ (k, T) :: ps, p.1 = z ∨ ∀ u w, p.2 u w → U w) (u : Value) (hk : k ≠ z := by decide) : (∀ w, T u w → U w) ∧ ∀ p ∈ ps, p.1 = z ∨ ∀ u w, p.2 u w → U w :=
  ⟨((h.2 (k, T) (by simp)).resolve_left hk) u, fun p hp => h.2 p (List.mem_cons_of_mem _ hp)⟩
section
variable {P : Program} {ops : Array Oper} {Q : Exit → Act → World → Prop} {md : Region.Mode}
/-- The next operation that turns the world, at Oper.wp. -/
theorem ph_oper {S : World → Prop} {T : Value → World → Prop} {ps : List (Nat × (Value → World → Prop))} {k f : Nat} {o : Oper} {listed : Array Bool} {a : Act} (hr : Region.ready md ops listed = [k])
    (hk : ops[k]? = some o) (hw : Region.wanted o (yielded ops a.tmps) = true)
    (hc : ∀ w, S w → ∀ K : Act → World → Prop, (∀ v w', T v w' → K (a.put o.dst v) w') → o.wp P a w K Q)
    (h : ∀ v, (∃ w, T v w) → wpPh P md ops Q (T v) ps f (listed.setIfInBounds k true) (a.put o.dst v)) : wpPh P md ops Q S ((k, T) :: ps) (f + 1) listed a :=
  ph_turn hr fun w hS => by
    unfold wpOp
    simp only [hk, hw, if_true]
    left
    exact hc w hS _ fun v w' hT => ⟨v, hT, h v ⟨w', hT⟩⟩
end

end Go.Proofs.Ytcdfpifhjjiioaa
