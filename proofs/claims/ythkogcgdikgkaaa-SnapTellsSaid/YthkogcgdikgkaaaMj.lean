/-
  The contract of the document's Same, of snaps.
-/
import Derived.Test.YthkogcgdikgkaaaMi
set_option linter.unusedVariables false
set_option linter.unusedSimpArgs false
namespace Go.Proofs.Ythkogcgdikgkaaa
open Go.RowKit Go.Maps

set_option maxRecDepth 100000 in
set_option maxHeartbeats 1000000 in
theorem rsnsame_out (time time' : Int) (ps qs : List (Int × Int)) (gs hs : List Gs4) (A B A' B' : Option Addr) (c d c' d' : Nat) (w : World) (h : time ≠ time' ∨ (time = time' ∧ (ps.length ≠ qs.length ∨ (ps.length = qs.length ∧ gs.length ≠ hs.length)))) :
    Calls Try.prog 16 #[.agg #[.int .i64 time, .slice A ps.length c, .slice B gs.length d], .agg #[.int .i64 time', .slice A' qs.length c', .slice B' hs.length d']] w fun e w' => e = .returned (.bool false) ∧ Ext w w' := by
  rcases h with h | ⟨h, h1 | ⟨h1, h2⟩⟩
  · have e1 : (time != time') = true := by simp [h]
    clear h
    go_enter Try.func16, Try.ntmps16
    go_wp2
    go_ret
    exact ⟨rfl, ((Ext.refl w).alloc _).alloc _⟩
  · have e1 : (time != time') = false := by simp [h]
    have e2 : ((ps.length : Int) != (qs.length : Int)) = true := by simp; omega
    clear h h1
    go_enter Try.func16, Try.ntmps16
    go_wp2
    go_ret
    exact ⟨rfl, ((Ext.refl w).alloc _).alloc _⟩
  · have e1 : (time != time') = false := by simp [h]
    have e2 : ((ps.length : Int) != (qs.length : Int)) = false := by simp; omega
    have e3 : ((gs.length : Int) != (hs.length : Int)) = true := by simp; omega
    clear h h1 h2
    go_enter Try.func16, Try.ntmps16
    go_wp2
    go_ret
    exact ⟨rfl, ((Ext.refl w).alloc _).alloc _⟩

end Go.Proofs.Ythkogcgdikgkaaa
