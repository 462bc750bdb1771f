/-
  More contracts of package wire; and of the statements' own helper 'fixed'.
-/
import Derived.Test.YthkogcgdikgkaaaWb
set_option linter.unusedVariables false
set_option linter.unusedSimpArgs false
namespace Go.Proofs.Ythkogcgdikgkaaa
open Go.RowKit

section
variable {g : Nat} {s : ByteArray} {a e a' e' : Int} {w : World}
theorem num_eq (r : Int) (h : RD w g s a e) (hs : s.size ≤ maxLen) (hq : Wi.num s a e = (r, a', e')) :
    Calls Try.prog 20 #[.pointer (some ⟨g, 0, none⟩)] w fun x w' => x = .returned (.int .i64 r) ∧ RD w' g s a' e' ∧ Upd g w w' := by
  have := num_any g s a e w h hs; rw [hq] at this; exact this
theorem done_eq (b : Bool) (h : RD w g s a 0) (hq : (a == (s.size : Int)) = b) :
    Calls Try.prog 22 #[.pointer (some ⟨g, 0, none⟩)] w fun r w' => r = .returned (.bool b) ∧ RD w' g s a 0 ∧ Upd g w w' := by
  have := done_ok g s a w h; rw [hq] at this
  exact this.mono fun x w' ⟨hx, n, hw⟩ => ⟨hx, by rw [hw]; exact h.drewN n, by rw [hw]; exact (Upd.refl _ _).drewN n⟩
theorem done_ne (h : RD w g s a e) (he : ¬ e = 0) :
    Calls Try.prog 22 #[.pointer (some ⟨g, 0, none⟩)] w fun r w' => r = .returned (.bool false) ∧ RD w' g s a e ∧ Upd g w w' :=
  (done_no g s a e w h he).mono fun x w' ⟨hx, n, hw⟩ => ⟨hx, by rw [hw]; exact h.drewN n, by rw [hw]; exact (Upd.refl _ _).drewN n⟩
theorem err_ne (h : RD w g s a e) (he : ¬ e = 0) :
    Calls Try.prog 21 #[.pointer (some ⟨g, 0, none⟩)] w fun r w' => r = .returned (.tuple #[.int .i64 e, .int .i64 a]) ∧ RD w' g s a e ∧ Upd g w w' :=
  (err_no g s a e w h he).mono fun x w' ⟨hx, n, hw⟩ => ⟨hx, by rw [hw]; exact h.drewN n, by rw [hw]; exact (Upd.refl _ _).drewN n⟩
end

theorem nums_eq (v : Value) (xs : List Int) (r : ByteArray) (w : World) (h : IntsAt w v xs) (hn : xs.length ≤ 1000000) (hq : Wi.nums xs = r) : Calls Try.prog 30 #[v] w fun e w' => e = .returned (.string r) ∧ Ext w w' := by
  subst hq; exact nums_any v xs w h hn
/-- What Head answers. -/
def Wi.head (s : List UInt8) : Int × Int := if Lib.hasPrefix s [83, 72, 84, 76, 1] then (5, 0) else if Lib.hasPrefix [83, 72, 84, 76, 1] s then (0, 10) else (0, 20)
end Go.Proofs.Ythkogcgdikgkaaa
