/-
  More contracts of package wire; and of the statements' own helper 'fixed'.
-/
import Derived.Test.YtlbhpgieehallaaWb
set_option linter.unusedVariables false
set_option linter.unusedSimpArgs false
namespace Go.Proofs.Ytlbhpgieehallaa
open Go.RowKit

section
variable {g : Nat} {s : ByteArray} {a e a' e' : Int} {w : World}
theorem num_eq (r : Int) (h : RD w g s a e) (hs : s.size ≤ maxLen) (hq : Wi.num s a e = (r, a', e')) :
    Calls Try.prog 25 #[.pointer (some ⟨g, 0, none⟩)] w fun x w' => x = .returned (.int .i64 r) ∧ RD w' g s a' e' ∧ Upd g w w' := by
  have := num_any g s a e w h hs; rw [hq] at this; exact this
theorem text_eq (r : ByteArray) (h : RD w g s a e) (hs : s.size ≤ maxLen) (hq : Wi.text s a e = (r, a', e')) :
    Calls Try.prog 26 #[.pointer (some ⟨g, 0, none⟩)] w fun x w' => x = .returned (.string r) ∧ RD w' g s a' e' ∧ Upd g w w' := by
  have := text_any g s a e w h hs; rw [hq] at this; exact this
theorem byte_eq (r : Int) (h : RD w g s a e) (hs : s.size ≤ maxLen) (h0 : 0 ≤ a) (h1 : a ≤ s.size) (hq : Wi.byte s a e = (r, a', e')) :
    Calls Try.prog 49 #[.pointer (some ⟨g, 0, none⟩)] w fun x w' => x = .returned (.int .i64 r) ∧ RD w' g s a' e' ∧ Upd g w w' := by
  have := byte_any g s a e w h hs h0 h1; rw [hq] at this; exact this
theorem rtake_eq (n : Int) (r : ByteArray) (h : RD w g s a e) (hs : s.size ≤ maxLen) (h0 : 0 ≤ a) (h1 : a ≤ s.size) (hn : -9223372036854775808 ≤ n ∧ n ≤ 9223372036854775807) (hq : Wi.take s a e n = (r, a', e')) :
    Calls Try.prog 23 #[.pointer (some ⟨g, 0, none⟩), .int .i64 n] w fun x w' => x = .returned (.string r) ∧ RD w' g s a' e' ∧ Upd g w w' := by
  have := rtake_any g s a e n w h hs h0 h1 hn; rw [hq] at this; exact this
theorem err_ne (h : RD w g s a e) (he : ¬ e = 0) :
    Calls Try.prog 24 #[.pointer (some ⟨g, 0, none⟩)] w fun r w' => r = .returned (.tuple #[.int .i64 e, .int .i64 a]) ∧ RD w' g s a e ∧ Upd g w w' :=
  (err_no g s a e w h he).mono fun x w' ⟨hx, n, hw⟩ => ⟨hx, by rw [hw]; exact h.drewN n, by rw [hw]; exact (Upd.refl _ _).drewN n⟩
end

set_option maxRecDepth 100000 in
set_option maxHeartbeats 1000000 in
theorem text_w (s : ByteArray) (w : World) (hs : s.size ≤ 140737488351232) : Calls Try.prog 35 #[.string s] w fun e w' => e = .returned (.string (Va.puts s.size ++ s)) ∧ Ext w w' := by
  have h9 : (Va.puts s.size).size ≤ 9 := by rw [Va.puts_size]; exact Va.put_len_most (by unfold Va.most; omega)
  go_enter Try.func35, Try.ntmps35
  go_wp2_with fail
  refine (put_str _ _ (by omega) (by omega)).mono ?_
  rintro e w1 ⟨rfl, hb1⟩
  go_wp2_with fail
  go_ret
  exact ⟨rfl, hb1⟩
theorem text_weq (s r : ByteArray) (w : World) (hs : s.size ≤ 140737488351232) (hq : Va.puts s.size ++ s = r) : Calls Try.prog 35 #[.string s] w fun e w' => e = .returned (.string r) ∧ Ext w w' := by
  subst hq; exact text_w s w hs
theorem nums_eq (v : Value) (xs : List Int) (r : ByteArray) (w : World) (h : IntsAt w v xs) (hn : xs.length ≤ 1000000) (hq : Wi.nums xs = r) : Calls Try.prog 34 #[v] w fun e w' => e = .returned (.string r) ∧ Ext w w' := by
  subst hq; exact nums_any v xs w h hn
/-- What Head answers. -/
def Wi.head (s : List UInt8) : Int × Int := if Lib.hasPrefix s [83, 72, 84, 76, 1] then (5, 0) else if Lib.hasPrefix [83, 72, 84, 76, 1] s then (0, 10) else (0, 20)
end Go.Proofs.Ytlbhpgieehallaa
