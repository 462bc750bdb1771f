/-
  The document's answers, of batches: May and Encode.
-/
import Derived.Test.YtcdfpifhjjiioaaBb
set_option linter.unusedVariables false
set_option linter.unusedSimpArgs false
namespace Go.Proofs.Ytcdfpifhjjiioaa
open Go.RowKit

set_option maxRecDepth 100000 in
set_option maxHeartbeats 1000000 in
theorem rbmay_any (g st ba : Int) (bo : ByteArray) (w : World) : Calls Try.prog 24 #[.agg #[.int .i64 g, .int .i64 st, .int .i64 ba, .string bo]] w fun e w' => e = .returned (.bool (Bt.may ⟨g, st, ba, bo⟩)) ∧ Ext w w' := by
  by_cases h0 : 0 < g
  · cases h1 : Ev.ok g with
    | false =>
      rw [show Bt.may ⟨g, st, ba, bo⟩ = false by simp [Bt.may, h1]]
      have H1 := Lib.hid h1
      clear h1
      go_enter Try.func24, Try.ntmps24
      go_wp2_with fail
      refine (fits_eq g false H1.out _).mono ?_
      rintro r w1 ⟨rfl, rfl⟩
      go_wp2
      go_ret
      exact ⟨rfl, (Ext.refl w).alloc _⟩
    | true =>
      cases h2 : Ev.ok st with
      | false =>
        rw [show Bt.may ⟨g, st, ba, bo⟩ = false by simp [Bt.may, h2]]
        have H1 := Lib.hid h1
        have H2 := Lib.hid h2
        clear h1 h2
        go_enter Try.func24, Try.ntmps24
        go_wp2_with fail
        refine (fits_eq g true H1.out _).mono ?_
        rintro r w1 ⟨rfl, rfl⟩
        go_wp2_with fail
        refine (fits_eq st false H2.out _).mono ?_
        rintro r w1 ⟨rfl, rfl⟩
        go_wp2
        go_ret
        exact ⟨rfl, (Ext.refl w).alloc _⟩
      | true =>
        cases h3 : Ev.ok ba with
        | false =>
          rw [show Bt.may ⟨g, st, ba, bo⟩ = false by simp [Bt.may, h3]]
          have H1 := Lib.hid h1
          have H2 := Lib.hid h2
          have H3 := Lib.hid h3
          clear h1 h2 h3
          go_enter Try.func24, Try.ntmps24
          go_wp2_with fail
          refine (fits_eq g true H1.out _).mono ?_
          rintro r w1 ⟨rfl, rfl⟩
          go_wp2_with fail
          refine (fits_eq st true H2.out _).mono ?_
          rintro r w1 ⟨rfl, rfl⟩
          go_wp2_with fail
          refine (fits_eq ba false H3.out _).mono ?_
          rintro r w1 ⟨rfl, rfl⟩
          go_wp2
          go_ret
          exact ⟨rfl, (Ext.refl w).alloc _⟩
        | true =>
          have HB : Hid (Bt.may ⟨g, st, ba, bo⟩ = decide (bo.size ≤ 65536)) := Lib.hid (by simp [Bt.may, h1, h2, h3, h0])
          have H1 := Lib.hid h1
          have H2 := Lib.hid h2
          have H3 := Lib.hid h3
          clear h1 h2 h3
          rw [HB.out]
          clear HB
          go_enter Try.func24, Try.ntmps24
          go_wp2_with fail
          refine (fits_eq g true H1.out _).mono ?_
          rintro r w1 ⟨rfl, rfl⟩
          go_wp2_with fail
          refine (fits_eq st true H2.out _).mono ?_
          rintro r w1 ⟨rfl, rfl⟩
          go_wp2_with fail
          refine (fits_eq ba true H3.out _).mono ?_
          rintro r w1 ⟨rfl, rfl⟩
          go_wp2
          go_ret
          exact ⟨by simp; omega, (Ext.refl w).alloc _⟩
  · rw [show Bt.may ⟨g, st, ba, bo⟩ = false by simp [Bt.may, h0]]
    go_enter Try.func24, Try.ntmps24
    go_wp2
    go_ret
    exact ⟨rfl, (Ext.refl w).alloc _⟩
theorem rbmay_eq (g st ba : Int) (bo : ByteArray) (b : Bool) (h : Bt.may ⟨g, st, ba, bo⟩ = b) (w : World) : Calls Try.prog 24 #[.agg #[.int .i64 g, .int .i64 st, .int .i64 ba, .string bo]] w fun e w' => e = .returned (.bool b) ∧ Ext w w' := by
  subst h; exact rbmay_any g st ba bo w

theorem rnums_T (W : World) (g st ba : Int) (u : Value) (v : World) (h : IntsAt v u [g, st, ba]) (hx : Ext W v) : Calls Try.prog 41 #[u] v fun e w' => ∃ x, e = .returned x ∧ BStr W (Wi.nums [g, st, ba]) x w' :=
  (rnums_any u [g, st, ba] v h (by simp)).mono fun _ _ ⟨he, hx'⟩ => ⟨_, he, rfl, hx.trans hx'⟩
theorem rtext_T (W : World) (s : ByteArray) (hs : s.size ≤ 1000000) (v : World) (hx : Ext W v) : Calls Try.prog 40 #[.string s] v fun e w' => ∃ x, e = .returned x ∧ BStr W (Va.puts s.size ++ s) x w' :=
  (rtext_w s v hs).mono fun _ _ ⟨he, hx'⟩ => ⟨_, he, rfl, hx.trans hx'⟩
end Go.Proofs.Ytcdfpifhjjiioaa
