/-
  The contract of intern's mayStack.
-/
import Derived.Test.YthkalaohaholaaaIb
set_option linter.unusedVariables false
set_option linter.unusedSimpArgs false
namespace Go.Proofs.Ythkalaohaholaaa
open Go.RowKit Go.Maps

theorem all_nxt {α : Type} {p : α → Bool} {l : List α} {k : Nat} (h : k < l.length) : (l.take (k + 1)).all p = ((l.take k).all p && p l[k]) := by
  rw [List.take_succ_eq_append_getElem h, List.all_append]
  simp
theorem all_stop {α : Type} {p : α → Bool} {l : List α} {k : Nat} (h : (l.take k).all p = false) : l.all p = false := by
  cases hl : l.all p with
  | false => rfl
  | true =>
    rw [← List.take_append_drop k l, List.all_append, h] at hl
    cases hl
set_option maxRecDepth 100000 in
set_option maxHeartbeats 4000000 in
theorem maystack_any (v : Value) (l : List (Int × Int)) (m : Nat) (w : World) (h : RowsAt 2 frL w v l) (hm : m ≤ 100000) :
    Calls Try.prog 33 #[v, .int .i64 m] w fun e w' => e = .returned (.bool (Tb.mayK m l)) ∧ Ext w w' := by
  obtain ⟨A, c, rfl, hc⟩ := h.form
  have HH := Lib.hid h
  clear h hc
  by_cases h0 : l.length = 0
  · have hb : Tb.mayK m l = false := by unfold Tb.mayK; rw [decide_eq_false (by omega)]; rfl
    rw [hb]
    go_enter Try.func33, Try.ntmps33
    go_wp2
    go_ret
    exact ⟨rfl, Ext.refl _⟩
  by_cases h1 : 100 < l.length
  · have hb : Tb.mayK m l = false := by unfold Tb.mayK; rw [decide_eq_false (by omega)]; rfl
    rw [hb]
    go_enter Try.func33, Try.ntmps33
    go_wp2
    go_ret
    exact ⟨rfl, Ext.refl _⟩
  have hb : Tb.mayK m l = l.all (Tb.mayF m) := by unfold Tb.mayK; rw [decide_eq_true ⟨by omega, by omega⟩]; rfl
  rw [hb]
  clear hb
  have g0 : ((l.length : Int) == 0) = false := by simpa using h0
  have g1 : (l.length : Int) ≤ 100 := by omega
  go_enter Try.func33, Try.ntmps33
  go_wp2
  go_loopw [17] (fun i wr => ∃ k : Nat, k ≤ l.length ∧ i = .int .i64 k ∧ (l.take k).all (Tb.mayF m) = true ∧ Ext w wr) (fun i _ => l.length - (intOf i).toNat)
  case atStart => exact ⟨0, by omega, rfl, rfl, Ext.refl _⟩
  case round =>
    obtain ⟨k, hk, rfl, hall, hx⟩ := hrel
    have HL := Lib.hid hall
    have HX := Lib.hid hx
    clear hall hx
    by_cases hlt : k < l.length
    · obtain ⟨b, o, rfl, hb, hcell⟩ := (HH.out.ext HX.out).cell (by omega)
      have c0 := hcell k l[k] (List.getElem?_eq_getElem hlt) 0 _ rfl
      have c1 := hcell k l[k] (List.getElem?_eq_getElem hlt) 1 _ rfl
      have HN := Lib.hid (all_nxt (p := Tb.mayF m) hlt)
      have HS : Hid (Tb.mayF m l[k] = false → l.all (Tb.mayF m) = false) := Lib.hid fun h => all_stop (k := k + 1) (by rw [HN.out, h, Bool.and_false])
      simp only [Nat.add_zero] at c0
      clear hcell
      have HR := Lib.hid (HX.out.alloc (.cells #[.int .i64 l[k].1, .int .i64 l[k].2] 54))
      have HF : Hid (Tb.mayF m l[k] = (decide (1 ≤ l[k].1 ∧ l[k].1 ≤ (m : Int)) && Tb.mayL l[k].2)) := Lib.hid rfl
      generalize l[k] = f at *
      obtain ⟨f0, f1⟩ := f
      simp only at *
      by_cases a1 : f0 < 1
      · have HE := Lib.hid (HS.out (by rw [HF.out, decide_eq_false (by omega)]; rfl))
        go_wp2
        go_ret
        exact ⟨by rw [HE.out] <;> rfl, HR.out⟩
      by_cases a2 : (m : Int) < f0
      · have HE := Lib.hid (HS.out (by rw [HF.out, decide_eq_false (by omega)]; rfl))
        go_wp2
        go_ret
        exact ⟨by rw [HE.out] <;> rfl, HR.out⟩
      have HG : Hid (Tb.mayF m (f0, f1) = Tb.mayL f1) := Lib.hid (by rw [HF.out, decide_eq_true ⟨by omega, by omega⟩]; rfl)
      have HC := Lib.hid (mayline_any f1)
      cases hb : Tb.mayL f1 with
      | false =>
        have HE := Lib.hid (HS.out (by rw [HG.out, hb]))
        rw [hb] at HC
        go_wp2_with fail
        refine (HC.out _).mono ?_
        rintro e w' ⟨rfl, rfl⟩
        go_wp2
        go_ret
        exact ⟨by rw [HE.out] <;> rfl, HR.out⟩
      | true =>
        have HE : Hid ((l.take (k + 1)).all (Tb.mayF m) = true) := Lib.hid (by rw [HN.out, HL.out, HG.out, hb]; rfl)
        rw [hb] at HC
        go_wp2_with fail
        refine (HC.out _).mono ?_
        rintro e w' ⟨rfl, rfl⟩
        go_wp2
        go_roundw
        case rel => exact ⟨k + 1, by omega, by go_num, HE.out, HR.out⟩
        case measure => simp [intOf]; omega
    · obtain rfl : k = l.length := by omega
      have HE : Hid (l.all (Tb.mayF m) = true) := Lib.hid (by have := HL.out; rwa [List.take_length] at this)
      go_wp2
      go_ret
      exact ⟨by rw [HE.out] <;> rfl, HX.out⟩

end Go.Proofs.Ythkalaohaholaaa
