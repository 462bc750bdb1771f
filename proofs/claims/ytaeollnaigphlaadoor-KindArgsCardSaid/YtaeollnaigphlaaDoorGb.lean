/-
  The contract of the document's Ints: are two lists of numbers the same.
-/
import Derived.Test.YtaeollnaigphlaaDoorGa
set_option linter.unusedVariables false
set_option linter.unusedSimpArgs false
namespace Go.Proofs.YtaeollnaigphlaaDoor
open Go.RowKit

set_option maxRecDepth 100000 in
set_option maxHeartbeats 1000000 in
theorem rints_any (v u : Value) (xs ys : List Int) (w : World) (h : IntsAt w v xs) (k : IntsAt w u ys) (hn : xs.length ≤ 9223372036854775807) :
    Calls Tryd.prog 10 #[v, u] w fun e w' => e = .returned (.bool (decide (xs = ys))) ∧ Ext w w' := by
  obtain ⟨A, c, rfl, hA⟩ := h
  obtain ⟨B, d, rfl, hB⟩ := k
  have HA := Lib.hid hA; clear hA
  have HB := Lib.hid hB; clear hB
  by_cases hl : xs.length = ys.length
  · have hlb : ((xs.length : Int) != (ys.length : Int)) = false := by simp; omega
    have HL := Lib.hid hl; clear hl
    go_enter Tryd.func10, Tryd.ntmps10
    go_wp2
    go_loopw [5] (fun i wr => ∃ k : Nat, k ≤ xs.length ∧ i = .int .i64 k ∧ xs.take k = ys.take k ∧ Ext w wr) (fun i _ => xs.length - (intOf i).toNat)
    case atStart => exact ⟨0, by omega, rfl, by simp, Ext.refl _⟩
    case round =>
      obtain ⟨k, hk, rfl, heq, hx⟩ := hrel
      have HE := Lib.hid heq; clear heq
      have HX := Lib.hid hx; clear hx
      by_cases hlt : k < xs.length
      · have hlt2 : k < ys.length := by have := HL.out; omega
        obtain ⟨b, o, rfl, hb, hc⟩ := HA.out (by omega)
        obtain ⟨b2, o2, rfl, hb2, hc2⟩ := HB.out (by omega)
        have c1 : wr.cell? ⟨b, o + k, none⟩ = some (.int .i64 xs[k]) := by rw [Below.cell HX.out hb]; exact hc k _ (List.getElem?_eq_getElem hlt)
        have c2 : wr.cell? ⟨b2, o2 + k, none⟩ = some (.int .i64 ys[k]) := by rw [Below.cell HX.out hb2]; exact hc2 k _ (List.getElem?_eq_getElem hlt2)
        have HT : Hid (xs.take (k + 1) = xs.take k ++ [xs[k]] ∧ ys.take (k + 1) = ys.take k ++ [ys[k]]) := Lib.hid ⟨by rw [List.take_succ_eq_append_getElem hlt], by rw [List.take_succ_eq_append_getElem hlt2]⟩
        have HNE : Hid (xs[k] ≠ ys[k] → xs ≠ ys) := Lib.hid (fun hn he => by subst he; exact hn rfl)
        have i0 : (0 : Int) ≤ (k : Int) := by omega
        have i1 : (k : Int) < (xs.length : Int) := by omega
        have i2 : (k : Int) < (ys.length : Int) := by omega
        clear hc hc2
        generalize xs[k] = x at *
        generalize ys[k] = y at *
        by_cases hxy : x = y
        · have hb1 : (x != y) = false := by simpa using hxy
          have HXY := Lib.hid hxy; clear hxy
          go_wp2
          go_quiet (fail)
          go_wp2
          go_roundw
          case rel => exact ⟨k + 1, by omega, by go_num, by rw [HT.out.1, HT.out.2, HE.out, HXY.out], HX.out.drewN _⟩
          case measure => simp [intOf]; omega
        · have hb1 : (x != y) = true := by simpa using hxy
          have HXY : Hid (decide (xs = ys) = false) := Lib.hid (decide_eq_false (HNE.out hxy)); clear hxy
          go_wp2
          go_quiet (fail)
          go_wp2
          go_ret
          exact ⟨by rw [HXY.out]; rfl, HX.out.drewN _⟩
      · obtain rfl : k = xs.length := by omega
        have HXY : Hid (decide (xs = ys) = true) := Lib.hid (decide_eq_true (by have := HE.out; rwa [List.take_length, HL.out, List.take_length] at this))
        go_wp2
        go_ret
        exact ⟨by rw [HXY.out]; rfl, HX.out⟩
  · have hlb : ((xs.length : Int) != (ys.length : Int)) = true := by simp; omega
    have HL : Hid (decide (xs = ys) = false) := Lib.hid (decide_eq_false fun h => hl (by rw [h])); clear hl
    go_enter Tryd.func10, Tryd.ntmps10
    go_wp2
    go_ret
    exact ⟨by rw [HL.out]; rfl, Ext.refl _⟩
theorem rints_eq (v u : Value) (xs ys : List Int) (b : Bool) (hb : decide (xs = ys) = b) (w : World) (h : IntsAt w v xs) (k : IntsAt w u ys) (hn : xs.length ≤ 9223372036854775807) :
    Calls Tryd.prog 10 #[v, u] w fun e w' => e = .returned (.bool b) ∧ Ext w w' := by subst hb; exact rints_any v u xs ys w h k hn

end Go.Proofs.YtaeollnaigphlaaDoor
