/-
  KindAsked.
-/
import Derived.Test.YtaeollnaigphlaaDoorKl
set_option linter.unusedVariables false
set_option linter.unusedSimpArgs false
namespace Go.Proofs.YtaeollnaigphlaaDoor
open Go.RowKit Go.Maps

theorem i64_of_wf {k : Int} (h : (Lit.int .i64 k).wf = true) : i64in k := by
  simp [Lit.wf, IntKind.min, IntKind.max, IntKind.signed, IntKind.bits] at h
  unfold i64in
  omega
theorem i64_wrap (k : Int) : i64in (IntKind.i64.wrap k) := by
  rw [IntKind.wrap_i64]; unfold i64in; omega
set_option maxRecDepth 100000 in
set_option maxHeartbeats 4000000 in
theorem walk_KindAsked (n k : Int) (W : World) (wn : (Lit.int .i64 n).wf = true) (wk : (Lit.int .i64 k).wf = true) (ht : Tab W) :
    Calls Tryd.prog 5 #[.int .i64 n, .int .i64 k] W fun e W' => e = .returned (.bool true) ∧ Ext W W' := by
  have HT := Lib.hid ht
  have HK := Lib.hid (i64_of_wf wk)
  have HF := Lib.hid fun v (h : Ext W v) => kfixed_yes v (ht.ext h)
  clear ht wn wk
  by_cases h0 : n < 0
  · go_enter Tryd.func5, Tryd.ntmps5
    go_wp2_with fail
    refine (HF.out W (Ext.refl _)).mono ?_
    rintro e w1 ⟨rfl, hx⟩
    have W1 := Lib.hid hx
    clear hx
    go_wp2_with fail
    refine (HF.out w1 W1.out).mono ?_
    rintro e w2 ⟨rfl, hx⟩
    have W2 := Lib.hid (W1.out.trans hx)
    clear hx
    go_wp2
    go_ret
    exact ⟨rfl, W2.out⟩
  by_cases h1 : 100 < n
  · go_enter Tryd.func5, Tryd.ntmps5
    go_wp2_with fail
    refine (HF.out W (Ext.refl _)).mono ?_
    rintro e w1 ⟨rfl, hx⟩
    have W1 := Lib.hid hx
    clear hx
    go_wp2_with fail
    refine (HF.out w1 W1.out).mono ?_
    rintro e w2 ⟨rfl, hx⟩
    have W2 := Lib.hid (W1.out.trans hx)
    clear hx
    go_wp2
    go_ret
    exact ⟨rfl, W2.out⟩
  obtain ⟨m, rfl⟩ : ∃ m : Nat, n = m := ⟨n.toNat, by omega⟩
  obtain ⟨kn, hkn⟩ : ∃ x, Ki.known k = x := ⟨_, rfl⟩
  have HKN := Lib.hid fun v => known_eq k kn hkn v
  have HKW := Lib.hid hkn
  clear hkn
  go_enter Tryd.func5, Tryd.ntmps5
  go_wp2_with fail
  refine (HF.out W (Ext.refl _)).mono ?_
  rintro e w1 ⟨rfl, hx⟩
  have W1 := Lib.hid hx
  clear hx
  obtain ⟨b, hb⟩ : ∃ b, w1.heap.size = b := ⟨_, rfl⟩
  have HNEW := Lib.hid (knew_now w1 b hb)
  have T1 := Lib.hid (HT.out.ext W1.out)
  clear hb
  go_wp2_with fail
  refine HNEW.out.mono ?_
  rintro e w2 ⟨rfl, h2⟩
  have H2 := Lib.hid h2
  clear h2
  go_wp2
  go_loopw [6] (fun i wr => ∃ j : Nat, j ≤ m ∧ i = .int .i64 j ∧ KNow w1 b (3 * j) wr) (fun i _ => m - (intOf i).toNat)
  case atStart => exact ⟨0, by omega, rfl, H2.out⟩
  case round =>
    obtain ⟨j, hj, rfl, hr⟩ := hrel
    have HR := Lib.hid hr
    clear hr
    by_cases hlt : j < m
    · obtain ⟨q, hq⟩ : ∃ q, IntKind.i64.wrap (k + j) = q := ⟨_, rfl⟩
      have HQ : Hid (i64in q) := Lib.hid (by rw [← hq]; exact i64_wrap _)
      obtain ⟨nm, hnm⟩ : ∃ nm, Ki.name q = nm := ⟨_, rfl⟩
      have HNM := Lib.hid hnm
      go_wp2_with fail
      refine (kKnown_now T1.out k HR.out HK.out (by omega) (by omega)).mono ?_
      rintro e w3 ⟨rfl, h3⟩
      have H3 := Lib.hid h3
      clear h3
      rw [HKW.out]
      go_wp2_with fail
      refine (HKN.out w3).mono ?_
      rintro e w4 ⟨rfl, rfl⟩
      go_wp2_with fail
      refine (kName_now T1.out q H3.out HQ.out (by omega) (by omega)).mono ?_
      rintro e w4 ⟨rfl, h4⟩
      have H4 := Lib.hid h4
      clear h4
      rw [HNM.out]
      go_wp2_with fail
      refine (kname_any q w4 (T1.out.ext H4.out.2.1)).mono ?_
      rintro e w5 ⟨rfl, h5⟩
      have H5 := Lib.hid (H4.out.ext h5)
      clear h5
      rw [HNM.out]
      go_wp2_with fail
      refine (kName_now T1.out q H5.out HQ.out (by omega) (by omega)).mono ?_
      rintro e w6 ⟨rfl, h6⟩
      have H6 := Lib.hid h6
      clear h6
      rw [HNM.out]
      go_wp2_with fail
      refine (rkname_any q w6).mono ?_
      rintro e w7 ⟨rfl, h7⟩
      have H7 : Hid (KNow w1 b (3 * (j + 1 : Nat)) w7) := Lib.hid (by
        have h := H6.out.ext h7
        rw [show (3 * (j : Int) + 1 + 1 + 1) = 3 * ((j + 1 : Nat) : Int) by omega] at h
        exact h)
      clear h7
      rw [HNM.out]
      go_wp2
      go_roundw
      case rel => exact ⟨j + 1, by omega, by go_num, H7.out⟩
      case measure => simp [intOf]; omega
    · obtain rfl : j = m := by omega
      have s1 : IntKind.i64.wrap (3 * (j : Int)) = 3 * (j : Int) := IntWalk.i64_in _ (by omega)
      have s2 : IntKind.i64.wrap (3 * (j : Int) + 1) = 3 * (j : Int) + 1 := IntWalk.i64_in _ (by omega)
      have s3 : IntKind.i64.wrap (3 * (j : Int) + 2) = 3 * (j : Int) + 2 := IntWalk.i64_in _ (by omega)
      have s4 : i64in (3 * (j : Int)) := ⟨by omega, by omega⟩
      go_wp2_with fail
      refine (kAsked_now (m := 3 * (j : Int) + 1) rfl HR.out (by omega) (by omega)).mono ?_
      rintro e w3 ⟨rfl, h3⟩
      have H3 := Lib.hid h3
      clear h3
      go_wp2_with fail
      refine (kAsked_now (m := 3 * (j : Int) + 2) (by omega) H3.out (by omega) (by omega)).mono ?_
      rintro e w4 ⟨rfl, h4⟩
      have H4 := Lib.hid h4
      clear h4
      go_wp2
      go_ret
      exact ⟨rfl, W1.out.trans H4.out.2.1⟩

end Go.Proofs.YtaeollnaigphlaaDoor
