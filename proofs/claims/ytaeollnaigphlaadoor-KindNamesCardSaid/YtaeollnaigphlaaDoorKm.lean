/-
  KindNames: the walk.
-/
import Derived.Test.YtaeollnaigphlaaDoorKl
set_option linter.unusedVariables false
set_option linter.unusedSimpArgs false
namespace Go.Proofs.YtaeollnaigphlaaDoor
open Go.RowKit Go.Maps

set_option maxRecDepth 100000 in
set_option maxHeartbeats 8000000 in
theorem walk_KindNames (a b : Int) (W : World) (wa : (Lit.int .i64 a).wf = true) (wb : (Lit.int .i64 b).wf = true) (ht : Tab W) :
    Calls Tryd.prog 4 #[.int .i64 a, .int .i64 b] W fun e W' => e = .returned (.bool true) ∧ Ext W W' := by
  have HT := Lib.hid ht
  have HF := Lib.hid (kfixed_yes W ht)
  clear ht wa wb
  obtain ⟨nm, hnm⟩ : ∃ nm, Ki.name a = nm := ⟨_, rfl⟩
  obtain ⟨nn, hnn⟩ : ∃ nm, Ki.name b = nm := ⟨_, rfl⟩
  obtain ⟨kn, hkn⟩ : ∃ x, Ki.known a = x := ⟨_, rfl⟩
  obtain ⟨ke, hke⟩ : ∃ x, Ki.exp a = x := ⟨_, rfl⟩
  obtain ⟨xs, hxs⟩ : ∃ xs, Ki.args a = xs := ⟨_, rfl⟩
  obtain ⟨es, hes⟩ : ∃ x, nm.toList.isEmpty = x := ⟨_, rfl⟩
  obtain ⟨et, het⟩ : ∃ x, nn.toList.isEmpty = x := ⟨_, rfl⟩
  obtain ⟨r, hr⟩ : ∃ x, (a == b) = x := ⟨_, rfl⟩
  have HE : Hid (es = !(kn || ke)) := Lib.hid (by rw [← hes, ← hnm, ← hkn, ← hke]; exact Ki.empty_iff a)
  have HR1 : Hid (et = false → es = false → (nm.toList == nn.toList) = r) := Lib.hid fun h1 h2 => by
    rw [← hr, ← hnm, ← hnn]; exact Ki.name_inj (by rw [hnm, hes, h2]) (by rw [hnn, het, h1])
  have HX : Hid (kn = false → xs = []) := Lib.hid fun h => by rw [← hxs]; exact Ki.args_known (by rw [hkn, h])
  have HXE : Hid (kn = true → ke = false) := Lib.hid fun h => by rw [← hke]; exact Ki.known_exp (by rw [hkn, h])
  have HNA := Lib.hid fun v (h : Ext W v) => kname_any a v (HT.out.ext h)
  have HNB := Lib.hid fun v (h : Ext W v) => kname_any b v (HT.out.ext h)
  have HKN := Lib.hid fun v => known_eq a kn hkn v
  have HKE := Lib.hid fun v => exp_eq a ke hke v
  have HA := Lib.hid fun v => args_any a v
  have hsz : nm.size ≤ maxLen := by
    have : (Ki.name a).size ≤ 100 := Ki.name_size a
    rw [hnm] at this
    unfold maxLen; omega
  have HO : Hid (es = false → ∀ v, Ext W v → Calls Tryd.prog 17 #[.string nm] v fun e w' => e = .returned (.int .i64 a) ∧ Ext v w') := Lib.hid fun h v hx => by
    have h2 := kof_any nm v (HT.out.ext hx) hsz
    have h3 := Ki.of_name (k := a) (by
      have h4 := Ki.empty_iff a
      rw [hnm, hes, h] at h4
      exact (Bool.or_eq_true _ _).mp (not_false_of h4.symm))
    rw [hnm] at h3
    rw [h3] at h2
    exact h2
  unfold ArgsPost at HA
  rw [hnm] at HNA
  rw [hnn] at HNB
  rw [hxs] at HA
  clear hnm hnn hkn hke hxs hsz
  cases kn with
  | true =>
    obtain rfl := HXE.out rfl
    obtain rfl : es = false := by rw [HE.out]; rfl
    go_enter Tryd.func4, Tryd.ntmps4
    go_wp2_with fail
    refine HF.out.mono ?_
    rintro e w1 ⟨rfl, hx⟩
    have W1 := Lib.hid hx
    clear hx
    go_wp2_with fail
    refine (HNA.out w1 W1.out).mono ?_
    rintro e w2 ⟨rfl, hx⟩
    have W2 := Lib.hid (W1.out.trans hx)
    clear hx
    go_wp2_with fail
    refine (HNB.out w2 W2.out).mono ?_
    rintro e w3 ⟨rfl, hx⟩
    have W3 := Lib.hid (W2.out.trans hx)
    clear hx
    go_wp2_with fail
    refine (HO.out (by trivial) w3 W3.out).mono ?_
    rintro e w4 ⟨rfl, hx⟩
    have W4 := Lib.hid (W3.out.trans hx)
    clear hx
    go_wp2_with fail
    refine (HKN.out w4).mono ?_
    rintro e wz ⟨rfl, rfl⟩
    go_wp2_with fail
    refine (HKN.out w4).mono ?_
    rintro e wz ⟨rfl, rfl⟩
    go_wp2_with fail
    refine (HKE.out w4).mono ?_
    rintro e wz ⟨rfl, rfl⟩
    go_wp2_with fail
    refine (HA.out w4).mono ?_
    rintro e w5 ⟨v, rfl, A, c, rfl, _, _, hx, _⟩
    have W5 := Lib.hid (W4.out.trans hx)
    clear hx
    cases hl : decide (0 < (xs.length : Int)) with
    | true =>
      have hlp : (0 : Int) < (xs.length : Int) := of_decide_eq_true hl
      go_wp2_with fail
      refine (HKN.out w5).mono ?_
      rintro e wz ⟨rfl, rfl⟩
      cases et with
      | true =>
        go_wp2
        go_ret
        exact ⟨rfl, W5.out⟩
      | false =>
        have hr1 := HR1.out (by trivial) (by trivial)
        cases r with
        | true =>
          go_wp2
          go_ret
          exact ⟨rfl, W5.out⟩
        | false =>
          go_wp2
          go_ret
          exact ⟨rfl, W5.out⟩
    | false =>
      have hlp : ¬ (0 : Int) < (xs.length : Int) := of_decide_eq_false hl
      cases et with
      | true =>
        go_wp2
        go_ret
        exact ⟨rfl, W5.out⟩
      | false =>
        have hr1 := HR1.out (by trivial) (by trivial)
        cases r with
        | true =>
          go_wp2
          go_ret
          exact ⟨rfl, W5.out⟩
        | false =>
          go_wp2
          go_ret
          exact ⟨rfl, W5.out⟩
  | false =>
    obtain rfl := HX.out rfl
    cases ke with
    | true =>
      obtain rfl : es = false := by rw [HE.out]; rfl
      go_enter Tryd.func4, Tryd.ntmps4
      go_wp2_with fail
      refine HF.out.mono ?_
      rintro e w1 ⟨rfl, hx⟩
      have W1 := Lib.hid hx
      clear hx
      go_wp2_with fail
      refine (HNA.out w1 W1.out).mono ?_
      rintro e w2 ⟨rfl, hx⟩
      have W2 := Lib.hid (W1.out.trans hx)
      clear hx
      go_wp2_with fail
      refine (HNB.out w2 W2.out).mono ?_
      rintro e w3 ⟨rfl, hx⟩
      have W3 := Lib.hid (W2.out.trans hx)
      clear hx
      go_wp2_with fail
      refine (HO.out (by trivial) w3 W3.out).mono ?_
      rintro e w4 ⟨rfl, hx⟩
      have W4 := Lib.hid (W3.out.trans hx)
      clear hx
      go_wp2_with fail
      refine (HKN.out w4).mono ?_
      rintro e wz ⟨rfl, rfl⟩
      go_wp2_with fail
      refine (HKE.out w4).mono ?_
      rintro e wz ⟨rfl, rfl⟩
      go_wp2_with fail
      refine (HKN.out w4).mono ?_
      rintro e wz ⟨rfl, rfl⟩
      go_wp2_with fail
      refine (HA.out w4).mono ?_
      rintro e w5 ⟨v, rfl, A, c, rfl, _, _, hx, _⟩
      have W5 := Lib.hid (W4.out.trans hx)
      clear hx
      cases et with
      | true =>
        go_wp2
        go_ret
        exact ⟨rfl, W5.out⟩
      | false =>
        have hr1 := HR1.out (by trivial) (by trivial)
        cases r with
        | true =>
          go_wp2
          go_ret
          exact ⟨rfl, W5.out⟩
        | false =>
          go_wp2
          go_ret
          exact ⟨rfl, W5.out⟩
    | false =>
      obtain rfl : es = true := by rw [HE.out]; rfl
      go_enter Tryd.func4, Tryd.ntmps4
      go_wp2_with fail
      refine HF.out.mono ?_
      rintro e w1 ⟨rfl, hx⟩
      have W1 := Lib.hid hx
      clear hx
      go_wp2_with fail
      refine (HNA.out w1 W1.out).mono ?_
      rintro e w2 ⟨rfl, hx⟩
      have W2 := Lib.hid (W1.out.trans hx)
      clear hx
      go_wp2_with fail
      refine (HNB.out w2 W2.out).mono ?_
      rintro e w3 ⟨rfl, hx⟩
      have W3 := Lib.hid (W2.out.trans hx)
      clear hx
      go_wp2_with fail
      refine (HKN.out w3).mono ?_
      rintro e wz ⟨rfl, rfl⟩
      go_wp2_with fail
      refine (HKE.out w3).mono ?_
      rintro e wz ⟨rfl, rfl⟩
      go_wp2_with fail
      refine (HKN.out w3).mono ?_
      rintro e wz ⟨rfl, rfl⟩
      go_wp2_with fail
      refine (HA.out w3).mono ?_
      rintro e w5 ⟨v, rfl, A, c, rfl, _, _, hx, _⟩
      have W5 := Lib.hid (W3.out.trans hx)
      clear hx
      go_wp2
      go_ret
      exact ⟨rfl, W5.out⟩

end Go.Proofs.YtaeollnaigphlaaDoor
