/-
  KindArgs.
-/
import Derived.Test.YtaeollnaigphlaaDoorKn
import Derived.Test.YtaeollnaigphlaaDoorGb
set_option linter.unusedVariables false
set_option linter.unusedSimpArgs false
namespace Go.Proofs.YtaeollnaigphlaaDoor
open Go.RowKit Go.Maps

theorem Ki.args_six (k : Int) : ∀ x ∈ Ki.args k, 0 ≤ x ∧ x ≤ 5 := by
  unfold Ki.args
  repeat' split
  all_goals (intro x hx; simp at hx; try omega)
set_option maxRecDepth 100000 in
set_option maxHeartbeats 4000000 in
theorem walk_KindArgs (k : Int) (W : World) (wk : (Lit.int .i64 k).wf = true) (ht : Tab W) :
    Calls Tryd.prog 6 #[.int .i64 k] W fun e W' => e = .returned (.bool true) ∧ Ext W W' := by
  have HF := Lib.hid fun v (h : Ext W v) => kfixed_yes v (ht.ext h)
  clear ht wk
  obtain ⟨xs, hxs⟩ : ∃ xs, Ki.args k = xs := ⟨_, rfl⟩
  have HL : Hid (xs.length ≤ 3) := Lib.hid (by rw [← hxs]; exact Ki.args_le k)
  have H6 : Hid (∀ x ∈ xs, 0 ≤ x ∧ x ≤ 5) := Lib.hid (by rw [← hxs]; exact Ki.args_six k)
  have HA := Lib.hid fun v => args_any k v
  unfold ArgsPost at HA
  rw [hxs] at HA
  clear hxs
  go_enter Tryd.func6, Tryd.ntmps6
  go_wp2_with fail
  refine (HA.out W).mono ?_
  rintro e w1 ⟨v1, rfl, A1, c1, rfl, hc1, hA1, hx1, _⟩
  have W1 := Lib.hid hx1
  have V1 := Lib.hid hA1
  clear hx1 hA1
  go_wp2_with fail
  refine (HA.out w1).mono ?_
  rintro e w2 ⟨v2, rfl, A2, c2, rfl, hc2, hA2, hx2, how⟩
  have W2 := Lib.hid hx2
  have V2 := Lib.hid hA2
  have HOW := Lib.hid how
  clear hx2 hA2 how
  have hlen : (xs.length : Int) ≤ 3 := by have := HL.out; omega
  go_wp2_with fail
  refine (HF.out w2 (W1.out.trans W2.out)).mono ?_
  rintro e w3 ⟨rfl, hx3⟩
  have W3 := Lib.hid (W2.out.trans hx3)
  have X3 := Lib.hid hx3
  clear hx3
  go_wp2_with fail
  refine (rints_eq _ _ xs xs true (by simp) w3 (V1.out.ext W3.out) (V2.out.ext X3.out) (by omega)).mono ?_
  rintro e w4 ⟨rfl, hx4⟩
  have W4 := Lib.hid (W3.out.trans hx4)
  have X4 := Lib.hid (X3.out.trans hx4)
  clear hx4
  go_wp2
  go_loopw [5] (fun i wr => ∃ j : Nat, j ≤ xs.length ∧ i = .int .i64 j ∧ Ext w1 wr ∧ (0 < xs.length → (∃ cs : Array Value, wr.heap[w1.heap.size]? = some (.cells cs 3 (0, 0)) ∧ cs.size = xs.length))) (fun i _ => xs.length - (intOf i).toNat)
  case atStart =>
    refine ⟨0, by omega, rfl, W4.out, fun hp => ?_⟩
    rcases HOW.out with ⟨_, h, _⟩ | ⟨_, _, h⟩
    · rw [h] at hp; simp at hp
    · refine ⟨_, X4.out.blk (by rw [h]; exact blk_new _ _), by simp⟩
  case round =>
    obtain ⟨j, hj, rfl, hx, hrow⟩ := hrel
    have HX := Lib.hid hx
    by_cases hlt : j < xs.length
    · obtain ⟨cs, hcs, hsz⟩ := hrow (by omega)
      have HCS := Lib.hid hcs
      obtain ⟨rfl, rfl⟩ : A2 = some ⟨w1.heap.size, 0, none⟩ ∧ c2 = xs.length := by
        rcases HOW.out with ⟨_, h, _⟩ | ⟨h1, h2, _⟩
        · rw [h] at hlt; simp at hlt
        · exact ⟨h2, h1⟩
      obtain ⟨A, c, hA, hI⟩ := V1.out.ext HX.out
      obtain ⟨b, o, hbo, hbl, hcell⟩ := hI (by omega)
      simp only [Value.slice.injEq, true_and] at hA
      obtain ⟨rfl, rfl⟩ := hA
      subst hbo
      have e1 := hcell j _ (List.getElem?_eq_getElem hlt)
      have h6 := H6.out _ (List.getElem_mem hlt)
      generalize xs[j] = x at *
      have e2 := blk_cell hcs j _ (Array.getElem?_eq_getElem (by omega))
      have e3 := frozen_of_row _ _ j _ _ hcs
      have i0 : (0 : Int) ≤ (j : Int) := by omega
      have i1 : (j : Int) < (xs.length : Int) := by omega
      have g0 : ¬ x < 0 := by omega
      have g1 : ¬ 5 < x := by omega
      have HR : Hid (Ext w1 (wr.setCell ⟨w1.heap.size, j, none⟩ (.int .i64 (-1)))) := Lib.hid (Ext.upd HX.out ((Upd.refl _ _).set j _) (Nat.le_refl _))
      have HS := Lib.hid (blk_set HCS.out j (.int .i64 (-1)))
      clear hcs hI hcell hrow hx
      go_wp2
      go_roundw
      case rel => exact ⟨j + 1, by omega, by go_num, HR.out, fun _ => ⟨_, HS.out, by simp; omega⟩⟩
      case measure => simp [intOf]; omega
    · obtain rfl : j = xs.length := by omega
      clear hrow
      go_wp2_with fail
      refine (HA.out wr).mono ?_
      rintro e w5 ⟨v3, rfl, A3, c3, rfl, _, hA3, hx5, _⟩
      have W5 := Lib.hid (HX.out.trans hx5)
      have V3 := Lib.hid hA3
      clear hA3 hx5
      go_wp2_with fail
      refine (rints_eq _ _ xs xs true (by simp) w5 V3.out (V1.out.ext W5.out) (by omega)).mono ?_
      rintro e w6 ⟨rfl, hx6⟩
      have W6 := Lib.hid (W5.out.trans hx6)
      clear hx6
      go_wp2
      go_ret
      exact ⟨rfl, W1.out.trans W6.out⟩

end Go.Proofs.YtaeollnaigphlaaDoor
