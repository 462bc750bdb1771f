/-
  The walk of the statement SleepTells.
-/
import Derived.Test.YtonnpmgnbmbooaaSo
import Derived.Test.YtonnpmgnbmbooaaLc
import Derived.Test.YtonnpmgnbmbooaaSk
set_option linter.unusedVariables false
set_option linter.unusedSimpArgs false
namespace Go.Proofs.Ytonnpmgnbmbooaa
open Go.RowKit

theorem sput_b (v : Value) (xs : List (Int × Int)) (t0 t1 : Int) (w : World) (h : PairsAt w v xs) (hn : xs.length ≤ 9000) (hr : ∀ p ∈ xs, i64ok p.1 ∧ i64ok p.2) (ht : i64ok t0 ∧ i64ok t1) (ok : Bool) (hok : decide (Sl.May (Sl.ins xs (t0, t1))) = ok) (ys : List (Int × Int)) (hy : (if ok then Sl.ins xs (t0, t1) else []) = ys) :
    Calls Try.prog 8 #[v, .agg #[.int .i64 t0, .int .i64 t1]] w fun e w' => ∃ u, e = .returned (.tuple #[u, .bool ok]) ∧ PairsAt w' u ys ∧ Ext w w' := by
  subst hy
  exact (sput_any v xs t0 t1 w h hn hr ht ok hok).mono fun e w' ⟨u, he, hp, hx, _⟩ => ⟨u, he, hp, hx⟩
theorem srput_b (v : Value) (xs : List (Int × Int)) (t0 t1 : Int) (w : World) (h : PairsAt w v xs) (hn : xs.length ≤ 9000) (ok : Bool) (hok : decide (Sl.May (Sl.ins xs (t0, t1))) = ok) (ys : List (Int × Int)) (hy : (if ok then Sl.ins xs (t0, t1) else []) = ys) :
    Calls Try.prog 9 #[v, .agg #[.int .i64 t0, .int .i64 t1]] w fun e w' => ∃ u, e = .returned (.tuple #[u, .bool ok]) ∧ PairsAt w' u ys ∧ Ext w w' := by
  subst hy
  exact (srput_any v xs t0 t1 w h hn ok hok).mono fun e w' ⟨u, he, hp, hx⟩ => ⟨u, he, hp, hx⟩
theorem sdue_b (v : Value) (xs : List (Int × Int)) (now : Int) (b : Bool) (hb : decide (Sl.May xs) = b) (gs : List Int) (ys : List (Int × Int)) (hg : (if b then Sl.due xs now else []) = gs) (hy : (if b then Sl.left xs now else []) = ys) (w : World) (h : PairsAt w v xs) (hn : xs.length ≤ 9000) (hr : ∀ p ∈ xs, i64ok p.1 ∧ i64ok p.2) :
    Calls Try.prog 10 #[v, .int .i64 now] w fun e w' => ∃ g u, e = .returned (.tuple #[g, u]) ∧ IntsAt w' g gs ∧ PairsAt w' u ys ∧ Ext w w' := by
  subst hg hy
  cases b with
  | true => exact sdue_yes v xs now w h hn hr hb
  | false => exact sdue_no v xs now w h hn hr hb
theorem srdue_b (v : Value) (xs : List (Int × Int)) (now : Int) (b : Bool) (hb : decide (Sl.May xs) = b) (gs : List Int) (ys : List (Int × Int)) (hg : (if b then Sl.due xs now else []) = gs) (hy : (if b then Sl.left xs now else []) = ys) (w : World) (h : PairsAt w v xs) (hn : xs.length ≤ 9000) :
    Calls Try.prog 11 #[v, .int .i64 now] w fun e w' => ∃ g u, e = .returned (.tuple #[g, u]) ∧ IntsAt w' g gs ∧ PairsAt w' u ys ∧ Ext w w' := by
  subst hg hy
  cases b with
  | true => exact srdue_yes v xs now w h hn hb
  | false => exact srdue_no v xs now w h hn hb
set_option maxRecDepth 100000 in
set_option maxHeartbeats 1000000 in
theorem walk_SleepTells (v : Value) (xs : List (Int × Int)) (t0 t1 now : Int) (w : World) (h : PairsAt w v xs) (hl : xs.length ≤ maxLen) (hr : ∀ p ∈ xs, i64ok p.1 ∧ i64ok p.2) (h0 : (Lit.int .i64 t0).wf = true) (h1 : (Lit.int .i64 t1).wf = true) (_ : (Lit.int .i64 now).wf = true) :
    Calls Try.prog 3 #[v, .agg #[.int .i64 t0, .int .i64 t1], .int .i64 now] w fun e w' => e = .returned (.bool true) ∧ Ext w w' := by
  unfold maxLen at hl
  have HT : Hid (i64ok t0 ∧ i64ok t1) := Lib.hid ⟨bounds_i64 h0, bounds_i64 h1⟩
  clear h0 h1
  have H := Lib.hid h
  obtain ⟨A, c, rfl, hc, hA⟩ := h
  have HR := Lib.hid hr
  clear hr hA
  by_cases h2 : 200 < xs.length
  · go_enter Try.func3, Try.ntmps3
    go_wp2_with fail
    refine (sfixed_yes _).mono ?_
    rintro r w1 ⟨rfl, hx1⟩
    go_wp2
    go_ret
    exact ⟨rfl, ((Ext.refl w).alloc _).trans hx1⟩
  · have hn : xs.length ≤ 9000 := by omega
    have h3 : xs.length ≤ 200 := by omega
    clear h2
    obtain ⟨ok, hok⟩ : ∃ ok, decide (Sl.May (Sl.ins xs (t0, t1))) = ok := ⟨_, rfl⟩
    obtain ⟨ys, hys⟩ : ∃ ys, (if ok then Sl.ins xs (t0, t1) else []) = ys := ⟨_, rfl⟩
    obtain ⟨b, hb⟩ : ∃ b, decide (Sl.May xs) = b := ⟨_, rfl⟩
    obtain ⟨gs, hgs⟩ : ∃ gs, (if b then Sl.due xs now else []) = gs := ⟨_, rfl⟩
    obtain ⟨zs, hzs⟩ : ∃ zs, (if b then Sl.left xs now else []) = zs := ⟨_, rfl⟩
    obtain ⟨n, hnx⟩ : ∃ n, Sl.next xs = n := ⟨_, rfl⟩
    have HOK := Lib.hid hok
    have HYS := Lib.hid hys
    have HB := Lib.hid hb
    have HGS := Lib.hid hgs
    have HZS := Lib.hid hzs
    have HN := Lib.hid hnx
    have HYL : Hid (ys.length ≤ 9000) := Lib.hid (by
      rw [← hys]; split
      · rw [Sl.ins_len]; omega
      · simp)
    have HZL : Hid (zs.length ≤ 9000) := Lib.hid (by
      rw [← hzs]; split
      · unfold Sl.left; rw [List.length_drop]; omega
      · simp)
    have HGL : Hid (gs.length ≤ 9000) := Lib.hid (by
      rw [← hgs]; split
      · have := Sl.due_len xs now; omega
      · simp)
    clear hok hys hb hgs hzs hnx
    go_enter Try.func3, Try.ntmps3
    go_wp2_with fail
    refine (sput_b _ xs t0 t1 _ (H.out.ext ((Ext.refl w).alloc _)) hn HR.out HT.out ok HOK.out ys HYS.out).mono ?_
    rintro r w1 ⟨u1, rfl, hp1, hx1⟩
    have HP1 := Lib.hid hp1
    have HX1 := Lib.hid hx1
    have k0 : w1.cell? ⟨w.heap.size, 0, none⟩ = some (.int .i64 t0) := Ext.box hx1 0 _ rfl
    have k1 : w1.cell? ⟨w.heap.size, 1, none⟩ = some (.int .i64 t1) := Ext.box hx1 1 _ rfl
    clear hp1 hx1
    have HW1 : Hid (Ext w w1) := Lib.hid (((Ext.refl w).alloc _).trans HX1.out)
    go_wp2_with fail
    refine (srput_b _ xs t0 t1 _ (H.out.ext HW1.out) hn ok HOK.out ys HYS.out).mono ?_
    rintro r w2 ⟨u2, rfl, hp2, hx2⟩
    have HP2 := Lib.hid hp2
    have HX2 := Lib.hid (HW1.out.trans hx2)
    have HP1' := Lib.hid (HP1.out.ext hx2)
    clear hp2 hx2 k0 k1 HP1
    go_wp2_with fail
    refine (sdue_b _ xs now b HB.out gs zs HGS.out HZS.out _ (H.out.ext HX2.out) hn HR.out).mono ?_
    rintro r w3 ⟨g3, u3, rfl, hi3, hp3, hx3⟩
    have HI3 := Lib.hid hi3
    have HP3 := Lib.hid hp3
    have HX3 := Lib.hid (HX2.out.trans hx3)
    have HX23 := Lib.hid hx3
    clear hi3 hp3 hx3
    go_wp2_with fail
    refine (srdue_b _ xs now b HB.out gs zs HGS.out HZS.out _ (H.out.ext HX3.out) hn).mono ?_
    rintro r w4 ⟨g4, u4, rfl, hi4, hp4, hx4⟩
    have HI4 := Lib.hid hi4
    have HP4 := Lib.hid hp4
    have HX4 := Lib.hid (HX3.out.trans hx4)
    have HX34 := Lib.hid hx4
    have HX24 := Lib.hid (HX23.out.trans hx4)
    clear hi4 hp4 hx4
    go_wp2_with fail
    refine (sfixed_yes _).mono ?_
    rintro r w5 ⟨rfl, hx5⟩
    go_wp2_with fail
    refine (smay_eq _ xs b HB.out _ (H.out.ext (HX4.out.trans hx5)) (by omega) HR.out).mono ?_
    rintro r w6 ⟨rfl, hx6⟩
    go_wp2_with fail
    refine (srmay_eq _ xs b HB.out _ (H.out.ext (HX4.out.trans (hx5.trans hx6))) (by omega)).mono ?_
    rintro r w7 ⟨rfl, hx7⟩
    have HX47 : Hid (Ext w4 w7) := Lib.hid (hx5.trans (hx6.trans hx7))
    clear hx5 hx6 hx7
    go_wp2_with fail
    refine (rsame_eq _ _ ys ys true (by simp) _ (HP1'.out.ext (HX24.out.trans HX47.out)) (HP2.out.ext (HX24.out.trans HX47.out)) HYL.out).mono ?_
    rintro r w8 ⟨rfl, hx8⟩
    have HX48 := Lib.hid (HX47.out.trans hx8)
    clear hx8
    go_wp2_with fail
    refine (rints_eq _ _ gs gs true (by simp) _ (HI3.out.ext (HX34.out.trans HX48.out)) (HI4.out.ext HX48.out) (by have := HGL.out; omega)).mono ?_
    rintro r w9 ⟨rfl, hx9⟩
    have HX49 := Lib.hid (HX48.out.trans hx9)
    clear hx9
    go_wp2_with fail
    refine (rsame_eq _ _ zs zs true (by simp) _ (HP3.out.ext (HX34.out.trans HX49.out)) (HP4.out.ext HX49.out) HZL.out).mono ?_
    rintro r w10 ⟨rfl, hx10⟩
    have HX410 := Lib.hid (HX49.out.trans hx10)
    clear hx10
    go_wp2_with fail
    refine (snext_any _ xs n HN.out _ (H.out.ext (HX4.out.trans HX410.out)) hn HR.out).mono ?_
    rintro r w11 ⟨rfl, hx11⟩
    go_wp2_with fail
    refine (srnext_any _ xs n HN.out _ (H.out.ext (HX4.out.trans (HX410.out.trans hx11))) hn).mono ?_
    rintro r w12 ⟨rfl, hx12⟩
    go_wp2
    go_ret
    exact ⟨by simp, HX4.out.trans (HX410.out.trans (hx11.trans hx12))⟩

end Go.Proofs.Ytonnpmgnbmbooaa
