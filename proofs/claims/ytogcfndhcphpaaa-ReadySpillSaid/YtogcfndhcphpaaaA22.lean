/-
  Several texts in one: Uj, Uk.
-/
import Derived.Test.YtogcfndhcphpaaaA21
import Derived.Test.YtogcfndhcphpaaaA20
/-
  The document's ring of a list.
-/
set_option linter.unusedVariables false
set_option linter.unusedSimpArgs false
namespace Go.Proofs.Ytogcfndhcphpaaa
open Go.RowKit

namespace Ri
/-- A buffer into which k of a list are laid, from a place on. -/
def laid (hd : Nat) (l : List Int) : Nat → List Int
  | 0 => [0, 0, 0, 0, 0, 0, 0, 0]
  | k + 1 => (laid hd l k).set ((hd + k) % 8) (l[k]?.getD 0)
theorem laid_len (hd : Nat) (l : List Int) : ∀ k, (laid hd l k).length = 8
  | 0 => rfl
  | k + 1 => by unfold laid; rw [List.length_set, laid_len hd l k]
def at' (hd : Nat) (l : List Int) : Ri := ⟨laid hd l l.length, hd, l.length⟩
end Ri
set_option maxRecDepth 100000 in
set_option maxHeartbeats 4000000 in
theorem rat_any (v : Value) (hd : Nat) (l : List Int) (n : Int) (hn : n = (hd : Int)) (hhd : hd < 8) (w : World) (h : IntsAt w v l) (hl : l.length ≤ 1000000) : Calls Try.prog 109 #[.int .i64 n, v] w fun e w' => e = .returned (.agg (rL (Ri.at' hd l)).toArray) ∧ Ext w w' := by
  subst hn
  have H := Lib.hid h
  obtain ⟨A, c, rfl, -⟩ := h
  obtain ⟨R, hR⟩ : ∃ R, w.heap.size = R := ⟨_, rfl⟩
  obtain ⟨B, hB⟩ : ∃ B, R + 1 = B := ⟨_, rfl⟩
  obtain ⟨w2, hw2⟩ : ∃ w2, (w.alloc (.cells #[.int .i64 0, .int .i64 0, .int .i64 0, .int .i64 0, .int .i64 0, .int .i64 0, .int .i64 0, .int .i64 0, .int .i64 0, .int .i64 0] 38)).alloc (.cells #[.int .i64 0, .int .i64 0, .int .i64 0, .int .i64 0, .int .i64 0, .int .i64 0, .int .i64 0, .int .i64 0, .int .i64 (hd : Int), .int .i64 (l.length : Int)] 38) = w2 := ⟨_, rfl⟩
  have HX2 : Hid (Ext w w2) := Lib.hid (by rw [← hw2]; exact ((Ext.refl w).alloc _).alloc _)
  have HR2 : Hid (w2.heap[R]? = some (.cells #[.int .i64 0, .int .i64 0, .int .i64 0, .int .i64 0, .int .i64 0, .int .i64 0, .int .i64 0, .int .i64 0, .int .i64 0, .int .i64 0] 38 (0, 0))) := Lib.hid (by rw [← hw2, ← hR]; exact blk_alloc (blk_new w _) _)
  have HB2 : Hid (w2.heap[B]? = some (.cells (Ri.cells ⟨Ri.laid hd l 0, hd, l.length⟩) 38 (0, 0))) := Lib.hid (by
    have := blk_new (w.alloc (.cells #[.int .i64 0, .int .i64 0, .int .i64 0, .int .i64 0, .int .i64 0, .int .i64 0, .int .i64 0, .int .i64 0, .int .i64 0, .int .i64 0] 38)) (.cells #[.int .i64 0, .int .i64 0, .int .i64 0, .int .i64 0, .int .i64 0, .int .i64 0, .int .i64 0, .int .i64 0, .int .i64 (hd : Int), .int .i64 (l.length : Int)] 38)
    rw [hw2, World.size_alloc, hR, hB] at this
    exact this)
  have HW2 := Lib.hid hw2
  have HRR := Lib.hid hR
  have HBB := Lib.hid hB
  have hl' : (l.length : Int) ≤ 1000000 := by omega
  clear hw2 hR hB
  go_enter Try.func109, Try.ntmps109
  go_upto_region 2 with (first | rw [HW2.out])
  rw [HRR.out, HBB.out]
  go_wp2_with fail
  go_loopw [6] (fun iv wr => ∃ k : Nat, k ≤ l.length ∧ iv = .int .i64 k ∧ wr.heap[R]? = some (.cells #[.int .i64 0, .int .i64 0, .int .i64 0, .int .i64 0, .int .i64 0, .int .i64 0, .int .i64 0, .int .i64 0, .int .i64 0, .int .i64 0] 38 (0, 0)) ∧ wr.heap[B]? = some (.cells (Ri.cells ⟨Ri.laid hd l k, hd, l.length⟩) 38 (0, 0)) ∧ Ext w wr) (fun iv _ => l.length - (intOf iv).toNat)
  case atStart => exact ⟨0, Nat.zero_le _, rfl, HR2.out, HB2.out, HX2.out⟩
  case round =>
    obtain ⟨k, hk, rfl, hr, hb, hx⟩ := hrel
    have HR := Lib.hid hr
    have HB := Lib.hid hb
    have HX := Lib.hid hx
    clear hr hb hx
    by_cases hlt : k < l.length
    · obtain ⟨x, hx⟩ : ∃ x, l[k]? = some x := ⟨_, List.getElem?_eq_getElem hlt⟩
      obtain ⟨b, o, rfl, hb, hc⟩ := ints_get (H.out.ext HX.out) hx
      have e1 : IntKind.i64.wrap ((hd : Int) + (k : Int)) = ((hd + k : Nat) : Int) := IntWalk.i64_in _ (by omega)
      have e2 : ((hd + k : Nat) : Int).tmod 8 = (((hd + k) % 8 : Nat) : Int) := by rw [Int.tmod_eq_emod_of_nonneg (by omega)]; omega
      have e3 : (0 : Int) ≤ (((hd + k) % 8 : Nat) : Int) := by omega
      have e4 : (((hd + k) % 8 : Nat) : Int) < 8 := by omega
      have hm8 : (hd + k) % 8 < 8 := Nat.mod_lt _ (by omega)
      have r0 := blk_cell HB.out ((hd + k) % 8) _ (Ri.cells_buf (r := ⟨Ri.laid hd l k, hd, l.length⟩) (Ri.laid_len _ _ _) _ hm8)
      have r1 := frozen_of_row _ _ ((hd + k) % 8) _ _ HB.out
      obtain ⟨wn, hwn⟩ : ∃ wn, wr.setCell ⟨B, (hd + k) % 8, none⟩ (.int .i64 x) = wn := ⟨_, rfl⟩
      have NB : Hid (wn.heap[B]? = some (.cells (Ri.cells ⟨Ri.laid hd l (k + 1), hd, l.length⟩) 38 (0, 0))) := Lib.hid (by
        rw [← hwn, show Ri.laid hd l (k + 1) = (Ri.laid hd l k).set ((hd + k) % 8) x by unfold Ri.laid; rw [hx]; cases k <;> rfl, ← Ri.cells_set (r := ⟨Ri.laid hd l k, hd, l.length⟩) (Ri.laid_len _ _ _) _ hm8]
        exact blk_set HB.out _ _)
      have NR : Hid (wn.heap[R]? = some (.cells #[.int .i64 0, .int .i64 0, .int .i64 0, .int .i64 0, .int .i64 0, .int .i64 0, .int .i64 0, .int .i64 0, .int .i64 0, .int .i64 0] 38 (0, 0))) := Lib.hid (by rw [← hwn]; exact blk_set_other HR.out _ (by have := HBB.out; simp only; omega) _)
      have NX : Hid (Ext w wn) := Lib.hid (by rw [← hwn]; exact HX.out.setCell (p := ⟨B, (hd + k) % 8, none⟩) (by have := HBB.out; have := HRR.out; simp only; omega) _)
      have HWN := Lib.hid hwn
      clear hx hb hm8 hwn
      go_wp2_with (rw [HWN.out])
      go_roundw
      case rel => exact ⟨k + 1, by omega, by go_num, NR.out, NB.out, NX.out⟩
      case measure => simp [intOf]; omega
    · obtain rfl : k = l.length := by omega
      obtain ⟨wf, hwf⟩ : ∃ wf, wr.setCells R 0 (rL (Ri.at' hd l)) = wf := ⟨_, rfl⟩
      have HWF := Lib.hid hwf
      have hl10 : (rL (Ri.at' hd l)).length = 10 := rL_len (Ri.laid_len _ _ _)
      have HRZ : Hid (wf.heap[R]? = some (.cells (rL (Ri.at' hd l)).toArray 38 (0, 0))) := Lib.hid (by rw [← hwf]; exact setCells_at [.int .i64 0, .int .i64 0, .int .i64 0, .int .i64 0, .int .i64 0, .int .i64 0, .int .i64 0, .int .i64 0, .int .i64 0, .int .i64 0] _ (by rw [hl10]; rfl) HR.out)
      have HTH : Hid (wr.there R 0 (rL (Ri.at' hd l)).length) := Lib.hid (there_row HR.out (by rw [hl10]; exact Nat.le_refl 10))
      have HXF : Hid (Ext w wf) := Lib.hid (by rw [← hwf]; exact HX.out.upd (setCells_upd _ _ _ _) (by have := HRR.out; omega))
      have HSZ : Hid ((Try.prog.info? 38).map (·.size) = some (rL (Ri.at' hd l)).length) := Lib.hid (by rw [hl10]; kernel_rfl)
      obtain ⟨rv, hrv⟩ : ∃ rv, Value.agg (rL (Ri.at' hd l)).toArray = rv := ⟨_, rfl⟩
      have HRV := Lib.hid hrv
      have HRG : Hid (wr.rangeAt B 0 (rL (Ri.at' hd l))) := Lib.hid (range_row HB.out)
      clear hwf hrv
      go_wp2_with (first | (refine wpList_load_rowM (by rfl) 38 _ rfl B 0 (by go_simp) (rL (Ri.at' hd l)) rv HRV.out.symm _ HRG.out Try.underlying38 rfl HSZ.out ?_) | (refine wpList_store_rowM rfl 38 _ _ rfl R 0 (rL (Ri.at' hd l)) rv (by go_simp) (by go_simp) HRV.out.symm HTH.out HSZ.out (rL_one _) HWF.out ?_))
      refine bodyPost_ret (v := .agg (rL (Ri.at' hd l)).toArray) (results_cell_row rfl _ _ R _ _ _ _ rfl HRZ.out Try.underlying38 rfl (by rw [List.size_toArray]; exact HSZ.out)) rfl ⟨rfl, HXF.out⟩
end Go.Proofs.Ytogcfndhcphpaaa
/-
  A state of nine Gs, eight in a ring, one that runs.
-/
set_option linter.unusedVariables false
set_option linter.unusedSimpArgs false
namespace Go.Proofs.Ytogcfndhcphpaaa
open Go.RowKit
set_option maxRecDepth 100000 in
set_option maxHeartbeats 8000000 in
theorem rNew_pa (v : Value) (p : List (List (Int × Int))) (n : Int) (r : St × Int) (hr : St.new p n = r) (w : World) (h : NestAt 2 pairL w v p) (h1 : p.length ≤ 100000) (h2 : ∀ l ∈ p, l.length ≤ 100000) :
    Calls Try.prog 108 #[v, .int .i64 n] w fun e w' => ∃ h', e = .returned (.tuple #[stV h' r.1, .int .i64 r.2]) ∧ StOk w' h' r.1 ∧ (r.2 = 0 → v = .slice h'.pa p.length h'.pc) ∧ Ext w w' := by
  subst hr
  have H := Lib.hid h
  obtain ⟨A, c, rfl⟩ := h.form2
  obtain ⟨w1, hw1⟩ : ∃ w1, w.alloc (.cells #[.slice none 0 0, .slice none 0 0, .slice none 0 0, .slice none 0 0, .slice none 0 0, .int .i64 0, .int .i64 0, .int .i64 0, .int .i64 0, .slice none 0 0, .slice none 0 0, .slice none 0 0, .slice none 0 0, .slice none 0 0, .int .i64 0, .int .i64 0] 32) = w1 := ⟨_, rfl⟩
  obtain ⟨R, hR⟩ : ∃ R, w.heap.size = R := ⟨_, rfl⟩
  have hx1 : Ext w w1 := by rw [← hw1]; exact (Ext.refl w).alloc _
  have HX1 := Lib.hid hx1
  have HR1 : Hid (w1.heap[R]? = some (.cells #[.slice none 0 0, .slice none 0 0, .slice none 0 0, .slice none 0 0, .slice none 0 0, .int .i64 0, .int .i64 0, .int .i64 0, .int .i64 0, .slice none 0 0, .slice none 0 0, .slice none 0 0, .slice none 0 0, .slice none 0 0, .int .i64 0, .int .i64 0] 32 (0, 0))) := Lib.hid (by rw [← hw1, ← hR]; exact blk_new w _)
  obtain ⟨bp, hbp⟩ : ∃ bp, Pg.may p = bp := ⟨_, rfl⟩
  have HBP := Lib.hid hbp
  have HPM := Lib.hid (rpmay_any _ p bp hbp w1 (h.ext hx1) h1 h2)
  have HW1 := Lib.hid hw1
  have HRR := Lib.hid hR
  clear h hw1 hR hx1 hbp h2
  go_enter Try.func108, Try.ntmps108
  go_wp2_with (rw [HW1.out])
  refine HPM.out.mono ?_
  rintro e w3 ⟨rfl, hx3⟩
  rw [HRR.out]
  have HX3 := Lib.hid (HX1.out.trans hx3)
  have HR3 := Lib.hid (hx3.blk HR1.out)
  clear hx3
  by_cases hok : Pg.may p = true ∧ 1 ≤ n ∧ n ≤ 8
  rotate_left 1
  · skip
    obtain ⟨wf, hwf⟩ : ∃ wf, w3.setCells R 0 (stL StH.nil St.nil) = wf := ⟨_, rfl⟩
    have HWF := Lib.hid hwf
    have HUF : Hid (Upd R w3 wf) := Lib.hid (by rw [← hwf]; exact setCells_upd _ _ _ _)
    have HRZ : Hid (wf.heap[R]? = some (.cells (stL StH.nil St.nil).toArray 32 (0, 0))) := Lib.hid (by rw [← hwf]; exact setCells_at [.slice none 0 0, .slice none 0 0, .slice none 0 0, .slice none 0 0, .slice none 0 0, .int .i64 0, .int .i64 0, .int .i64 0, .int .i64 0, .slice none 0 0, .slice none 0 0, .slice none 0 0, .slice none 0 0, .slice none 0 0, .int .i64 0, .int .i64 0] (stL StH.nil St.nil) rfl HR3.out)
    have HTH : Hid (w3.there R 0 (stL StH.nil St.nil).length) := Lib.hid (there_row HR3.out (Nat.le_refl 16))
    have HXZ : Hid (Ext w wf) := Lib.hid (HX3.out.upd HUF.out (by have := HRR.out; omega))
    clear hwf
    cases bp with
    | false =>
      have HN : Hid (St.new p n = (St.nil, 1)) := Lib.hid (St.new_no (by intro h; have h1 := HBP.out; have h2 := h.1; simp_all <;> omega))
      go_wp2_with (refine wpList_store_row rfl 32 _ _ rfl R (stL StH.nil St.nil) (stV StH.nil St.nil) rfl rfl rfl HTH.out (by kernel_rfl) (stL_one _ _) HWF.out ?_)
      refine bodyPost_cell_tmp rfl R _ _ _ _ rfl HRZ.out Try.underlying32 rfl (by kernel_rfl) (.int .i64 1) rfl rfl ?_
      rw [HN.out]
      exact ⟨StH.nil, rfl, StOk.nil _, fun h => absurd h (by decide), HXZ.out⟩
    | true =>
      by_cases a1 : n < 1
      · skip
        have HN : Hid (St.new p n = (St.nil, 1)) := Lib.hid (St.new_no (by intro h; have h1 := HBP.out; have h2 := h.1; simp_all <;> omega))
        go_wp2_with (refine wpList_store_row rfl 32 _ _ rfl R (stL StH.nil St.nil) (stV StH.nil St.nil) rfl rfl rfl HTH.out (by kernel_rfl) (stL_one _ _) HWF.out ?_)
        refine bodyPost_cell_tmp rfl R _ _ _ _ rfl HRZ.out Try.underlying32 rfl (by kernel_rfl) (.int .i64 1) rfl rfl ?_
        rw [HN.out]
        exact ⟨StH.nil, rfl, StOk.nil _, fun h => absurd h (by decide), HXZ.out⟩
      · have a2 : 8 < n := by have := HBP.out; first | (simp_all; done) | (simp_all; omega)
        have a1' : decide (n < 1) = false := by simpa using a1
        clear hok a1
        have HN : Hid (St.new p n = (St.nil, 1)) := Lib.hid (St.new_no (by intro h; have h1 := HBP.out; have h2 := h.1; simp_all <;> omega))
        go_wp2_with (refine wpList_store_row rfl 32 _ _ rfl R (stL StH.nil St.nil) (stV StH.nil St.nil) rfl rfl rfl HTH.out (by kernel_rfl) (stL_one _ _) HWF.out ?_)
        refine bodyPost_cell_tmp rfl R _ _ _ _ rfl HRZ.out Try.underlying32 rfl (by kernel_rfl) (.int .i64 1) rfl rfl ?_
        rw [HN.out]
        exact ⟨StH.nil, rfl, StOk.nil _, fun h => absurd h (by decide), HXZ.out⟩
  · obtain rfl : bp = true := by rw [← HBP.out]; exact hok.1
    have HN : Hid (St.new p n = (St.made p n, 0)) := Lib.hid (St.new_yes hok)
    have a1 : 1 ≤ n := hok.2.1
    have a2 : n ≤ 8 := hok.2.2
    obtain ⟨w4, hw4⟩ : ∃ w4, w3.alloc (.cells #[.int .i64 0, .int .i64 0, .int .i64 1, .int .i64 0, .int .i64 0] 55) = w4 := ⟨_, rfl⟩
    obtain ⟨w5, hw5⟩ : ∃ w5, w4.alloc (.cells (madeCells #[.int .i64 0, .int .i64 0, .int .i64 0, .int .i64 0, .int .i64 0, .int .i64 0, .int .i64 0, .int .i64 0, .int .i64 0, .int .i64 0, .int .i64 0, .int .i64 0, .int .i64 0] 104) 40) = w5 := ⟨_, rfl⟩
    obtain ⟨w6, hw6⟩ : ∃ w6, w5.alloc (.cells #[.int .i64 1] 3) = w6 := ⟨_, rfl⟩
    obtain ⟨g, hg⟩ : ∃ g, w3.heap.size = g := ⟨_, rfl⟩
    obtain ⟨q, hq⟩ : ∃ q, w4.heap.size = q := ⟨_, rfl⟩
    obtain ⟨l, hl⟩ : ∃ l, w5.heap.size = l := ⟨_, rfl⟩
    have hx4 : Ext w3 w4 := by rw [← hw4]; exact (Ext.refl _).alloc _
    have hx5 : Ext w4 w5 := by rw [← hw5]; exact (Ext.refl _).alloc _
    have hx6 : Ext w5 w6 := by rw [← hw6]; exact (Ext.refl _).alloc _
    have hg4 : w4.heap[g]? = some (.cells #[.int .i64 0, .int .i64 0, .int .i64 1, .int .i64 0, .int .i64 0] 55 (0, 0)) := by rw [← hw4, ← hg]; exact blk_new w3 _
    have hq5 : w5.heap[q]? = some (.cells (madeCells #[.int .i64 0, .int .i64 0, .int .i64 0, .int .i64 0, .int .i64 0, .int .i64 0, .int .i64 0, .int .i64 0, .int .i64 0, .int .i64 0, .int .i64 0, .int .i64 0, .int .i64 0] 104) 40 (0, 0)) := by rw [← hw5, ← hq]; exact blk_new w4 _
    have hl6 : w6.heap[l]? = some (.cells #[.int .i64 1] 3 (0, 0)) := by rw [← hw6, ← hl]; exact blk_new w5 _
    have HR6 : Hid (w6.heap[R]? = some (.cells #[.slice none 0 0, .slice none 0 0, .slice none 0 0, .slice none 0 0, .slice none 0 0, .int .i64 0, .int .i64 0, .int .i64 0, .int .i64 0, .slice none 0 0, .slice none 0 0, .slice none 0 0, .slice none 0 0, .slice none 0 0, .int .i64 0, .int .i64 0] 32 (0, 0))) := Lib.hid ((hx4.trans (hx5.trans hx6)).blk HR3.out)
    have HX6 : Hid (Ext w w6) := Lib.hid (HX3.out.trans (hx4.trans (hx5.trans hx6)))
    have hmk := make_ps w4
    rw [hw5, hq] at hmk
    obtain ⟨wf, hwf⟩ : ∃ wf, w6.setCells R 0 (stL (StH.made A c g q l) (St.made p n)) = wf := ⟨_, rfl⟩
    have HWF := Lib.hid hwf
    have hRlt : R < w3.heap.size := blk_lt HR3.out
    have hu : Upd R w6 wf := by rw [← hwf]; exact setCells_upd _ _ _ _
    have HRZ : Hid (wf.heap[R]? = some (.cells (stL (StH.made A c g q l) (St.made p n)).toArray 32 (0, 0))) := Lib.hid (by rw [← hwf]; exact setCells_at [.slice none 0 0, .slice none 0 0, .slice none 0 0, .slice none 0 0, .slice none 0 0, .int .i64 0, .int .i64 0, .int .i64 0, .int .i64 0, .slice none 0 0, .slice none 0 0, .slice none 0 0, .slice none 0 0, .slice none 0 0, .int .i64 0, .int .i64 0] (stL (StH.made A c g q l) (St.made p n)) rfl HR6.out)
    have HTH : Hid (w6.there R 0 (stL (StH.made A c g q l) (St.made p n)).length) := Lib.hid (there_row HR6.out (Nat.le_refl 16))
    have HXZ : Hid (Ext w wf) := Lib.hid (HX6.out.upd hu (by have := HRR.out; omega))
    have HSZ : Hid (R < g ∧ R < q ∧ R < l) := Lib.hid (by have := hx4.size; have := hx5.size; omega)
    have HOK : Hid (StOk wf (StH.made A c g q l) (St.made p n)) := Lib.hid (by
      have hz := HSZ.out
      exact StOk.made (H.out.ext HXZ.out) (hu.blk ((hx5.trans hx6).blk hg4) (by omega)) (hu.blk (hx6.blk hq5) (by omega)) (hu.blk hl6 (by omega)))
    have HW4 := Lib.hid hw4
    have HW6 := Lib.hid hw6
    have HGQ : Hid (w3.heap.size = g ∧ w5.heap.size = l) := Lib.hid ⟨hg, hl⟩
    clear hw4 hw5 hw6 hg hq hl hx4 hx5 hx6 hg4 hq5 hl6 hwf hRlt hu hok
    go_wp2_with (first | rw [HW4.out, HGQ.out.1] | rw [HW6.out, HGQ.out.2] | (refine wpList_store_row rfl 32 _ _ rfl R (stL (StH.made A c g q l) (St.made p n)) (stV (StH.made A c g q l) (St.made p n)) rfl rfl rfl HTH.out (by kernel_rfl) (stL_one _ _) HWF.out ?_))
    refine bodyPost_cell_tmp rfl R _ _ _ _ rfl HRZ.out Try.underlying32 rfl (by kernel_rfl) (.int .i64 0) rfl rfl ?_
    rw [HN.out]
    exact ⟨StH.made A c g q l, rfl, HOK.out, fun _ => rfl, HXZ.out⟩
theorem gs_push {v : World} {B0 n cc : Nat} {A : Option Addr} {xs : List Gr} (h : OwnRows 55 5 gL v B0 (.slice A n cc) xs) (hn : n = xs.length) (x : Gr) (hl : xs.length ≤ 1000000) (hB : B0 ≤ v.heap.size) :
    ∃ A' c' v', (Builtin.append_ #[24, 24] 24 #[.slice A n cc, .slice (some ⟨v.heap.size, 0, none⟩) 1 1]).run Try.prog (v.alloc (.cells (gL x).toArray 55)) = .ok (.slice A' (n + 1) c') v' ∧ OwnRows 55 5 gL v' B0 (.slice A' (n + 1) c') (xs ++ [x]) ∧
      (∀ b o, b < B0 → v.heap[b]? = some o → v'.heap[b]? = some o) ∧ (∀ W : World, Ext W v → W.heap.size ≤ B0 → Ext W v') ∧ v.heap.size ≤ v'.heap.size := by
  subst hn
  obtain ⟨i0, I0, I1, I2, I3⟩ := info_parts Try.infoG
  obtain ⟨g, hg⟩ : ∃ g, v.heap.size = g := ⟨_, rfl⟩
  have hb := blk_new v (.cells (gL x).toArray 55)
  have hone : RowsAt 5 gL (v.alloc (.cells (gL x).toArray 55)) (.slice (some ⟨v.heap.size, 0, none⟩) [x].length 1) [x] := ⟨_, _, rfl, Nat.le_refl 1, fun _ => ⟨v.heap.size, 0, rfl, blk_lt hb, fun j y hj i u hu => by
    match j with
    | 0 =>
      simp at hj; subst hj
      simp only [Nat.zero_mul, Nat.zero_add]
      exact blk_cell hb i u (by simpa using hu)
    | j + 1 => simp at hj⟩⟩
  obtain ⟨u, v', hr, ho, hgr, hbb⟩ := OwnRows.append2 (P := Try.prog) (e := 55) (m := 5) (f := gL) (ys := [x]) 24 Try.underlying24 I0 I1 I2 I3 rfl (by decide) gL_len gL_one (h.alloc _) hone (by simp [maxLen]; omega) (by simp; omega) (by rw [World.size_alloc]; omega)
  obtain ⟨A', c', rfl, -⟩ := (OwnRows.rows gL_len ho).form
  rw [List.length_append] at hr ho
  have hlo : ∀ b, (Value.slice A xs.length cc).ownBlock = some b → B0 ≤ b := fun b e => (h.lt b e).1
  refine ⟨A', c', v', hr, ho, fun b o hb0 hbo => (hgr.block b (by have := blk_lt hbo; rw [World.size_alloc]; omega) (fun e => by have := hlo b e.symm; omega)).trans (blk_alloc hbo _), fun W hx hW => ?_, by have := hgr.size; rw [World.size_alloc] at this; omega⟩
  exact Below.grown (hx.alloc _) hgr (hx.alloc _).size fun k hk => by have := hlo k hk; omega

def p1 : Pr := ⟨1, 0, ⟨[1, 2, 3, 4, 5, 6, 7, 8], 0, 8⟩, 0⟩
def fullS : St := ⟨[[(0, 0)]], List.replicate 8 ⟨0, 0, 1, 0, 0⟩ ++ [⟨0, 0, 2, 1, 0⟩], p1 :: List.replicate 7 nilPr, [(1, 9)], [], 0, 0, 0, 0, [], [], [], [], [], 0, 1⟩
theorem full_new : St.new [[(0, 0)]] 1 = (St.made [[(0, 0)]] 1, 0) := St.new_yes (by decide +kernel)
theorem full_at : Ri.at' 0 [1, 2, 3, 4, 5, 6, 7, 8] = ⟨[1, 2, 3, 4, 5, 6, 7, 8], 0, 8⟩ := by kernel_rfl
/-- The box, its Gs, its Ms, and Ps of the call's own, eight. -/
structure FK (B1 q0 g0 m0 c9 : Nat) (A9 : Option Addr) (gs9 : List Gr) (h : StH) (s : St) (w : World) : Prop where
  box : w.heap[B1]? = some (.cells (stC h s) 32 (0, 0))
  ps : ∃ x : Pr, OwnRows 40 13 pL w q0 (.slice (some ⟨q0, 0, none⟩) 8 8) (x :: List.replicate 7 nilPr)
  gs : OwnRows 55 5 gL w g0 (.slice A9 9 c9) gs9
  ms : w.heap[m0]? = some (.cells #[.int .i64 1, .int .i64 9] 57 (0, 0))
  lt : B1 < q0 ∧ m0 < q0
  un : UnderB (.slice A9 9 c9) q0
theorem OwnRows.lowM {α : Type} {e : TypeId} {m : Nat} {f : α → List Value} {w w2 : World} {B M : Nat} {v : Value} {xs : List α} (h : OwnRows e m f w B v xs) (hl : LowSame M w w2) (hv : UnderB v M) : OwnRows e m f w2 B v xs := by
  refine ⟨h.1, ?_⟩
  rcases h.2 with h2 | ⟨g', cap, cur, e, hb, hh, rest⟩
  · exact .inl h2
  · exact .inr ⟨g', cap, cur, e, hb, (hl g' (hv g' (by rw [e]; rfl))).trans hh, rest⟩
theorem FK.low {B1 q0 g0 m0 c9 M : Nat} {A9 : Option Addr} {gs9 : List Gr} {h : StH} {s : St} {w w2 : World} (k : FK B1 q0 g0 m0 c9 A9 gs9 h s w) (hl : LowSame M w w2) (hg : q0 < M) : FK B1 q0 g0 m0 c9 A9 gs9 h s w2 := by
  obtain ⟨x, h1⟩ := k.ps
  have hlt := k.lt
  exact ⟨(hl B1 (by omega)).trans k.box, ⟨x, h1.lowM hl fun b hb => by cases hb; exact hg⟩, k.gs.lowM hl fun b hb => Nat.lt_trans (k.un b hb) hg, (hl m0 (by omega)).trans k.ms, k.lt, k.un⟩
theorem PairsAt.none (w : World) (A : Option Addr) (c : Nat) : PairsAt w (.slice A 0 c) [] := ⟨A, c, rfl, Nat.zero_le _, fun h => absurd h (by decide)⟩
theorem own_eight (v : World) : OwnInts (v.alloc (.cells #[.int .i64 1, .int .i64 2, .int .i64 3, .int .i64 4, .int .i64 5, .int .i64 6, .int .i64 7, .int .i64 8] 3)) v.heap.size (.slice (some ⟨v.heap.size, 0, none⟩) 8 8) [1, 2, 3, 4, 5, 6, 7, 8] := ⟨rfl, .inr ⟨v.heap.size, 8, _, rfl, Nat.le_refl _, blk_new v _, Nat.le_refl _, by decide, rfl, rfl⟩⟩
theorem ps_made (w : World) : OwnRows 40 13 pL (w.alloc (.cells (madeCells #[.int .i64 0, .int .i64 0, .int .i64 0, .int .i64 0, .int .i64 0, .int .i64 0, .int .i64 0, .int .i64 0, .int .i64 0, .int .i64 0, .int .i64 0, .int .i64 0, .int .i64 0] 104) 40)) w.heap.size (.slice (some ⟨w.heap.size, 0, none⟩) 8 8) (List.replicate 8 nilPr) := by
  refine ⟨by rw [flatMap_len pL_len], .inr ⟨w.heap.size, 8, _, rfl, Nat.le_refl _, blk_new w _, Nat.le_refl _, by decide, by kernel_rfl, by kernel_rfl⟩⟩
set_option maxRecDepth 100000 in
set_option maxHeartbeats 16000000 in
theorem full_any (w : World) : Calls Try.prog 49 #[] w fun e w' => ∃ h, e = .returned (stV h fullS) ∧ StOk w' h fullS ∧ Ext w w' := by
  obtain ⟨R, hR⟩ : ∃ R, w.heap.size = R := ⟨_, rfl⟩
  obtain ⟨w0, hw0⟩ : ∃ w0, w.alloc (.cells #[.slice none 0 0, .slice none 0 0, .slice none 0 0, .slice none 0 0, .slice none 0 0, .int .i64 0, .int .i64 0, .int .i64 0, .int .i64 0, .slice none 0 0, .slice none 0 0, .slice none 0 0, .slice none 0 0, .slice none 0 0, .int .i64 0, .int .i64 0] 32) = w0 := ⟨_, rfl⟩
  obtain ⟨w1, hw1⟩ : ∃ w1, w0.alloc (.cells #[.int .i64 0, .int .i64 0] 68) = w1 := ⟨_, rfl⟩
  obtain ⟨w2, hw2⟩ : ∃ w2, w1.alloc (.cells #[.slice (some ⟨w0.heap.size, 0, none⟩) 1 1] 69) = w2 := ⟨_, rfl⟩
  have hx0 : Ext w w0 := by rw [← hw0]; exact (Ext.refl w).alloc _
  have hx1 : Ext w0 w1 := by rw [← hw1]; exact (Ext.refl w0).alloc _
  have hx2 : Ext w1 w2 := by rw [← hw2]; exact (Ext.refl w1).alloc _
  have hr0 : w0.heap[R]? = some (.cells #[.slice none 0 0, .slice none 0 0, .slice none 0 0, .slice none 0 0, .slice none 0 0, .int .i64 0, .int .i64 0, .int .i64 0, .int .i64 0, .slice none 0 0, .slice none 0 0, .slice none 0 0, .slice none 0 0, .slice none 0 0, .int .i64 0, .int .i64 0] 32 (0, 0)) := by rw [← hw0, ← hR]; exact blk_new w _
  have hb1 : w1.heap[w0.heap.size]? = some (.cells #[.int .i64 0, .int .i64 0] 68 (0, 0)) := by rw [← hw1]; exact blk_new w0 _
  have hb2 : w2.heap[w1.heap.size]? = some (.cells #[.slice (some ⟨w0.heap.size, 0, none⟩) 1 1] 69 (0, 0)) := by rw [← hw2]; exact blk_new w1 _
  have key : ∀ v : World, v.heap[w0.heap.size]? = some (.cells #[.int .i64 0, .int .i64 0] 68 (0, 0)) → v.heap[w1.heap.size]? = some (.cells #[.slice (some ⟨w0.heap.size, 0, none⟩) 1 1] 69 (0, 0)) → NestAt 2 pairL v (.slice (some ⟨w1.heap.size, 0, none⟩) 1 1) [[(0, 0)]] := fun v k1 k2 => nest_one k2 ⟨_, _, rfl, Nat.le_refl 1, fun _ => ⟨w0.heap.size, 0, rfl, blk_lt k1, fun j x hj i u hu => by
    match j with
    | 0 =>
      simp at hj; subst hj
      refine blk_cell k1 _ _ ?_
      match i with
      | 0 | 1 => simp [pairL] at hu; subst hu; rfl
      | i + 2 => simp [pairL] at hu
    | j + 1 => simp at hj⟩⟩
  have KEY := Lib.hid key
  have HN1 := Lib.hid (rNew_pa _ [[(0, 0)]] 1 _ full_new w2 (key w2 (hx2.blk hb1) hb2) (by decide) (by decide))
  have HX2 : Hid (Ext w w2) := Lib.hid (hx0.trans (hx1.trans hx2))
  have HR2 := Lib.hid ((hx1.trans hx2).blk hr0)
  have HBI := Lib.hid (hx2.blk hb1)
  have HBP := Lib.hid hb2
  have HRL : Hid (R < w0.heap.size ∧ w0.heap.size < w1.heap.size) := Lib.hid ⟨blk_lt hr0, blk_lt hb1⟩
  have HW0 := Lib.hid hw0
  have HW1 := Lib.hid hw1
  have HW2 := Lib.hid hw2
  have HRR := Lib.hid hR
  clear hR hw0 hw1 hw2 hx0 hx1 hx2 hr0 hb1 hb2 key
  go_enter Try.func49, Try.ntmps49
  go_wp2_with (first | rw [HW0.out, HRR.out] | rw [HW0.out] | rw [HW1.out] | rw [HW2.out])
  refine HN1.out.mono ?_
  rintro e wa ⟨h1, rfl, hk1, hpa, hxa⟩
  simp only at hpa ⊢
  have hpa := hpa trivial
  obtain ⟨A0, c0, hpaf⟩ : ∃ A0 c0, h1.pa = A0 ∧ h1.pc = c0 := ⟨_, _, rfl, rfl⟩
  obtain ⟨wb, wc, hwb, hwc, hth, hbc, hxc⟩ := st_box wa h1 (St.made [[(0, 0)]] 1)
  obtain ⟨B1, hB1⟩ : ∃ B1, wa.heap.size = B1 := ⟨_, rfl⟩
  rw [hB1] at hwc hth hbc
  obtain ⟨wd, hwd⟩ : ∃ wd, wc.alloc (.cells #[] 55) = wd := ⟨_, rfl⟩
  obtain ⟨g0, hg0⟩ : ∃ g0, wc.heap.size = g0 := ⟨_, rfl⟩
  obtain ⟨we, hwe⟩ : ∃ we, wd.setCell ⟨B1, 1, none⟩ (.slice (some ⟨g0, 0, none⟩) 0 0) = we := ⟨_, rfl⟩
  have hxd : Ext wc wd := by rw [← hwd]; exact (Ext.refl _).alloc _
  have hbd := hxd.blk hbc
  have q1 : wd.cell? ⟨B1, 1, none⟩ = some (.slice h1.ga 1 h1.gc) := st1 hbd
  have qf := frozen_of_row _ _ 1 _ _ hbd
  have HBE : Hid (we.heap[B1]? = some (.cells (stC { h1 with ga := some ⟨g0, 0, none⟩, gc := 0 } { St.made [[(0, 0)]] 1 with gs := List.replicate 0 ⟨0, 0, 1, 0, 0⟩ }) 32 (0, 0))) := Lib.hid (by rw [← hwe]; exact blk_set hbd 1 _)
  have HAE : Hid (Ext wa we) := Lib.hid (by rw [← hwe]; exact (hxc.trans hxd).setCell (p := ⟨B1, 1, none⟩) (by simp only; omega) _)
  have HGO : Hid (OwnRows 55 5 gL we g0 (.slice (some ⟨g0, 0, none⟩) 0 0) (List.replicate 0 ⟨0, 0, 1, 0, 0⟩)) := Lib.hid (by
    have h0 : OwnRows 55 5 gL wd g0 (.slice (some ⟨g0, 0, none⟩) 0 0) [] := by rw [← hwd, ← hg0]; exact World.ownsRow_made (base := wc.heap.size) (e := 55) (size := 5) wc #[] 0 (Nat.le_refl _) (by decide) rfl
    exact h0.updB (by rw [← hwe]; exact (Upd.refl B1 wd).set 1 _) (by have := blk_lt hbc; omega))
  have HBG : Hid (B1 < g0 ∧ g0 < we.heap.size ∧ wa.heap.size ≤ B1) := Lib.hid ⟨by have := blk_lt hbc; omega, by rw [← hwe, ← hg0]; simp [World.setCell]; rw [← hwd, World.size_alloc]; omega, by omega⟩
  have HWB := Lib.hid hwb
  have HB1 := Lib.hid hB1
  have HWC := Lib.hid hwc
  have HWD := Lib.hid hwd
  have HG0 := Lib.hid hg0
  have HWE := Lib.hid hwe
  have HTHB := Lib.hid hth
  have HXA := Lib.hid hxa
  have HPA := Lib.hid hpa
  clear hwb hwc hth hbc hxc hB1 hwd hg0 hwe hxd hbd hxa hpa hpaf hk1
  go_upto_region 3 with (first | rw [HWB.out, HB1.out] | rw [HWD.out, HG0.out] | rw [HWE.out] | (refine wpList_store_row rfl 32 _ _ rfl B1 (stL h1 (St.made [[(0, 0)]] 1)) (stV h1 (St.made [[(0, 0)]] 1)) (by go_simp) (by go_simp) rfl HTHB.out (by kernel_rfl) (stL_one _ _) HWC.out ?_))
  clear q1 qf
  go_wp2_with fail
  go_loopw [3] (fun iv wr => ∃ k : Nat, k ≤ 8 ∧ iv = .int .i64 k ∧ ∃ A cc, wr.heap[B1]? = some (.cells (stC { h1 with ga := A, gc := cc } { St.made [[(0, 0)]] 1 with gs := List.replicate k ⟨0, 0, 1, 0, 0⟩ }) 32 (0, 0)) ∧ OwnRows 55 5 gL wr g0 (.slice A k cc) (List.replicate k ⟨0, 0, 1, 0, 0⟩) ∧ Ext wa wr ∧ g0 ≤ wr.heap.size) (fun iv _ => 8 - (intOf iv).toNat)
  case atStart => exact ⟨0, by omega, rfl, _, _, HBE.out, HGO.out, HAE.out, by have := HBG.out; omega⟩
  case round =>
    obtain ⟨k, hk, rfl, A, cc, hb, ho, hx, hsz⟩ := hrel
    have HB := Lib.hid hb
    have HO := Lib.hid ho
    have HX := Lib.hid hx
    have HSZ := Lib.hid hsz
    have q1 : wr.cell? ⟨B1, 1, none⟩ = some (.slice A k cc) := by have := st1 hb; simp only [List.length_replicate] at this; exact this
    clear hb ho hx hsz
    by_cases hlt : k < 8
    · obtain ⟨A', c', v', hr, ho', hkeep, hext, hsz'⟩ := gs_push HO.out (by rw [List.length_replicate]) ⟨0, 0, 1, 0, 0⟩ (by rw [List.length_replicate]; omega) HSZ.out
      obtain ⟨wn, hwn⟩ : ∃ wn, v'.setCell ⟨B1, 1, none⟩ (.slice A' (k + 1) c') = wn := ⟨_, rfl⟩
      have hbv := hkeep B1 _ HBG.out.1 HB.out
      have r0 := st1 hbv
      have r1 := frozen_of_row _ _ 1 _ _ hbv
      have hrep : List.replicate k (⟨0, 0, 1, 0, 0⟩ : Gr) ++ [⟨0, 0, 1, 0, 0⟩] = List.replicate (k + 1) ⟨0, 0, 1, 0, 0⟩ := by rw [List.replicate_succ', ]
      have NB : Hid (wn.heap[B1]? = some (.cells (stC { h1 with ga := A', gc := c' } { St.made [[(0, 0)]] 1 with gs := List.replicate (k + 1) ⟨0, 0, 1, 0, 0⟩ }) 32 (0, 0))) := Lib.hid (by
        rw [← hwn]
        have := blk_set hbv 1 (.slice A' (k + 1) c')
        unfold stC
        rw [List.length_replicate]
        exact this)
      have NO : Hid (OwnRows 55 5 gL wn g0 (.slice A' (k + 1) c') (List.replicate (k + 1) ⟨0, 0, 1, 0, 0⟩)) := Lib.hid (by rw [← hrep, ← hwn]; exact ho'.updB ((Upd.refl B1 v').set 1 _) HBG.out.1)
      have NX : Hid (Ext wa wn) := Lib.hid (by rw [← hwn]; exact (hext wa HX.out (by have := HBG.out; omega)).setCell (p := ⟨B1, 1, none⟩) (by have := HBG.out; simp only; omega) _)
      have NS : Hid (g0 ≤ wn.heap.size) := Lib.hid (by rw [← hwn]; simp [World.setCell]; have := HSZ.out; omega)
      have HR := Lib.hid hr
      have HWN := Lib.hid hwn
      clear hr ho' hkeep hext hsz' hbv hrep hwn
      go_wp2_with (first | (at_builtin; refine wpList_append_run rfl _ _ 24 rfl _ _ (by go_simp) (by go_simp) HR.out ?_) | rw [HWN.out])
      go_roundw
      case rel => exact ⟨k + 1, by omega, by go_num, A', c', NB.out, NO.out, NX.out, NS.out⟩
      case measure => simp [intOf]; omega
    · obtain rfl : k = 8 := by omega
      have HG8 := HO
      obtain ⟨A9, c9, v9, hr9, ho9, hkeep, hext, hsz9⟩ := gs_push HO.out (by rw [List.length_replicate]) ⟨0, 0, 2, 1, 0⟩ (by rw [List.length_replicate]; omega) HSZ.out
      obtain ⟨gs9, hgs9⟩ : ∃ gs9 : List Gr, List.replicate 8 ⟨0, 0, 1, 0, 0⟩ ++ [⟨0, 0, 2, 1, 0⟩] = gs9 := ⟨_, rfl⟩
      have hgl : gs9.length = 9 := by rw [← hgs9]; rfl
      have hbv := hkeep B1 _ HBG.out.1 HB.out
      obtain ⟨w7, hw7⟩ : ∃ w7, v9.setCell ⟨B1, 1, none⟩ (.slice A9 9 c9) = w7 := ⟨_, rfl⟩
      obtain ⟨w8, hw8⟩ : ∃ w8, w7.setCell ⟨B1, 4, none⟩ (.slice none 0 0) = w8 := ⟨_, rfl⟩
      obtain ⟨wm, hwm⟩ : ∃ wm, w8.alloc (.cells #[.int .i64 1, .int .i64 9] 57) = wm := ⟨_, rfl⟩
      obtain ⟨m0, hm0⟩ : ∃ m0, w8.heap.size = m0 := ⟨_, rfl⟩
      obtain ⟨w9, hw9⟩ : ∃ w9, wm.setCell ⟨B1, 3, none⟩ (.slice (some ⟨m0, 0, none⟩) 1 1) = w9 := ⟨_, rfl⟩
      obtain ⟨wp, hwp⟩ : ∃ wp, w9.alloc (.cells (madeCells #[.int .i64 0, .int .i64 0, .int .i64 0, .int .i64 0, .int .i64 0, .int .i64 0, .int .i64 0, .int .i64 0, .int .i64 0, .int .i64 0, .int .i64 0, .int .i64 0, .int .i64 0] 104) 40) = wp := ⟨_, rfl⟩
      obtain ⟨q0, hq0⟩ : ∃ q0, w9.heap.size = q0 := ⟨_, rfl⟩
      obtain ⟨w10, hw10⟩ : ∃ w10, wp.setCell ⟨B1, 2, none⟩ (.slice (some ⟨q0, 0, none⟩) 8 8) = w10 := ⟨_, rfl⟩
      have b7 : w7.heap[B1]? = some (.cells (stC { h1 with ga := A9, gc := c9 } { St.made [[(0, 0)]] 1 with gs := gs9 }) 32 (0, 0)) := by
        rw [← hw7]; unfold stC; rw [hgl]; exact blk_set hbv 1 _
      have b8 : w8.heap[B1]? = some (.cells (stC { h1 with ga := A9, gc := c9, la := none, lc := 0 } { St.made [[(0, 0)]] 1 with gs := gs9, glob := [] }) 32 (0, 0)) := by
        rw [← hw8]; exact blk_set b7 4 _
      have bm := blk_alloc b8 (.cells #[.int .i64 1, .int .i64 9] 57)
      rw [hwm] at bm
      have b9 : w9.heap[B1]? = some (.cells (stC { h1 with ga := A9, gc := c9, la := none, lc := 0, ma := some ⟨m0, 0, none⟩, mc := 1 } { St.made [[(0, 0)]] 1 with gs := gs9, glob := [], ms := [(1, 9)] }) 32 (0, 0)) := by
        rw [← hw9]; exact blk_set bm 3 _
      have bp := blk_alloc b9 (.cells (madeCells #[.int .i64 0, .int .i64 0, .int .i64 0, .int .i64 0, .int .i64 0, .int .i64 0, .int .i64 0, .int .i64 0, .int .i64 0, .int .i64 0, .int .i64 0, .int .i64 0, .int .i64 0] 104) 40)
      rw [hwp] at bp
      obtain ⟨hh, hhh⟩ : ∃ hh : StH, { h1 with ga := A9, gc := c9, la := none, lc := 0, ma := some ⟨m0, 0, none⟩, mc := 1, qa := some ⟨q0, 0, none⟩, qc := 8 } = hh := ⟨_, rfl⟩
      obtain ⟨ss, hss⟩ : ∃ ss : St, { St.made [[(0, 0)]] 1 with gs := gs9, glob := [], ms := [(1, 9)], ps := List.replicate 8 nilPr } = ss := ⟨_, rfl⟩
      have b10 : w10.heap[B1]? = some (.cells (stC hh ss) 32 (0, 0)) := by
        rw [← hw10, ← hhh, ← hss]; exact blk_set bp 2 _
      have z7 : Ext wa w7 := by rw [← hw7]; exact (hext wa HX.out (by have := HBG.out; omega)).setCell (p := ⟨B1, 1, none⟩) (by have := HBG.out; simp only; omega) _
      have z8 : Ext wa w8 := by rw [← hw8]; exact z7.setCell (p := ⟨B1, 4, none⟩) (by have := HBG.out; simp only; omega) _
      have z9 : Ext wa w9 := by rw [← hw9, ← hwm]; exact (z8.alloc _).setCell (p := ⟨B1, 3, none⟩) (by have := HBG.out; simp only; omega) _
      have z10 : Ext wa w10 := by rw [← hw10, ← hwp]; exact (z9.alloc _).setCell (p := ⟨B1, 2, none⟩) (by have := HBG.out; simp only; omega) _
      have e1 := st1 hbv
      have f1 := frozen_of_row _ _ 1 _ _ hbv
      have e4 := st4 b7
      have f4 := frozen_of_row _ _ 4 _ _ b7
      have e3 := st3 bm
      have f3 := frozen_of_row _ _ 3 _ _ bm
      have e2 := st2 bp
      have f2 := frozen_of_row _ _ 2 _ _ bp
      have hmk := make_ps w9
      rw [hwp, hq0] at hmk
      have hsz8 : g0 ≤ w8.heap.size := by rw [← hw8, ← hw7]; simp [World.setCell]; have := HSZ.out; omega
      have hszs : m0 < q0 ∧ g0 ≤ m0 := by rw [← hq0, ← hw9, ← hm0]; simp [World.setCell]; rw [← hwm, World.size_alloc]; omega
      have u8 : Upd B1 v9 w8 := by rw [← hw8, ← hw7]; exact ((Upd.refl B1 v9).set 1 _).set 4 _
      have u10 : ∃ x, wm.setCell ⟨B1, 3, none⟩ (.slice (some ⟨m0, 0, none⟩) 1 1) = x ∧ x = w9 := ⟨_, rfl, hw9⟩
      have hm9 : w9.heap[m0]? = some (.cells #[.int .i64 1, .int .i64 9] 57 (0, 0)) := by rw [← hw9, ← hm0]; exact blk_set_other (by rw [← hwm]; exact blk_new w8 _) _ (by have := HBG.out; simp only; omega) _
      have ho9' : OwnRows 55 5 gL w9 g0 (.slice A9 9 c9) gs9 := by
        rw [← hgs9, ← hw9]
        refine OwnRows.updB ?_ ((Upd.refl B1 wm).set 3 _) HBG.out.1
        rw [← hwm]
        exact (ho9.updB u8 HBG.out.1).alloc _
      have x910 : Upd B1 wp w10 := by rw [← hw10]; exact (Upd.refl B1 wp).set 2 _
      have hgs10 : OwnRows 55 5 gL w10 g0 (.slice A9 9 c9) gs9 := by
        refine OwnRows.updB ?_ x910 HBG.out.1
        rw [← hwp]
        exact ho9'.alloc _
      have hm10 : w10.heap[m0]? = some (.cells #[.int .i64 1, .int .i64 9] 57 (0, 0)) := (x910.block m0 (by rw [← hwp, World.size_alloc]; omega) (fun e => by injection e; have := HBG.out; omega)).trans (by rw [← hwp]; exact blk_alloc hm9 _)
      have hps10 : OwnRows 40 13 pL w10 q0 (.slice (some ⟨q0, 0, none⟩) 8 8) (List.replicate 8 nilPr) := by
        refine OwnRows.updB ?_ x910 (by have := HBG.out; omega)
        rw [← hwp, ← hq0]
        exact ps_made w9
      have hqw : q0 < w10.heap.size := by
        have h1 := x910.size
        have h2 : q0 < wp.heap.size := by rw [← hwp, World.size_alloc, hq0]; exact Nat.lt_succ_self _
        omega
      have HSQ : Hid (B1 < g0 ∧ g0 ≤ m0 ∧ m0 < q0 ∧ q0 < w10.heap.size ∧ wa.heap.size ≤ B1) := Lib.hid ⟨HBG.out.1, hszs.2, hszs.1, hqw, HBG.out.2.2⟩
      have HGSL : Hid (OwnRows 55 5 gL w10 g0 (.slice A9 9 c9) gs9 ∧ UnderB (.slice A9 9 c9) q0) := Lib.hid ⟨hgs10, fun b hb => by have := (ho9'.lt b hb).2; omega⟩
      have HM10 := Lib.hid hm10
      have HFK : Hid (FK B1 q0 g0 m0 c9 A9 gs9 hh ss w10) := Lib.hid ⟨b10, ⟨nilPr, hps10⟩, hgs10, hm10, by have := HSQ.out; omega, HGSL.out.2⟩
      have HZ10 := Lib.hid z10
      have HR9 := Lib.hid hr9
      have HW7 := Lib.hid hw7
      have HW8 := Lib.hid hw8
      have HWM := Lib.hid hwm
      have HM0 := Lib.hid hm0
      have HW9 := Lib.hid hw9
      have HW10 := Lib.hid hw10
      have HHH := Lib.hid hhh
      have HSS := Lib.hid hss
      have HGS9 := Lib.hid hgs9
      clear hr9 ho9 hkeep hext hsz9 hbv hw7 hw8 hwm hm0 hw9 hwp hw10 b7 b8 bm b9 bp b10 z7 z8 z9 z10 hsz8 hszs u8 u10 hm9 ho9' x910 hgs10 hm10 hps10 hhh hss hgs9 hgl hq0
      simp only [St.made, List.length_replicate] at e1 e2 e3 e4
      go_upto_region 11 with (first | (at_builtin; refine wpList_append_run rfl _ _ 24 rfl _ _ (by go_simp) (by go_simp) HR9.out ?_) | rw [HW7.out] | rw [HW8.out] | rw [HWM.out, HM0.out] | rw [HW9.out] | rw [HW10.out])
      have hkk0 := HFK.out
      have hq1 : q0 < q0 + 1 := Nat.lt_succ_self _
      have hqz := HSQ.out
      clear e1 e2 e3 e4 f1 f2 f3 f4 hmk
      refine region_rgz ([(2, (fun u => ∃ b, u = .slice (some ⟨b, 0, none⟩) 8 8 : Value → Prop), (fun u w => OwnInts w (q0 + 1) (u 2).v [1, 2, 3, 4, 5, 6, 7, 8] : (Nat → GV) → World → Prop)), (3, (fun u => u = .agg #[.int .i64 1, .int .i64 2, .int .i64 3, .int .i64 4, .int .i64 5, .int .i64 6, .int .i64 7, .int .i64 8, .int .i64 0, .int .i64 8] : Value → Prop), (fun _ _ => True : (Nat → GV) → World → Prop)), (6, (fun u => u = undef : Value → Prop), (fun u w => OwnRows 40 13 pL w q0 (.slice (some ⟨q0, 0, none⟩) 8 8) (p1 :: List.replicate 7 nilPr) : (Nat → GV) → World → Prop))]) (wa) (q0 + 1) (q0) (6) (FK B1 q0 g0 m0 c9 A9 gs9 hh ss) ([]) (by kernel_rfl) (by kernel_rfl) ?_ ?_ (by omega) (fun w w2 hl hk => by first | (obtain ⟨x, hx⟩ := hk; exact ⟨x, (hl _ (by omega)).trans hx⟩) | exact hk.low hl (by assumption)) ?_ ?_ ?_ ?_
      · exact List.forall_mem_nil _
      · exact List.forall_mem_cons.2 ⟨⟨⟨_, 0, rfl⟩, fun u v w h ht => by show (fun u w => OwnInts w (q0 + 1) (u 2).v [1, 2, 3, 4, 5, 6, 7, 8] : (Nat → GV) → World → Prop) v w; dsimp only; rw [← h 2 (.inl rfl) (by kernel_rfl)]; exact ht, fun u w w2 hx ht => OwnInts.ext ht hx, List.forall_mem_nil _, fun _ u w w2 hz ht => OwnInts.updB ht hz (Nat.lt_succ_self _)⟩, List.forall_mem_cons.2 ⟨⟨⟨_, rfl⟩, fun _ _ _ _ _ => trivial, fun _ _ _ _ _ => trivial, List.forall_mem_nil _, fun _ _ _ _ _ _ => trivial⟩, List.forall_mem_cons.2 ⟨⟨⟨_, rfl⟩, fun _ _ _ _ ht => ht, fun u w w2 hx ht => OwnRows.ext ht hx, List.forall_mem_nil _, fun hne => absurd rfl hne⟩, List.forall_mem_nil _⟩⟩⟩
      · first | assumption | exact Ext.refl _
      · first | assumption | omega
      · assumption
      refine rg_pure (v := ?_) rfl (by kernel_rfl) (by kernel_rfl) (fun w hS hN => ?_) ?_
      rotate_left 1
      · obtain ⟨hS, hM, hK⟩ := hS
        clear hN
        go_simp
        refine givesP_mk ?_
        with_reducible rfl
      refine rg_pure (v := ?_) rfl (by kernel_rfl) (by kernel_rfl) (fun w hS hN => ?_) ?_
      rotate_left 1
      · obtain ⟨hS, hM, hK⟩ := hS
        have k2 : w.cell? ⟨B1, 2, none⟩ = some (.slice (some ⟨q0, 0, none⟩) 8 8) := by (have := st2 hK.box; rw [← HSS.out, ← HHH.out] at this; exact this)
        clear hN
        go_simp
        refine givesP_mk ?_
        with_reducible rfl
      refine rg_mem (fun u => ∃ b, u = .slice (some ⟨b, 0, none⟩) 8 8 : Value → Prop) (fun u w => OwnInts w (q0 + 1) (u 2).v [1, 2, 3, 4, 5, 6, 7, 8] : (Nat → GV) → World → Prop) (fun _ => Ext) rfl rfl rfl rfl (by kernel_rfl) (by kernel_rfl) (fun w hS hN R hR => ?_) ?_
      · obtain ⟨hS, hM, hK⟩ := hS
        have HR := Lib.hid hR
        clear hR
        (try clear hN)
        go_simp
        exact givesM_val (HR.out _ _ ⟨_, rfl⟩ (OwnInts.lower (own_eight w) hM) ((Ext.refl w).alloc _))
      rintro u2 s2 t2 ⟨b2, rfl⟩
      refine rg_mem (fun u => u = .agg #[.int .i64 1, .int .i64 2, .int .i64 3, .int .i64 4, .int .i64 5, .int .i64 6, .int .i64 7, .int .i64 8, .int .i64 0, .int .i64 8] : Value → Prop) (fun _ _ => True : (Nat → GV) → World → Prop) (fun _ => Ext) rfl rfl rfl rfl (by kernel_rfl) (by kernel_rfl) (fun w hS hN R hR => ?_) ?_
      · obtain ⟨hS, hM, hK⟩ := hS
        have HR := Lib.hid hR
        clear hR
        have h2 : OwnInts w (q0 + 1) (.slice (some ⟨b2, 0, none⟩) 8 8) [1, 2, 3, 4, 5, 6, 7, 8] := hN.get 2 rfl (by kernel_rfl)
        (try clear hN)
        go_simp
        refine givesM_call ((rat_any _ 0 [1, 2, 3, 4, 5, 6, 7, 8] 0 rfl (by decide) w h2.at.2 (by decide)).mono ?_)
        rintro e w' ⟨rfl, hx⟩
        exact ⟨_, rfl, HR.out _ _ (by rw [full_at]; rfl) trivial hx⟩
      rintro u3 s3 t3 rfl
      refine rg_pure (v := ?_) rfl (by kernel_rfl) (by kernel_rfl) (fun w hS hN => ?_) ?_
      rotate_left 1
      · obtain ⟨hS, hM, hK⟩ := hS
        clear hN
        go_simp
        refine givesP_mk ?_
        with_reducible rfl
      refine rg_pure (v := ?_) rfl (by kernel_rfl) (by kernel_rfl) (fun w hS hN => ?_) ?_
      rotate_left 1
      · obtain ⟨hS, hM, hK⟩ := hS
        clear hN
        go_simp
        refine givesP_mk ?_
        with_reducible rfl
      refine rg_mem (fun u => u = undef : Value → Prop) (fun u w => OwnRows 40 13 pL w q0 (.slice (some ⟨q0, 0, none⟩) 8 8) (p1 :: List.replicate 7 nilPr) : (Nat → GV) → World → Prop) (fun _ w w2 => Upd (q0) w w2 ∧ (FK B1 q0 g0 m0 c9 A9 gs9 hh ss : World → Prop) w2) rfl rfl rfl rfl (by kernel_rfl) (by kernel_rfl) (fun w hS hN R hR => ?_) ?_
      · obtain ⟨hS, hM, hK⟩ := hS
        have HR := Lib.hid hR
        clear hR
        obtain ⟨x, ho⟩ := hK.ps
        obtain ⟨g', c', e1, _, _, _, hth, hown', hu⟩ := OwnRows.setCells pL_len ho (i := 0) (x := x) (x' := p1) rfl (j := 0) (ds := pL p1) (by rw [pL_len]; decide) (fun t ht => by rw [if_pos (by rw [pL_len]; omega)]; rfl)
        simp only [Value.slice.injEq, Option.some.injEq, Addr.mk.injEq, and_true] at e1
        have e2 := e1.1
        clear e1
        subst e2
        clear hN
        refine givesM_store 40 _ _ rfl q0 0 (by go_simp) (pL p1) (by go_simp; rfl) hth (by kernel_rfl) (pL_one _) ?_
        exact HR.out _ _ rfl hown' ⟨hu, ⟨(hu.block B1 (blk_lt hK.box) (fun e => by injection e; have := hK.lt; omega)).trans hK.box, ⟨p1, hown'⟩, hK.gs.but (But.upd (S := fun b => b = q0) hu rfl) (fun b hb e => by have := hK.un b hb; omega), (hu.block m0 (blk_lt hK.ms) (fun e => by injection e; have := hK.lt; omega)).trans hK.ms, hK.lt, hK.un⟩⟩
      rintro u6 s6 t6 rfl
      refine rg_done rfl (Nat.le_of_ble_eq_true (by kernel_rfl)) ?_
      intro w11 hS hT
      have hP : OwnRows 40 13 pL w11 q0 (.slice (some ⟨q0, 0, none⟩) 8 8) (p1 :: List.replicate 7 nilPr) := hT (6, ⟨undef, s6, t6⟩) (by simp)
      have hK := hS.2.2
      have hSF : stC hh ss = stC hh fullS := by rw [← HSS.out, ← HGS9.out]; rfl
      have HBF : Hid (w11.heap[B1]? = some (.cells (stC hh fullS) 32 (0, 0))) := Lib.hid (hSF ▸ hK.box)
      have hx11 : Ext w2 w11 := HXA.out.trans hS.1
      have hr11 := hx11.blk HR2.out
      obtain ⟨wf, hwf⟩ : ∃ wf, w11.setCells R 0 (stL hh fullS) = wf := ⟨_, rfl⟩
      have hu : Upd R w11 wf := by rw [← hwf]; exact setCells_upd _ _ _ _
      have HTR : Hid (w11.there R 0 (stL hh fullS).length) := Lib.hid (there_row hr11 (Nat.le_refl 16))
      have HRZ : Hid (wf.heap[R]? = some (.cells (stL hh fullS).toArray 32 (0, 0))) := Lib.hid (by rw [← hwf]; exact setCells_at [.slice none 0 0, .slice none 0 0, .slice none 0 0, .slice none 0 0, .slice none 0 0, .int .i64 0, .int .i64 0, .int .i64 0, .int .i64 0, .slice none 0 0, .slice none 0 0, .slice none 0 0, .slice none 0 0, .slice none 0 0, .int .i64 0, .int .i64 0] (stL hh fullS) rfl hr11)
      have HXF : Hid (Ext w wf) := Lib.hid ((HX2.out.trans hx11).upd hu (by have := HRR.out; omega))
      have hsz : R < w2.heap.size := blk_lt HR2.out
      have hwa := HXA.out.size
      have HOKF : Hid (StOk wf hh fullS) := Lib.hid (by
        have hlt := HSQ.out
        have hrl := HRL.out
        have hpa := HPA.out
        have hh1 := HHH.out
        refine ⟨?_, ?_, ?_, ?_, ⟨_, _, rfl, fun h => absurd h (by decide)⟩, ⟨_, _, rfl, fun h => absurd h (by decide)⟩, ⟨_, _, rfl, fun h => absurd h (by decide)⟩, ⟨_, _, rfl, fun h => absurd h (by decide)⟩, ⟨_, _, rfl, fun h => absurd h (by decide)⟩, ?_, by decide +kernel⟩
        · have : NestAt 2 pairL wf (.slice (some ⟨w1.heap.size, 0, none⟩) 1 1) [[(0, 0)]] := KEY.out wf (hu.blk (hx11.blk HBI.out) (by omega)) (hu.blk (hx11.blk HBP.out) (by omega))
          rw [hpa] at this
          rw [← hh1]
          exact this
        · have := OwnRows.rows gL_len (hK.gs.but (But.upd (S := fun b => b = R) hu rfl) (fun b hb e => by have := (hK.gs.lt b hb).1; omega))
          rw [← HGS9.out] at this
          rw [← hh1]
          exact this
        · have := OwnRows.rows pL_len (hP.but (But.upd (S := fun b => b = R) hu rfl) (fun b hb e => by have := (hP.lt b hb).1; omega))
          rw [← hh1]
          exact this
        · have hm := hu.blk hK.ms (by omega)
          rw [← hh1]
          exact ⟨_, _, rfl, Nat.le_refl 1, fun _ => ⟨m0, 0, rfl, blk_lt hm, fun j y hj i u hu => by
            match j with
            | 0 =>
              simp [fullS] at hj; subst hj
              simp only [Nat.zero_mul, Nat.zero_add]
              refine blk_cell hm _ _ ?_
              match i with
              | 0 | 1 => simp [pairL] at hu; subst hu; rfl
              | i + 2 => simp [pairL] at hu
            | j + 1 => simp [fullS] at hj⟩⟩
        · exact PairsAt.none _ _ _)
      have HWF := Lib.hid hwf
      clear hS hT hP hK hSF hx11 hr11 hwf hu hsz hwa hkk0 hq1 hqz
      go_wp2_with (first | (refine wpList_load_rowW (by rfl) 32 _ rfl B1 (by go_simp) (stL hh fullS) (stV hh fullS) rfl _ (range_row HBF.out) Try.underlying32 rfl (by kernel_rfl) ?_) | (refine wpList_store_row rfl 32 _ _ rfl R (stL hh fullS) (stV hh fullS) (by go_simp) (by go_simp) rfl HTR.out (by kernel_rfl) (stL_one _ _) HWF.out ?_))
      refine bodyPost_ret (v := .agg (stL hh fullS).toArray) (results_cell_row rfl _ _ R _ _ _ _ rfl HRZ.out Try.underlying32 rfl (by kernel_rfl)) rfl ?_
      exact ⟨hh, rfl, HOKF.out, HXF.out⟩
end Go.Proofs.Ytogcfndhcphpaaa
