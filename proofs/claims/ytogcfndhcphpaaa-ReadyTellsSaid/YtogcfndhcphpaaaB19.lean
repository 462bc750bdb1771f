/-
  Several texts in one: Uzb, Uzc, Uze.
-/
import Derived.Test.YtogcfndhcphpaaaB15
import Derived.Test.YtogcfndhcphpaaaB17
import Derived.Test.YtogcfndhcphpaaaB16
import Derived.Test.YtogcfndhcphpaaaB18
set_option linter.unusedVariables false
set_option linter.unusedSimpArgs false
namespace Go.Proofs.Ytogcfndhcphpaaa
open Go.RowKit
theorem St.wake_eq {s : St} {i k : Nat} {y : Gr} (hm : s.may = true) (hp : 1 ≤ (i : Int) + 1 ∧ (i : Int) + 1 ≤ s.procs) (hy : s.gs[k]? = some y) (h3 : y.st = 3) :
    s.wake ((i : Int) + 1) ((k : Int) + 1) = (({ s.out ((k : Int) + 1) with gs := s.gs.set k { y with st := 1, m := 0, seq := y.seq + 1 } } : St).next ((i : Int) + 1) ((k : Int) + 1), 0) := by
  have hl := (List.getElem?_eq_some_iff.1 hy).1
  unfold St.wake
  rw [if_pos ⟨hm, hp, ⟨by omega, by omega⟩, by rw [gAt_of hy]; exact h3⟩]
  have e1 : (s.out ((k : Int) + 1)).turn ((k : Int) + 1) 1 0 = { s.out ((k : Int) + 1) with gs := s.gs.set k { y with st := 1, m := 0, seq := y.seq + 1 } } := by
    unfold St.turn
    rw [show (s.out ((k : Int) + 1)).gAt ((k : Int) + 1) = y from gAt_of hy, show ((k : Int) + 1 - 1).toNat = k by omega]
    rfl
  rw [e1]
theorem givesV_P {P : Program} {v : Value} {w : World} {r : Result Next} (h : GivesP v w r) : GivesV P (fun w' => w' = w) v r := by
  obtain ⟨h⟩ := h
  unfold GivesP' at h
  unfold GivesV
  split at h <;> simp_all
theorem skip_store {P : Program} {o : Oper} {a : Act} {w : World} (ty : TypeId) (x y : Operand) (ho : o.op = .store ty x y) (b off : Nat) (hx : a.eval x = .pointer (some ⟨b, off, none⟩)) (ds : List Value) (hy : a.eval y = .agg ds.toArray)
    (ht : w.there b off ds.length) (hi : (P.info? ty).map (·.size) = some ds.length) (h1 : ∀ u ∈ ds, u.oneCell' = true) : (execOp a.eval o).run P w = .ok .skip (w.setCells b off ds) := by
  unfold execOp
  simp only [ho, hx, hy, Instr.storeAt, Instr.sureAddr, Sem.run_bind, Sem.run_pure, Result.andThen_ok, run_storeVar_mid w b off ty ds.toArray (by simpa using ht) (by simpa using hi) (all_oneCell_toArray h1)]
theorem stV_h {h h' : StH} {s : St} (e : stV h s = stV h' s) : h = h' := by
  obtain ⟨⟩ := h
  obtain ⟨⟩ := h'
  unfold stV at e
  simp only [Value.agg.injEq, Array.mk.injEq, List.cons.injEq, Value.slice.injEq] at e
  simp_all
set_option maxRecDepth 100000 in
set_option maxHeartbeats 32000000 in
theorem r13Wake_any (h : StH) (s : St) (p g : Int) (r : St × Int) (hrr : s.wake p g = r) (w : World) (hk : StOk w h s) (hf : StFew s) : Calls Try.prog 19 #[stV h s, .int .i64 p, .int .i64 g] w (StRes w r) := by
  have HRS := Lib.hid hrr
  clear hrr
  have HF := Lib.hid hf
  have HK := Lib.hid hk
  obtain ⟨W0, hW0⟩ : ∃ W0, w.heap.size = W0 := ⟨_, rfl⟩
  obtain ⟨R, hR⟩ : ∃ R, W0 + 1 = R := ⟨_, rfl⟩
  obtain ⟨w2, hw2⟩ : ∃ w2, (w.alloc (.cells #[.slice h.pa s.prog.length h.pc, .slice h.ga s.gs.length h.gc, .slice h.qa s.ps.length h.qc, .slice h.ma s.ms.length h.mc, .slice h.la s.glob.length h.lc, .int .i64 s.c0, .int .i64 s.c1, .int .i64 s.c2, .int .i64 s.c3, .slice h.a0 s.w0.length h.k0, .slice h.a1 s.w1.length h.k1, .slice h.a2 s.w2.length h.k2, .slice h.a3 s.w3.length h.k3, .slice h.ta s.timers.length h.tc, .int .i64 s.clock, .int .i64 s.procs] 32)).alloc (.cells #[.slice none 0 0, .slice none 0 0, .slice none 0 0, .slice none 0 0, .slice none 0 0, .int .i64 0, .int .i64 0, .int .i64 0, .int .i64 0, .slice none 0 0, .slice none 0 0, .slice none 0 0, .slice none 0 0, .slice none 0 0, .int .i64 0, .int .i64 0] 32) = w2 := ⟨_, rfl⟩
  have HX1 : Hid (Ext w w2) := Lib.hid (by rw [← hw2]; exact ((Ext.refl w).alloc _).alloc _)
  have HB1 : Hid (w2.heap[W0]? = some (.cells (stC h s) 32 (0, 0))) := Lib.hid (by rw [← hw2, ← hW0]; exact blk_alloc (blk_new w _) _)
  have HR1 : Hid (w2.heap[R]? = some (.cells #[.slice none 0 0, .slice none 0 0, .slice none 0 0, .slice none 0 0, .slice none 0 0, .int .i64 0, .int .i64 0, .int .i64 0, .int .i64 0, .slice none 0 0, .slice none 0 0, .slice none 0 0, .slice none 0 0, .slice none 0 0, .int .i64 0, .int .i64 0] 32 (0, 0))) := Lib.hid (by
    have := blk_new (w.alloc (.cells #[.slice h.pa s.prog.length h.pc, .slice h.ga s.gs.length h.gc, .slice h.qa s.ps.length h.qc, .slice h.ma s.ms.length h.mc, .slice h.la s.glob.length h.lc, .int .i64 s.c0, .int .i64 s.c1, .int .i64 s.c2, .int .i64 s.c3, .slice h.a0 s.w0.length h.k0, .slice h.a1 s.w1.length h.k1, .slice h.a2 s.w2.length h.k2, .slice h.a3 s.w3.length h.k3, .slice h.ta s.timers.length h.tc, .int .i64 s.clock, .int .i64 s.procs] 32)) (.cells #[.slice none 0 0, .slice none 0 0, .slice none 0 0, .slice none 0 0, .slice none 0 0, .int .i64 0, .int .i64 0, .int .i64 0, .int .i64 0, .slice none 0 0, .slice none 0 0, .slice none 0 0, .slice none 0 0, .slice none 0 0, .int .i64 0, .int .i64 0] 32)
    rw [hw2, World.size_alloc, hW0, hR] at this
    exact this)
  have HRR := Lib.hid hR
  have HW0 := Lib.hid hW0
  have HW2 := Lib.hid hw2
  have HK1 := Lib.hid (hk.ext HX1.out)
  clear hk hf hw2 hW0 hR
  obtain ⟨PQ, hPQ⟩ : ∃ PQ : Ending → World → Prop, PQ = StRes w r := ⟨_, rfl⟩
  rw [← hPQ]
  have HPQ := Lib.hid hPQ
  clear hPQ
  unfold stV
  go_enter Try.func19, Try.ntmps19
  go_upto_region 1 with fail
  rw [HW2.out, HW0.out, HRR.out]
  generalize Value.agg #[.slice h.pa s.prog.length h.pc, .slice h.ga s.gs.length h.gc, .slice h.qa s.ps.length h.qc, .slice h.ma s.ms.length h.mc, .slice h.la s.glob.length h.lc, .int .i64 s.c0, .int .i64 s.c1, .int .i64 s.c2, .int .i64 s.c3, .slice h.a0 s.w0.length h.k0, .slice h.a1 s.w1.length h.k1, .slice h.a2 s.w2.length h.k2, .slice h.a3 s.w3.length h.k3, .slice h.ta s.timers.length h.tc, .int .i64 s.clock, .int .i64 s.procs] = sv0
  go_wp2_with (refine wpList_load_rowW (by rfl) 32 _ rfl W0 (by go_simp) (stL h s) (stV h s) rfl _ (range_row HB1.out) Try.underlying32 rfl (by kernel_rfl) ?_)
  refine (rstmay_any h s _ rfl _ HK1.out HF.out).mono ?_
  rintro e wa ⟨rfl, hxa⟩
  have HXA := Lib.hid (HX1.out.trans hxa)
  have HBA := Lib.hid (hxa.blk HB1.out)
  have HRA := Lib.hid (hxa.blk HR1.out)
  clear hxa
  cases bm : s.may with
  | false =>
    have HN : Hid (r = (St.nil, 1)) := Lib.hid (by rw [← HRS.out]; exact St.wake_no (by rw [bm]; simp))
    go_upto_if 25 with fail
    obtain ⟨wf, hwf⟩ : ∃ wf, wa.setCells R 0 (stL StH.nil St.nil) = wf := ⟨_, rfl⟩
    have hfn := fin_nil HRA.out HXA.out (show w.heap.size ≤ R by have := HRR.out; have := HW0.out; omega)
    rw [hwf] at hfn
    have HFN := Lib.hid hfn
    have HWF := Lib.hid hwf
    clear hfn hwf
    go_wp2_with (refine wpList_store_row rfl 32 _ _ rfl R (stL StH.nil St.nil) (stV StH.nil St.nil) rfl rfl rfl HFN.out.2.1 (by kernel_rfl) (stL_one _ _) HWF.out ?_)
    refine bodyPost_cell_tmp rfl R _ _ _ _ rfl HFN.out.1 Try.underlying32 rfl (by kernel_rfl) (.int .i64 1) rfl rfl ?_
    rw [HPQ.out]
    show StRes w _ _ _
    rw [HN.out]
    exact StRes.nil HFN.out.2.2
  | true =>
  have HM := Lib.hid bm
  clear bm
  have q15 := st15 HBA.out
  go_wp2_with fail
  refine (r13has_any p s.procs _ rfl wa).mono ?_
  rintro e wb ⟨rfl, rfl⟩
  clear q15
  cases bi : decide (1 ≤ p ∧ p ≤ s.procs) with
  | false =>
    have HN : Hid (r = (St.nil, 1)) := Lib.hid (by rw [← HRS.out]; exact St.wake_no (by intro h; have := of_decide_eq_false bi; exact this h.2.1))
    go_upto_if 25 with fail
    obtain ⟨wf, hwf⟩ : ∃ wf, wb.setCells R 0 (stL StH.nil St.nil) = wf := ⟨_, rfl⟩
    have hfn := fin_nil HRA.out HXA.out (show w.heap.size ≤ R by have := HRR.out; have := HW0.out; omega)
    rw [hwf] at hfn
    have HFN := Lib.hid hfn
    have HWF := Lib.hid hwf
    clear hfn hwf
    go_wp2_with (refine wpList_store_row rfl 32 _ _ rfl R (stL StH.nil St.nil) (stV StH.nil St.nil) rfl rfl rfl HFN.out.2.1 (by kernel_rfl) (stL_one _ _) HWF.out ?_)
    refine bodyPost_cell_tmp rfl R _ _ _ _ rfl HFN.out.1 Try.underlying32 rfl (by kernel_rfl) (.int .i64 1) rfl rfl ?_
    rw [HPQ.out]
    show StRes w _ _ _
    rw [HN.out]
    exact StRes.nil HFN.out.2.2
  | true =>
  have HPP := Lib.hid (of_decide_eq_true bi)
  clear bi
  have q1 := st1 HBA.out
  go_wp2_with fail
  refine (r13has_any g s.gs.length _ rfl wb).mono ?_
  rintro e wc ⟨rfl, rfl⟩
  cases bg : decide (1 ≤ g ∧ g ≤ (s.gs.length : Int)) with
  | false =>
    have HN : Hid (r = (St.nil, 1)) := Lib.hid (by rw [← HRS.out]; exact St.wake_no (by intro h; have := of_decide_eq_false bg; exact this h.2.2.1))
    clear q1
    go_upto_if 25 with fail
    obtain ⟨wf, hwf⟩ : ∃ wf, wc.setCells R 0 (stL StH.nil St.nil) = wf := ⟨_, rfl⟩
    have hfn := fin_nil HRA.out HXA.out (show w.heap.size ≤ R by have := HRR.out; have := HW0.out; omega)
    rw [hwf] at hfn
    have HFN := Lib.hid hfn
    have HWF := Lib.hid hwf
    clear hfn hwf
    go_wp2_with (refine wpList_store_row rfl 32 _ _ rfl R (stL StH.nil St.nil) (stV StH.nil St.nil) rfl rfl rfl HFN.out.2.1 (by kernel_rfl) (stL_one _ _) HWF.out ?_)
    refine bodyPost_cell_tmp rfl R _ _ _ _ rfl HFN.out.1 Try.underlying32 rfl (by kernel_rfl) (.int .i64 1) rfl rfl ?_
    rw [HPQ.out]
    show StRes w _ _ _
    rw [HN.out]
    exact StRes.nil HFN.out.2.2
  | true =>
  have hgg := of_decide_eq_true bg
  clear bg
  have hps := St.may_procs HM.out
  have hpp := HPP.out
  obtain ⟨i, rfl⟩ : ∃ i : Nat, p = (i : Int) + 1 := ⟨(p - 1).toNat, by omega⟩
  obtain ⟨k, rfl⟩ : ∃ k : Nat, g = (k : Int) + 1 := ⟨(g - 1).toNat, by omega⟩
  obtain ⟨x, hx⟩ : ∃ x, s.ps[i]? = some x := ⟨_, List.getElem?_eq_getElem (by omega)⟩
  obtain ⟨y, hy⟩ : ∃ y, s.gs[k]? = some y := ⟨_, List.getElem?_eq_getElem (by omega)⟩
  have HP := Lib.hid hx
  have HY := Lib.hid hy
  have e1 : (k : Int) + 1 - 1 = (k : Int) := by omega
  have e4 : (k : Int) < (s.gs.length : Int) := by omega
  have e5 : (k : Int) < 100000 := by have := HF.out.gs; omega
  obtain ⟨bg, og, hga, hgb, _, _, p2, _⟩ := gs_get ((HK.out.ext HXA.out).gs) hy
  rw [hga] at q1
  clear hx hy hps hpp hgg hga hgb
  go_upto_if 25 with fail
  by_cases h3 : y.st = 3
  · have h3' : (y.st != 3) = false := by simpa using h3
    have HST := Lib.hid h3
    have HSQ := Lib.hid (St.may_seq HM.out HY.out)
    have HKC := Lib.hid (HK.out.ext HXA.out)
    have HEQ : Hid (r = (({ s.out ((k : Int) + 1) with gs := s.gs.set k { y with st := 1, m := 0, seq := y.seq + 1 } } : St).next ((i : Int) + 1) ((k : Int) + 1), 0)) := Lib.hid (by rw [← HRS.out]; exact St.wake_eq HM.out HPP.out HY.out h3)
    clear h3
    go_upto_region 5 with fail
    clear q1 p2 e1 e4 e5 h3'
    go_wp2_with (refine wpList_load_rowW (by rfl) 32 _ rfl W0 (by go_simp) (stL h s) (stV h s) rfl _ (range_row HBA.out) Try.underlying32 rfl (by kernel_rfl) ?_)
    refine (r13out_any h s ((k : Int) + 1) wc HKC.out HF.out).mono ?_
    rintro e wd ⟨h1, rfl, hk1, hx1⟩
    obtain ⟨so, hso⟩ : ∃ so, s.out ((k : Int) + 1) = so := ⟨_, rfl⟩
    have HFO : Hid (StFew so) := Lib.hid (by rw [← hso]; exact StFew.woken HF.out rfl rfl)
    have HGO : Hid (so.gs = s.gs ∧ so.ps = s.ps) := Lib.hid (by rw [← hso]; exact ⟨rfl, rfl⟩)
    rw [hso] at hk1 ⊢
    have HEQ2 : Hid (r = (({ so with gs := s.gs.set k { y with st := 1, m := 0, seq := y.seq + 1 } } : St).next ((i : Int) + 1) ((k : Int) + 1), 0)) := Lib.hid (by rw [HEQ.out, hso])
    have HK1' := Lib.hid hk1
    have HXD := Lib.hid hx1
    clear hk1 hx1 hso HEQ
    go_wp2_with fail
    refine (rTurn_in h1 so k y 1 0 wd HK1'.out HFO.out (by rw [HGO.out.1]; exact HY.out) HSQ.out).mono ?_
    rintro e we ⟨h2, I, rfl, ho, hx2⟩
    obtain ⟨s2, hs2⟩ : ∃ s2 : St, { so with gs := so.gs.set k { y with st := 1, m := 0, seq := y.seq + 1 } } = s2 := ⟨_, rfl⟩
    have HB2 : Hid (∀ p ∈ s2.ps, p.ring.buf.length = 8) := Lib.hid (by rw [← hs2]; intro p hp; rw [show ({ so with gs := so.gs.set k { y with st := 1, m := 0, seq := y.seq + 1 } } : St).ps = s.ps from HGO.out.2] at hp; exact HK.out.buf p hp)
    have HF2 : Hid (StFew s2) := Lib.hid (by
      rw [← hs2]
      have hf := HFO.out
      exact ⟨hf.prog, by show (so.gs.set k _).length ≤ _; rw [List.length_set]; exact hf.gs, hf.ps, hf.ms, hf.glob, hf.w, hf.timers, hf.tnum⟩)
    have HP2 : Hid (s2.ps[i]? = some x) := Lib.hid (by rw [← hs2]; show so.ps[i]? = _; rw [HGO.out.2]; exact HP.out)
    have HEQ3 : Hid (r = (s2.next ((i : Int) + 1) ((k : Int) + 1), 0)) := Lib.hid (by rw [HEQ2.out, ← hs2, HGO.out.1])
    rw [hs2] at ho ⊢
    have HK2 := Lib.hid (ho.ok HB2.out)
    have HXE := Lib.hid (HXD.out.trans hx2)
    clear ho hx2 hs2
    go_wp2_with fail
    refine (r13Next_any h2 s2 i x ((k : Int) + 1) we HK2.out HF2.out HP2.out).mono ?_
    rintro e wf ⟨h4, I, rfl, ho, hx4⟩
    obtain ⟨s4, hs4⟩ : ∃ s4, s2.next ((i : Int) + 1) ((k : Int) + 1) = s4 := ⟨_, rfl⟩
    have HEQ4 : Hid (r = (s4, 0)) := Lib.hid (by rw [HEQ3.out, hs4])
    rw [hs4] at ho ⊢
    have hr4 := (HXE.out.trans hx4).blk HRA.out
    have hlt := blk_lt (HXE.out.blk HRA.out)
    obtain ⟨wg, hwg⟩ : ∃ wg, wf.setCells R 0 (stL h4 s4) = wg := ⟨_, rfl⟩
    have hu := setCells_upd R (stL h4 s4) wf 0
    have hxw : Ext w wf := HXA.out.trans (HXE.out.trans hx4)
    have HFR : Hid (wg.heap[R]? = some (.cells (stL h4 s4).toArray 32 (0, 0))) := Lib.hid (by rw [← hwg]; exact setCells_at [.slice none 0 0, .slice none 0 0, .slice none 0 0, .slice none 0 0, .slice none 0 0, .int .i64 0, .int .i64 0, .int .i64 0, .int .i64 0, .slice none 0 0, .slice none 0 0, .slice none 0 0, .slice none 0 0, .slice none 0 0, .int .i64 0, .int .i64 0] (stL h4 s4) rfl hr4)
    have HTR : Hid (wf.there R 0 (stL h4 s4).length) := Lib.hid (there_row hr4 (Nat.le_refl 16))
    have HXF : Hid (Ext w wg) := Lib.hid (by rw [← hwg]; exact hxw.upd hu (by have := HRR.out; have := HW0.out; omega))
    have HAF : Hid (∃ I, StApart w.heap.size wg I h4 s4) := Lib.hid (by
      rw [← hwg]
      exact ⟨I, (ho.far (But.upd (S := fun b => b = R) hu rfl) (fun b hb => by omega)).lower (HXA.out.trans HXE.out).size⟩)
    have HWG := Lib.hid hwg
    clear ho hx4 hs4 hr4 hlt hwg hu hxw
    go_wp2_with (refine wpList_store_row rfl 32 _ _ rfl R (stL h4 s4) (stV h4 s4) (by go_simp) (by go_simp) rfl HTR.out (by kernel_rfl) (stL_one _ _) HWG.out ?_)
    refine bodyPost_cell_tmp rfl R _ _ _ _ rfl HFR.out Try.underlying32 rfl (by kernel_rfl) (.int .i64 0) rfl rfl ?_
    rw [HPQ.out]
    show StRes w _ _ _
    rw [HEQ4.out]
    exact ⟨h4, rfl, HAF.out, HXF.out⟩
  · have h3' : (y.st != 3) = true := by simpa using h3
    have HN : Hid (r = (St.nil, 1)) := Lib.hid (by rw [← HRS.out]; exact St.wake_no (by intro h; rw [St.gAt_of HY.out] at h; exact h3 h.2.2.2))
    clear h3
    go_upto_if 34 with fail
    clear q1 p2 e1 e4 e5 h3'
    obtain ⟨wf, hwf⟩ : ∃ wf, wc.setCells R 0 (stL StH.nil St.nil) = wf := ⟨_, rfl⟩
    have hfn := fin_nil HRA.out HXA.out (show w.heap.size ≤ R by have := HRR.out; have := HW0.out; omega)
    rw [hwf] at hfn
    have HFN := Lib.hid hfn
    have HWF := Lib.hid hwf
    clear hfn hwf
    go_wp2_with (refine wpList_store_row rfl 32 _ _ rfl R (stL StH.nil St.nil) (stV StH.nil St.nil) rfl rfl rfl HFN.out.2.1 (by kernel_rfl) (stL_one _ _) HWF.out ?_)
    refine bodyPost_cell_tmp rfl R _ _ _ _ rfl HFN.out.1 Try.underlying32 rfl (by kernel_rfl) (.int .i64 1) rfl rfl ?_
    rw [HPQ.out]
    show StRes w _ _ _
    rw [HN.out]
    exact StRes.nil HFN.out.2.2
set_option maxRecDepth 100000 in
set_option maxHeartbeats 32000000 in
theorem r13Yield_any (h : StH) (s : St) (m : Int) (r : St × Int) (hrr : s.yield m = r) (w : World) (hk : StOk w h s) (hf : StFew s) : Calls Try.prog 21 #[stV h s, .int .i64 m] w (StRes w r) := by
  have HRS := Lib.hid hrr
  clear hrr
  have HF := Lib.hid hf
  have HK := Lib.hid hk
  obtain ⟨W0, hW0⟩ : ∃ W0, w.heap.size = W0 := ⟨_, rfl⟩
  obtain ⟨R, hR⟩ : ∃ R, W0 + 1 = R := ⟨_, rfl⟩
  obtain ⟨w2, hw2⟩ : ∃ w2, (w.alloc (.cells #[.slice h.pa s.prog.length h.pc, .slice h.ga s.gs.length h.gc, .slice h.qa s.ps.length h.qc, .slice h.ma s.ms.length h.mc, .slice h.la s.glob.length h.lc, .int .i64 s.c0, .int .i64 s.c1, .int .i64 s.c2, .int .i64 s.c3, .slice h.a0 s.w0.length h.k0, .slice h.a1 s.w1.length h.k1, .slice h.a2 s.w2.length h.k2, .slice h.a3 s.w3.length h.k3, .slice h.ta s.timers.length h.tc, .int .i64 s.clock, .int .i64 s.procs] 32)).alloc (.cells #[.slice none 0 0, .slice none 0 0, .slice none 0 0, .slice none 0 0, .slice none 0 0, .int .i64 0, .int .i64 0, .int .i64 0, .int .i64 0, .slice none 0 0, .slice none 0 0, .slice none 0 0, .slice none 0 0, .slice none 0 0, .int .i64 0, .int .i64 0] 32) = w2 := ⟨_, rfl⟩
  have HX1 : Hid (Ext w w2) := Lib.hid (by rw [← hw2]; exact ((Ext.refl w).alloc _).alloc _)
  have HB1 : Hid (w2.heap[W0]? = some (.cells (stC h s) 32 (0, 0))) := Lib.hid (by rw [← hw2, ← hW0]; exact blk_alloc (blk_new w _) _)
  have HR1 : Hid (w2.heap[R]? = some (.cells #[.slice none 0 0, .slice none 0 0, .slice none 0 0, .slice none 0 0, .slice none 0 0, .int .i64 0, .int .i64 0, .int .i64 0, .int .i64 0, .slice none 0 0, .slice none 0 0, .slice none 0 0, .slice none 0 0, .slice none 0 0, .int .i64 0, .int .i64 0] 32 (0, 0))) := Lib.hid (by
    have := blk_new (w.alloc (.cells #[.slice h.pa s.prog.length h.pc, .slice h.ga s.gs.length h.gc, .slice h.qa s.ps.length h.qc, .slice h.ma s.ms.length h.mc, .slice h.la s.glob.length h.lc, .int .i64 s.c0, .int .i64 s.c1, .int .i64 s.c2, .int .i64 s.c3, .slice h.a0 s.w0.length h.k0, .slice h.a1 s.w1.length h.k1, .slice h.a2 s.w2.length h.k2, .slice h.a3 s.w3.length h.k3, .slice h.ta s.timers.length h.tc, .int .i64 s.clock, .int .i64 s.procs] 32)) (.cells #[.slice none 0 0, .slice none 0 0, .slice none 0 0, .slice none 0 0, .slice none 0 0, .int .i64 0, .int .i64 0, .int .i64 0, .int .i64 0, .slice none 0 0, .slice none 0 0, .slice none 0 0, .slice none 0 0, .slice none 0 0, .int .i64 0, .int .i64 0] 32)
    rw [hw2, World.size_alloc, hW0, hR] at this
    exact this)
  have HRR := Lib.hid hR
  have HW0 := Lib.hid hW0
  have HW2 := Lib.hid hw2
  have HK1 := Lib.hid (hk.ext HX1.out)
  clear hk hf hw2 hW0 hR
  obtain ⟨PQ, hPQ⟩ : ∃ PQ : Ending → World → Prop, PQ = StRes w r := ⟨_, rfl⟩
  rw [← hPQ]
  have HPQ := Lib.hid hPQ
  clear hPQ
  unfold stV
  go_enter Try.func21, Try.ntmps21
  go_upto_region 1 with fail
  rw [HW2.out, HW0.out, HRR.out]
  generalize Value.agg #[.slice h.pa s.prog.length h.pc, .slice h.ga s.gs.length h.gc, .slice h.qa s.ps.length h.qc, .slice h.ma s.ms.length h.mc, .slice h.la s.glob.length h.lc, .int .i64 s.c0, .int .i64 s.c1, .int .i64 s.c2, .int .i64 s.c3, .slice h.a0 s.w0.length h.k0, .slice h.a1 s.w1.length h.k1, .slice h.a2 s.w2.length h.k2, .slice h.a3 s.w3.length h.k3, .slice h.ta s.timers.length h.tc, .int .i64 s.clock, .int .i64 s.procs] = sv0
  go_wp2_with (refine wpList_load_rowW (by rfl) 32 _ rfl W0 (by go_simp) (stL h s) (stV h s) rfl _ (range_row HB1.out) Try.underlying32 rfl (by kernel_rfl) ?_)
  refine (rstmay_any h s _ rfl _ HK1.out HF.out).mono ?_
  rintro e wa ⟨rfl, hxa⟩
  have HXA := Lib.hid (HX1.out.trans hxa)
  have HBA := Lib.hid (hxa.blk HB1.out)
  have HRA := Lib.hid (hxa.blk HR1.out)
  clear hxa
  cases bm : s.may with
  | false =>
    have HN : Hid (r = (St.nil, 1)) := Lib.hid (by rw [← HRS.out]; exact St.yield_no (by rw [bm]; simp))
    go_upto_if 17 with fail
    obtain ⟨wf, hwf⟩ : ∃ wf, wa.setCells R 0 (stL StH.nil St.nil) = wf := ⟨_, rfl⟩
    have hfn := fin_nil HRA.out HXA.out (show w.heap.size ≤ R by have := HRR.out; have := HW0.out; omega)
    rw [hwf] at hfn
    have HFN := Lib.hid hfn
    have HWF := Lib.hid hwf
    clear hfn hwf
    go_wp2_with (refine wpList_store_row rfl 32 _ _ rfl R (stL StH.nil St.nil) (stV StH.nil St.nil) rfl rfl rfl HFN.out.2.1 (by kernel_rfl) (stL_one _ _) HWF.out ?_)
    refine bodyPost_cell_tmp rfl R _ _ _ _ rfl HFN.out.1 Try.underlying32 rfl (by kernel_rfl) (.int .i64 1) rfl rfl ?_
    rw [HPQ.out]
    show StRes w _ _ _
    rw [HN.out]
    exact StRes.nil HFN.out.2.2
  | true =>
  have HM := Lib.hid bm
  clear bm
  have q3 := st3 HBA.out
  go_wp2_with fail
  refine (r13has_any m s.ms.length _ rfl wa).mono ?_
  rintro e wb ⟨rfl, rfl⟩
  cases bi : decide (1 ≤ m ∧ m ≤ (s.ms.length : Int)) with
  | false =>
    have HN : Hid (r = (St.nil, 1)) := Lib.hid (by rw [← HRS.out]; exact St.yield_no (by intro h; have := of_decide_eq_false bi; exact this h.2.1))
    clear q3
    go_upto_if 17 with fail
    obtain ⟨wf, hwf⟩ : ∃ wf, wb.setCells R 0 (stL StH.nil St.nil) = wf := ⟨_, rfl⟩
    have hfn := fin_nil HRA.out HXA.out (show w.heap.size ≤ R by have := HRR.out; have := HW0.out; omega)
    rw [hwf] at hfn
    have HFN := Lib.hid hfn
    have HWF := Lib.hid hwf
    clear hfn hwf
    go_wp2_with (refine wpList_store_row rfl 32 _ _ rfl R (stL StH.nil St.nil) (stV StH.nil St.nil) rfl rfl rfl HFN.out.2.1 (by kernel_rfl) (stL_one _ _) HWF.out ?_)
    refine bodyPost_cell_tmp rfl R _ _ _ _ rfl HFN.out.1 Try.underlying32 rfl (by kernel_rfl) (.int .i64 1) rfl rfl ?_
    rw [HPQ.out]
    show StRes w _ _ _
    rw [HN.out]
    exact StRes.nil HFN.out.2.2
  | true =>
  have hmm := of_decide_eq_true bi
  clear bi
  obtain ⟨j, rfl⟩ : ∃ j : Nat, m = (j : Int) + 1 := ⟨(m - 1).toNat, by omega⟩
  obtain ⟨⟨mp, mg⟩, hx⟩ : ∃ x, s.ms[j]? = some x := ⟨_, List.getElem?_eq_getElem (by omega)⟩
  have HX := Lib.hid hx
  have HJL : Hid (j < s.ms.length) := Lib.hid (by omega)
  have e1 : (j : Int) + 1 - 1 = (j : Int) := by omega
  have e4 : (j : Int) < (s.ms.length : Int) := by omega
  have e5 : (j : Int) < 100000 := by have := HF.out.ms; omega
  obtain ⟨bq, oq, hma, hmb, hmc⟩ := ((HK.out.ext HXA.out).ms).get hx
  rw [hma] at q3
  have HRG : Hid (wb.rangeAt bq (oq + j * 2) (pairL (mp, mg))) := Lib.hid (fun t u hu => hmc t u hu)
  obtain ⟨wc, hwc⟩ : ∃ wc, wb.alloc (.cells #[.int .i64 0, .int .i64 0] 57) = wc := ⟨_, rfl⟩
  obtain ⟨BM, hBM⟩ : ∃ BM, wb.heap.size = BM := ⟨_, rfl⟩
  obtain ⟨wd, hwd⟩ : ∃ wd, wc.setCells BM 0 (pairL (mp, mg)) = wd := ⟨_, rfl⟩
  have hbc : wc.heap[BM]? = some (.cells #[.int .i64 0, .int .i64 0] 57 (0, 0)) := by rw [← hwc, ← hBM]; exact blk_new wb _
  have HTM : Hid (wc.there BM 0 (pairL (mp, mg)).length) := Lib.hid (there_row hbc (Nat.le_refl 2))
  have HBD : Hid (wd.heap[BM]? = some (.cells #[.int .i64 mp, .int .i64 mg] 57 (0, 0))) := Lib.hid (by rw [← hwd]; exact setCells_at [.int .i64 0, .int .i64 0] (pairL (mp, mg)) rfl hbc)
  have HXD : Hid (Ext wb wd) := Lib.hid (by rw [← hwd]; exact Ext.upd (a := wb) (by rw [← hwc]; exact (Ext.refl _).alloc _) (setCells_upd _ _ _ _) (by omega))
  obtain ⟨mv, hmv⟩ : ∃ mv, Value.agg (pairL (mp, mg)).toArray = mv := ⟨_, rfl⟩
  have HMV := Lib.hid hmv
  have HWC := Lib.hid hwc
  have HBM := Lib.hid hBM
  have HWD := Lib.hid hwd
  clear hmm hx hma hmb hmc hwc hBM hwd hbc hmv
  go_upto_if 17 with fail
  go_upto_region 4 with (first | rw [HWC.out, HBM.out] | (refine wpList_load_rowM (by rfl) 57 _ rfl bq (oq + j * 2) (by go_simp) (pairL (mp, mg)) mv HMV.out.symm _ (HRG.out) Try.underlying57 rfl (by first | kernel_rfl | (rw [pL_len]; kernel_rfl)) ?_) | (refine wpList_store_rowM rfl 57 _ _ rfl BM 0 (pairL (mp, mg)) mv (by go_simp) (by go_simp) HMV.out.symm HTM.out (by first | kernel_rfl | (rw [pL_len]; kernel_rfl)) (pairL_one _) HWD.out ?_))
  clear q3 e1 e4 e5
  have c0 := blk_cell HBD.out 0 _ rfl
  have c1 := blk_cell HBD.out 1 _ rfl
  have HRD := Lib.hid (HXD.out.blk HRA.out)
  have HXDD := Lib.hid (HXA.out.trans HXD.out)
  by_cases h0 : mp = 0
  · have HN : Hid (r = (St.nil, 1)) := Lib.hid (by rw [← HRS.out]; exact St.yield_no (by intro h; rw [St.mAt_of HX.out] at h; exact h.2.2.1 h0))
    have h0' : (mp == 0) = true := by simpa using h0
    clear h0
    go_upto_if 32 with fail
    clear c0 c1 h0'
    obtain ⟨wf, hwf⟩ : ∃ wf, wd.setCells R 0 (stL StH.nil St.nil) = wf := ⟨_, rfl⟩
    have hfn := fin_nil HRD.out HXDD.out (show w.heap.size ≤ R by have := HRR.out; have := HW0.out; omega)
    rw [hwf] at hfn
    have HFN := Lib.hid hfn
    have HWF := Lib.hid hwf
    clear hfn hwf
    go_wp2_with (refine wpList_store_row rfl 32 _ _ rfl R (stL StH.nil St.nil) (stV StH.nil St.nil) rfl rfl rfl HFN.out.2.1 (by kernel_rfl) (stL_one _ _) HWF.out ?_)
    refine bodyPost_cell_tmp rfl R _ _ _ _ rfl HFN.out.1 Try.underlying32 rfl (by kernel_rfl) (.int .i64 1) rfl rfl ?_
    rw [HPQ.out]
    show StRes w _ _ _
    rw [HN.out]
    exact StRes.nil HFN.out.2.2
  by_cases h1 : mg = 0
  · have HN : Hid (r = (St.nil, 1)) := Lib.hid (by rw [← HRS.out]; exact St.yield_no (by intro h; rw [St.mAt_of HX.out] at h; exact h.2.2.2 h1))
    have h0' : (mp == 0) = false := by simpa using h0
    have h1' : (mg == 0) = true := by simpa using h1
    clear h0 h1
    go_upto_if 32 with fail
    clear c0 c1 h0' h1'
    obtain ⟨wf, hwf⟩ : ∃ wf, wd.setCells R 0 (stL StH.nil St.nil) = wf := ⟨_, rfl⟩
    have hfn := fin_nil HRD.out HXDD.out (show w.heap.size ≤ R by have := HRR.out; have := HW0.out; omega)
    rw [hwf] at hfn
    have HFN := Lib.hid hfn
    have HWF := Lib.hid hwf
    clear hfn hwf
    go_wp2_with (refine wpList_store_row rfl 32 _ _ rfl R (stL StH.nil St.nil) (stV StH.nil St.nil) rfl rfl rfl HFN.out.2.1 (by kernel_rfl) (stL_one _ _) HWF.out ?_)
    refine bodyPost_cell_tmp rfl R _ _ _ _ rfl HFN.out.1 Try.underlying32 rfl (by kernel_rfl) (.int .i64 1) rfl rfl ?_
    rw [HPQ.out]
    show StRes w _ _ _
    rw [HN.out]
    exact StRes.nil HFN.out.2.2
  obtain ⟨k, y, rfl, hy⟩ := St.may_onM HM.out HX.out h0 h1
  have HY := Lib.hid hy
  have HSQ := Lib.hid (St.may_seq HM.out hy)
  have HE : Hid (r = ({ s with ms := s.ms.set j (mp, 0), gs := s.gs.set k { y with st := 1, m := 0, seq := y.seq + 1 }, glob := s.glob ++ [(k : Int) + 1] }, 0)) := Lib.hid (by rw [← HRS.out]; exact St.yield_yes HM.out HX.out h0 hy)
  have h0' : (mp == 0) = false := by simpa using h0
  have h1' : ((k : Int) + 1 == 0) = false := by simp; omega
  clear h0 h1 hy
  have HBW := Lib.hid (HXD.out.blk HBA.out)
  have HKD := Lib.hid (HK.out.ext HXDD.out)
  go_upto_region 6 with fail
  clear c0 c1 h0' h1'
  obtain ⟨s3, hs3⟩ : ∃ s3 : St, { s with gs := s.gs.set k { y with st := 1, m := 0, seq := y.seq + 1 } } = s3 := ⟨_, rfl⟩
  obtain ⟨s4, hs4⟩ : ∃ s4 : St, { s3 with ms := s3.ms.set j (mp, 0) } = s4 := ⟨_, rfl⟩
  have HS3 := Lib.hid hs3
  have HB3 : Hid (∀ p ∈ s3.ps, p.ring.buf.length = 8) := Lib.hid (by rw [← hs3]; exact HK.out.buf)
  have HF3 : Hid (StFew s3) := Lib.hid (by
    rw [← hs3]
    have hf := HF.out
    exact ⟨hf.prog, by show (s.gs.set k _).length ≤ _; rw [List.length_set]; exact hf.gs, hf.ps, hf.ms, hf.glob, hf.w, hf.timers, hf.tnum⟩)
  have HJ3 : Hid (j < s3.ms.length) := Lib.hid (by rw [← hs3]; exact HJL.out)
  have HS4 := Lib.hid hs4
  have HG4 : Hid (s4.glob = s.glob) := Lib.hid (by rw [← hs4, ← hs3])
  have HE4 : Hid (r = ({ s4 with glob := s.glob ++ [(k : Int) + 1] }, 0)) := Lib.hid (by rw [HE.out, ← hs4, ← hs3])
  clear hs3 hs4
  go_wp2_with fail
  refine region_g 9 (fun v => Ext wd v) (fun v => Ext wd v) (by kernel_rfl) (Ext.refl _).drew ?_
  have HG : ∀ (l : Array Bool) v, Ext wd v → l.getD 9 false = false → Ext wd v := fun _ _ h _ => h
  refine g_take (HG _) (i := 0) (v := stV h s) rfl (by kernel_rfl) (by kernel_rfl) (by kernel_rfl) (by kernel_rfl) (by kernel_rfl) (fun _ _ _ h => h) (Still.yes (by kernel_rfl) fun w hS => ?_) ?_
  · exact givesV_P (givesP_load 32 _ rfl W0 (by go_simp) (stL h s) _ rfl _ (range_row (hS.blk HBW.out)) Try.underlying32 rfl (by kernel_rfl))
  have K0 : ∀ v, Ext wd v → v.cell? ⟨BM, 0, none⟩ = some (.int .i64 mp) := fun v hv => blk_cell (hv.blk HBD.out) 0 _ rfl
  have K1 : ∀ v, Ext wd v → v.cell? ⟨BM, 1, none⟩ = some (.int .i64 ((k : Int) + 1)) := fun v hv => blk_cell (hv.blk HBD.out) 1 _ rfl
  refine g_take (HG _) (i := 1) (v := ?_) rfl (by kernel_rfl) (by kernel_rfl) (by kernel_rfl) (by kernel_rfl) (by kernel_rfl) (fun _ _ _ h => h) (Still.yes (by kernel_rfl) fun w hS => ?_) ?_
  rotate_left 1
  · skip
    go_simp
    refine gives_mk ?_ rfl
    with_reducible rfl
  refine g_take (HG _) (i := 2) (v := ?_) rfl (by kernel_rfl) (by kernel_rfl) (by kernel_rfl) (by kernel_rfl) (by kernel_rfl) (fun _ _ _ h => h) (Still.yes (by kernel_rfl) fun w hS => ?_) ?_
  rotate_left 1
  · have c1 := K1 w hS
    go_simp
    refine gives_mk ?_ rfl
    with_reducible rfl
  refine g_take (HG _) (i := 4) (v := ?_) rfl (by kernel_rfl) (by kernel_rfl) (by kernel_rfl) (by kernel_rfl) (by kernel_rfl) (fun _ _ _ h => h) (Still.yes (by kernel_rfl) fun w hS => ?_) ?_
  rotate_left 1
  · skip
    go_simp
    refine gives_mk ?_ rfl
    with_reducible rfl
  refine g_take (HG _) (i := 5) (v := ?_) rfl (by kernel_rfl) (by kernel_rfl) (by kernel_rfl) (by kernel_rfl) (by kernel_rfl) (fun _ _ _ h => h) (Still.yes (by kernel_rfl) fun w hS => ?_) ?_
  rotate_left 1
  · skip
    go_simp
    refine gives_mk ?_ rfl
    with_reducible rfl
  refine g_take (HG _) (i := 6) (v := ?_) rfl (by kernel_rfl) (by kernel_rfl) (by kernel_rfl) (by kernel_rfl) (by kernel_rfl) (fun _ _ _ h => h) (Still.yes (by kernel_rfl) fun w hS => ?_) ?_
  rotate_left 1
  · have c0 := K0 w hS
    go_simp
    refine gives_mk ?_ rfl
    with_reducible rfl
  refine g_take (HG _) (i := 7) (v := ?_) rfl (by kernel_rfl) (by kernel_rfl) (by kernel_rfl) (by kernel_rfl) (by kernel_rfl) (fun _ _ _ h => h) (Still.yes (by kernel_rfl) fun w hS => ?_) ?_
  rotate_left 1
  · skip
    go_simp
    refine gives_mk ?_ rfl
    with_reducible rfl
  refine g_turn (fun u w => (∃ h3, u = stV h3 s3) ∧ (∀ h3, u = stV h3 s3 → ∃ I, StApart wd.heap.size w I h3 s3) ∧ Ext wd w) (k := 3) (by kernel_rfl) (fun _ _ h _ => h.2.2) (fun v hv => ?_)
  refine at_call (S := fun _ => True) rfl (by kernel_rfl) (by go_simp) ((rTurn_in h s k y 1 0 v (HKD.out.ext hv) HF.out HY.out HSQ.out).mono ?_) ?_
  · rintro e w' ⟨h3, I, rfl, ho, hx⟩
    rw [HS3.out] at ho ⊢
    exact ⟨_, rfl, ⟨h3, rfl⟩, fun h3' he => by obtain rfl := stV_h he; exact ⟨I, ho.lower hv.size⟩, hv.trans hx⟩
  rintro u ⟨_, ⟨h3, rfl⟩, _⟩
  refine g_turn (fun u w => (∃ h4, u = stV h4 s4) ∧ (∀ h4, u = stV h4 s4 → ∃ I, StApart wd.heap.size w I h4 s4) ∧ Ext wd w) (k := 8) (by kernel_rfl) (fun _ _ h _ => h.2.2) (fun v hv => ?_)
  refine at_call (S := fun _ => True) rfl (by kernel_rfl) (by go_simp) ((rSetM_in h3 s3 j mp 0 v (by obtain ⟨I, hI⟩ := hv.2.1 h3 rfl; exact hI.ok HB3.out) HF3.out HJ3.out).mono ?_) ?_
  · rintro e w' ⟨h4, I, rfl, ho, hx⟩
    rw [HS4.out] at ho ⊢
    exact ⟨_, rfl, ⟨h4, rfl⟩, fun h4' he => by obtain rfl := stV_h he; exact ⟨I, ho.lower hv.2.2.size⟩, hv.2.2.trans hx⟩
  rintro u ⟨_, ⟨h4, rfl⟩, _⟩
  refine g_turn (fun _ w' => Sit w W0 R wd.heap.size w' h4 s4 ∧ w'.heap[BM]? = some (.cells #[.int .i64 mp, .int .i64 ((k : Int) + 1)] 57 (0, 0))) (k := 9) (by kernel_rfl) (fun _ _ _ hz => absurd hz (by decide +kernel)) (fun v hv => ?_)
  refine at_skip rfl (by kernel_rfl) ?_ ?_
  · obtain ⟨I, hI⟩ := hv.2.1 h4 rfl
    have hst := Sit.start (w := w) rfl HXDD.out HBW.out HRD.out hv.2.2 hI (by have := HRR.out; omega) (by have := HW0.out; omega) (by have := HW0.out; have := HRR.out; omega)
    have hu := setCells_upd W0 (stL h4 s4) v 0
    refine ⟨_, skip_store 32 _ _ rfl W0 0 (by go_simp) (stL h4 s4) (by go_simp; rfl) hst.1 (by kernel_rfl) (stL_one _ _), hst.2, (hu.block BM (by have := hv.2.2.size; have := blk_lt HBD.out; omega) (fun e => by injection e; have := blk_lt HBA.out; have := HBM.out; omega)).trans (hv.2.2.blk HBD.out)⟩
  refine g_done (by kernel_rfl) ?_ _
  rintro w5 ⟨hst, hbm⟩
  have S5 := Lib.hid hst
  have c1 := blk_cell hbm 1 _ rfl
  clear hst hbm HG K0 K1
  obtain ⟨I4, ha4⟩ := S5.out.ap
  have q4 : w5.cell? ⟨W0, 4, none⟩ = some (.slice h4.la s.glob.length h4.lc) := by have := st4 S5.out.box; rw [HG4.out] at this; exact this
  have hlo4 := ha4.low 4 (by omega)
  have hgf := HF.out.glob
  have hgo : OwnInts w5 (I4 4).1 (.slice h4.la s.glob.length h4.lc) s.glob := by have := ha4.glob.1; rw [HG4.out] at this; exact this
  obtain ⟨A6, c6, w6, hr6, hq6⟩ := GlobQ.more (n := s.glob.length) ((GlobQ.start hgo).ext ((Ext.refl w5).alloc (.cells #[.int .i64 ((k : Int) + 1)] 3))) (m := [(k : Int) + 1]) rfl rfl (ints_one w5 _) (by omega) (by show s.glob.length + 1 ≤ _; omega)
  have hq6' : GlobQ (I4 4).1 w5 (.slice h4.la s4.glob.length h4.lc) w6 (.slice A6 (s.glob.length + 1) c6) (s.glob ++ [(k : Int) + 1]) := by rw [HG4.out]; exact hq6
  have hsg := S5.out.globQ ha4 hq6' (by rw [List.length_append]; rfl)
  obtain ⟨w7, hw7⟩ : ∃ w7, w6.setCell ⟨W0, 4, none⟩ (.slice A6 (s.glob.length + 1) c6) = w7 := ⟨_, rfl⟩
  obtain ⟨h5, hh5⟩ : ∃ h5 : StH, { h4 with la := A6, lc := c6 } = h5 := ⟨_, rfl⟩
  obtain ⟨s', hs'⟩ : ∃ s' : St, { s4 with glob := s.glob ++ [(k : Int) + 1] } = s' := ⟨_, rfl⟩
  have hsit := hsg.2.2
  rw [hw7, hh5, hs'] at hsit
  have S7 := Lib.hid hsit
  have HES : Hid (r = (s', 0)) := Lib.hid (by rw [HE4.out, hs'])
  have HW7 := Lib.hid hw7
  simp only [List.length_singleton] at hr6
  have HR6 := Lib.hid hr6
  have q5 : w6.cell? ⟨W0, 4, none⟩ = some (.slice h4.la s.glob.length h4.lc) := by have := hsg.1; rw [HG4.out] at this; exact this
  have q6 := hsg.2.1
  clear hsg hsit hh5 hw7 ha4 hq6 hq6' hlo4 hgf hr6 hgo hs'
  go_simp
  go_upto_region 8 with (first | (at_builtin; refine wpList_append_run rfl _ _ 27 rfl _ _ (by go_simp) (by go_simp) HR6.out ?_) | rw [HW7.out])
  clear q4 q5 q6 c1
  obtain ⟨wf, hwf⟩ : ∃ wf, w7.setCells R 0 (stL h5 s') = wf := ⟨_, rfl⟩
  have HWF := Lib.hid hwf
  have hfi := S7.out.fin
  rw [hwf] at hfi
  have HFI := Lib.hid hfi
  have HTR := Lib.hid (S7.out.there (h' := h5) (s' := s'))
  clear hwf hfi
  go_wp2_with (first | (refine wpList_load_rowW (by rfl) 32 _ rfl W0 (by go_simp) (stL h5 s') (stV h5 s') rfl _ (range_row S7.out.box) Try.underlying32 rfl (by kernel_rfl) ?_) | (refine wpList_store_row rfl 32 _ _ rfl R (stL h5 s') (stV h5 s') (by go_simp) (by go_simp) rfl HTR.out (by kernel_rfl) (stL_one _ _) HWF.out ?_))
  refine bodyPost_cell_tmp rfl R _ _ _ _ rfl HFI.out.1 Try.underlying32 rfl (by kernel_rfl) (.int .i64 0) rfl rfl ?_
  rw [HPQ.out]
  show StRes w _ _ _
  rw [HES.out]
  exact ⟨h5, rfl, HFI.out.2.1, HFI.out.2.2⟩
set_option maxRecDepth 100000 in
set_option maxHeartbeats 32000000 in
theorem walk_ReadyTells (h : StH) (s : St) (p n : Int) (w : World) (hk : StOk w h s) (hi : StIn s) (_ : (Lit.int .i64 p).wf = true) (_ : (Lit.int .i64 n).wf = true) : Calls Try.prog 4 #[stV h s, .int .i64 p, .int .i64 n] w fun e w' => e = .returned (.bool true) ∧ Ext w w' := by
  have HI := Lib.hid hi
  have HK := Lib.hid hk
  obtain ⟨w1, hw1⟩ : ∃ w1, w.alloc (.cells #[.slice h.pa s.prog.length h.pc, .slice h.ga s.gs.length h.gc, .slice h.qa s.ps.length h.qc, .slice h.ma s.ms.length h.mc, .slice h.la s.glob.length h.lc, .int .i64 s.c0, .int .i64 s.c1, .int .i64 s.c2, .int .i64 s.c3, .slice h.a0 s.w0.length h.k0, .slice h.a1 s.w1.length h.k1, .slice h.a2 s.w2.length h.k2, .slice h.a3 s.w3.length h.k3, .slice h.ta s.timers.length h.tc, .int .i64 s.clock, .int .i64 s.procs] 32) = w1 := ⟨_, rfl⟩
  have HX1 : Hid (Ext w w1) := Lib.hid (by rw [← hw1]; exact (Ext.refl w).alloc _)
  have HB1 : Hid (w1.heap[w.heap.size]? = some (.cells (stC h s) 32 (0, 0))) := Lib.hid (by rw [← hw1]; exact blk_new w _)
  have HK1 := Lib.hid (hk.ext HX1.out)
  have HW1 := Lib.hid hw1
  clear hw1 hk
  clear hi
  unfold stV
  go_enter Try.func4, Try.ntmps4
  go_upto_region 1 with fail
  rw [HW1.out]
  generalize Value.agg #[.slice h.pa s.prog.length h.pc, .slice h.ga s.gs.length h.gc, .slice h.qa s.ps.length h.qc, .slice h.ma s.ms.length h.mc, .slice h.la s.glob.length h.lc, .int .i64 s.c0, .int .i64 s.c1, .int .i64 s.c2, .int .i64 s.c3, .slice h.a0 s.w0.length h.k0, .slice h.a1 s.w1.length h.k1, .slice h.a2 s.w2.length h.k2, .slice h.a3 s.w3.length h.k3, .slice h.ta s.timers.length h.tc, .int .i64 s.clock, .int .i64 s.procs] = sv0
  obtain ⟨W0, hW0⟩ : ∃ W0, w.heap.size = W0 := ⟨_, rfl⟩
  rw [hW0] at HB1
  rw [hW0]
  have HW0 := Lib.hid hW0
  clear hW0
  go_wp2_with (refine wpList_load_rowW (by rfl) 32 _ rfl W0 (by go_simp) (stL h s) (stV h s) rfl _ (range_row HB1.out) Try.underlying32 rfl (by kernel_rfl) ?_)
  refine (rstsmall_any h s _ rfl w1 HK1.out HI.out).mono ?_
  rintro e w3 ⟨rfl, hx3⟩
  have HX4 := Lib.hid hx3
  clear hx3
  cases bs : s.small with
  | false =>
    go_wp2_with fail
    refine (rfixed_yes _).mono ?_
    rintro e w9 ⟨rfl, hx9⟩
    have HX9 := Lib.hid (HX1.out.trans (HX4.out.trans hx9))
    clear hx9
    go_wp2
    go_ret
    exact ⟨rfl, HX9.out⟩
  | true =>
  have HF := Lib.hid (St.small_few bs HI.out)
  have HSM := Lib.hid bs
  have HGL := Lib.hid (St.small_glob bs)
  clear bs
  have HSG : Hid (StGood s) := Lib.hid ⟨HF.out, HK1.out.buf, St.small_timers HSM.out⟩
  obtain ⟨⟨sa, ea⟩, hsa⟩ : ∃ q, s.wake p n = q := ⟨_, rfl⟩
  have HGa : Hid (StGood sa) := Lib.hid (by have := St.wake_good HSG.out HGL.out p n; rw [hsa] at this; exact this)
  have HSa := Lib.hid hsa
  clear hsa
  have HLD := Lib.hid (HX4.out.blk HB1.out)
  go_wp2_with (refine wpList_load_rowW (by rfl) 32 _ rfl W0 (by go_simp) (stL h s) (stV h s) rfl _ (range_row HLD.out) Try.underlying32 rfl (by kernel_rfl) ?_)
  refine (rdWake_any h s p n _ HSa.out w3 (HK1.out.ext HX4.out) HF.out).mono ?_
  rintro e w5 ⟨h5, rfl, ⟨I, hap⟩, hx⟩
  simp only at hap ⊢
  have HK5 := Lib.hid (hap.ok HGa.out.buf)
  have HX5 := Lib.hid (HX4.out.trans hx)
  have HZ5 : Hid (Ext w3 w5) := Lib.hid hx
  obtain ⟨wb5, wc5, hwb, hwc, hth, hbc, hxc⟩ := st_box w5 h5 sa
  obtain ⟨B5, hB⟩ : ∃ B5, w5.heap.size = B5 := ⟨_, rfl⟩
  rw [hB] at hwc hth hbc
  have HWB5 := Lib.hid hwb
  have HB5 := Lib.hid hB
  have HWC5 := Lib.hid hwc
  have HTH5 := Lib.hid hth
  have HBS5 := Lib.hid hbc
  have HXC5 := Lib.hid hxc
  clear hwb hwc hth hbc hxc hB
  have HY5 := Lib.hid (HX5.out.trans HXC5.out)
  clear hap hx HLD
  go_upto_region 4 with (first | rw [HWB5.out, HB5.out] | (refine wpList_store_row rfl 32 _ _ rfl B5 (stL h5 sa) (stV h5 sa) (by go_simp) (by go_simp) rfl HTH5.out (by kernel_rfl) (stL_one _ _) HWC5.out ?_))
  have HQ5 : Hid (Ext wc5 wc5) := Lib.hid (Ext.refl _)
  have HLD := Lib.hid (HY5.out.blk HB1.out)
  go_wp2_with (refine wpList_load_rowW (by rfl) 32 _ rfl W0 (by go_simp) (stL h s) (stV h s) rfl _ (range_row HLD.out) Try.underlying32 rfl (by kernel_rfl) ?_)
  refine (r13Wake_any h s p n _ HSa.out wc5 (HK1.out.ext HY5.out) HF.out).mono ?_
  rintro e w6 ⟨h6, rfl, ⟨I, hap⟩, hx⟩
  simp only at hap ⊢
  have HK6 := Lib.hid (hap.ok HGa.out.buf)
  have HX6 := Lib.hid (HY5.out.trans hx)
  have HZ6 : Hid (Ext wc5 w6) := Lib.hid hx
  obtain ⟨wb6, wc6, hwb, hwc, hth, hbc, hxc⟩ := st_box w6 h6 sa
  obtain ⟨B6, hB⟩ : ∃ B6, w6.heap.size = B6 := ⟨_, rfl⟩
  rw [hB] at hwc hth hbc
  have HWB6 := Lib.hid hwb
  have HB6 := Lib.hid hB
  have HWC6 := Lib.hid hwc
  have HTH6 := Lib.hid hth
  have HBS6 := Lib.hid hbc
  have HXC6 := Lib.hid hxc
  clear hwb hwc hth hbc hxc hB
  have HY6 := Lib.hid (HX6.out.trans HXC6.out)
  clear hap hx HLD
  go_upto_region 5 with (first | rw [HWB6.out, HB6.out] | (refine wpList_store_row rfl 32 _ _ rfl B6 (stL h6 sa) (stV h6 sa) (by go_simp) (by go_simp) rfl HTH6.out (by kernel_rfl) (stL_one _ _) HWC6.out ?_))
  have HQ5 := Lib.hid (HQ5.out.trans (HZ6.out.trans HXC6.out))
  have HQ6 : Hid (Ext wc6 wc6) := Lib.hid (Ext.refl _)
  obtain ⟨⟨sb, eb⟩, hsb⟩ : ∃ q, s.yield n = q := ⟨_, rfl⟩
  have HGb : Hid (StGood sb) := Lib.hid (by have := St.yield_good HSG.out HGL.out n; rw [hsb] at this; exact this)
  have HSb := Lib.hid hsb
  clear hsb
  have HLD := Lib.hid (HY6.out.blk HB1.out)
  go_wp2_with (refine wpList_load_rowW (by rfl) 32 _ rfl W0 (by go_simp) (stL h s) (stV h s) rfl _ (range_row HLD.out) Try.underlying32 rfl (by kernel_rfl) ?_)
  refine (rdYield_any h s n _ HSb.out wc6 (HK1.out.ext HY6.out) HF.out).mono ?_
  rintro e w7 ⟨h7, rfl, ⟨I, hap⟩, hx⟩
  simp only at hap ⊢
  have HK7 := Lib.hid (hap.ok HGb.out.buf)
  have HX7 := Lib.hid (HY6.out.trans hx)
  have HZ7 : Hid (Ext wc6 w7) := Lib.hid hx
  obtain ⟨wb7, wc7, hwb, hwc, hth, hbc, hxc⟩ := st_box w7 h7 sb
  obtain ⟨B7, hB⟩ : ∃ B7, w7.heap.size = B7 := ⟨_, rfl⟩
  rw [hB] at hwc hth hbc
  have HWB7 := Lib.hid hwb
  have HB7 := Lib.hid hB
  have HWC7 := Lib.hid hwc
  have HTH7 := Lib.hid hth
  have HBS7 := Lib.hid hbc
  have HXC7 := Lib.hid hxc
  clear hwb hwc hth hbc hxc hB
  have HY7 := Lib.hid (HX7.out.trans HXC7.out)
  clear hap hx HLD
  go_upto_region 6 with (first | rw [HWB7.out, HB7.out] | (refine wpList_store_row rfl 32 _ _ rfl B7 (stL h7 sb) (stV h7 sb) (by go_simp) (by go_simp) rfl HTH7.out (by kernel_rfl) (stL_one _ _) HWC7.out ?_))
  have HQ5 := Lib.hid (HQ5.out.trans (HZ7.out.trans HXC7.out))
  have HQ6 := Lib.hid (HQ6.out.trans (HZ7.out.trans HXC7.out))
  have HQ7 : Hid (Ext wc7 wc7) := Lib.hid (Ext.refl _)
  have HLD := Lib.hid (HY7.out.blk HB1.out)
  go_wp2_with (refine wpList_load_rowW (by rfl) 32 _ rfl W0 (by go_simp) (stL h s) (stV h s) rfl _ (range_row HLD.out) Try.underlying32 rfl (by kernel_rfl) ?_)
  refine (r13Yield_any h s n _ HSb.out wc7 (HK1.out.ext HY7.out) HF.out).mono ?_
  rintro e w8 ⟨h8, rfl, ⟨I, hap⟩, hx⟩
  simp only at hap ⊢
  have HK8 := Lib.hid (hap.ok HGb.out.buf)
  have HX8 := Lib.hid (HY7.out.trans hx)
  have HZ8 : Hid (Ext wc7 w8) := Lib.hid hx
  obtain ⟨wb8, wc8, hwb, hwc, hth, hbc, hxc⟩ := st_box w8 h8 sb
  obtain ⟨B8, hB⟩ : ∃ B8, w8.heap.size = B8 := ⟨_, rfl⟩
  rw [hB] at hwc hth hbc
  have HWB8 := Lib.hid hwb
  have HB8 := Lib.hid hB
  have HWC8 := Lib.hid hwc
  have HTH8 := Lib.hid hth
  have HBS8 := Lib.hid hbc
  have HXC8 := Lib.hid hxc
  clear hwb hwc hth hbc hxc hB
  have HY8 := Lib.hid (HX8.out.trans HXC8.out)
  clear hap hx HLD
  go_upto_region 7 with (first | rw [HWB8.out, HB8.out] | (refine wpList_store_row rfl 32 _ _ rfl B8 (stL h8 sb) (stV h8 sb) (by go_simp) (by go_simp) rfl HTH8.out (by kernel_rfl) (stL_one _ _) HWC8.out ?_))
  have HQ5 := Lib.hid (HQ5.out.trans (HZ8.out.trans HXC8.out))
  have HQ6 := Lib.hid (HQ6.out.trans (HZ8.out.trans HXC8.out))
  have HQ7 := Lib.hid (HQ7.out.trans (HZ8.out.trans HXC8.out))
  have HQ8 : Hid (Ext wc8 wc8) := Lib.hid (Ext.refl _)
  obtain ⟨⟨sc, ec⟩, hsc⟩ : ∃ q, s.drain p = q := ⟨_, rfl⟩
  have HGc : Hid (StGood sc) := Lib.hid (by have := St.drain_good HSG.out HGL.out p; rw [hsc] at this; exact this)
  have HSc := Lib.hid hsc
  clear hsc
  have HLD := Lib.hid (HY8.out.blk HB1.out)
  go_wp2_with (refine wpList_load_rowW (by rfl) 32 _ rfl W0 (by go_simp) (stL h s) (stV h s) rfl _ (range_row HLD.out) Try.underlying32 rfl (by kernel_rfl) ?_)
  refine (rdDrain_any h s p _ HSc.out wc8 (HK1.out.ext HY8.out) HF.out).mono ?_
  rintro e w9 ⟨h9, rfl, ⟨I, hap⟩, hx⟩
  simp only at hap ⊢
  have HK9 := Lib.hid (hap.ok HGc.out.buf)
  have HX9 := Lib.hid (HY8.out.trans hx)
  have HZ9 : Hid (Ext wc8 w9) := Lib.hid hx
  obtain ⟨wb9, wc9, hwb, hwc, hth, hbc, hxc⟩ := st_box w9 h9 sc
  obtain ⟨B9, hB⟩ : ∃ B9, w9.heap.size = B9 := ⟨_, rfl⟩
  rw [hB] at hwc hth hbc
  have HWB9 := Lib.hid hwb
  have HB9 := Lib.hid hB
  have HWC9 := Lib.hid hwc
  have HTH9 := Lib.hid hth
  have HBS9 := Lib.hid hbc
  have HXC9 := Lib.hid hxc
  clear hwb hwc hth hbc hxc hB
  have HY9 := Lib.hid (HX9.out.trans HXC9.out)
  clear hap hx HLD
  go_upto_region 8 with (first | rw [HWB9.out, HB9.out] | (refine wpList_store_row rfl 32 _ _ rfl B9 (stL h9 sc) (stV h9 sc) (by go_simp) (by go_simp) rfl HTH9.out (by kernel_rfl) (stL_one _ _) HWC9.out ?_))
  have HQ5 := Lib.hid (HQ5.out.trans (HZ9.out.trans HXC9.out))
  have HQ6 := Lib.hid (HQ6.out.trans (HZ9.out.trans HXC9.out))
  have HQ7 := Lib.hid (HQ7.out.trans (HZ9.out.trans HXC9.out))
  have HQ8 := Lib.hid (HQ8.out.trans (HZ9.out.trans HXC9.out))
  have HQ9 : Hid (Ext wc9 wc9) := Lib.hid (Ext.refl _)
  have HLD := Lib.hid (HY9.out.blk HB1.out)
  go_wp2_with (refine wpList_load_rowW (by rfl) 32 _ rfl W0 (by go_simp) (stL h s) (stV h s) rfl _ (range_row HLD.out) Try.underlying32 rfl (by kernel_rfl) ?_)
  refine (r13Drain_any h s p _ HSc.out wc9 (HK1.out.ext HY9.out) HF.out).mono ?_
  rintro e w10 ⟨h10, rfl, ⟨I, hap⟩, hx⟩
  simp only at hap ⊢
  have HK10 := Lib.hid (hap.ok HGc.out.buf)
  have HX10 := Lib.hid (HY9.out.trans hx)
  have HZ10 : Hid (Ext wc9 w10) := Lib.hid hx
  obtain ⟨wb10, wc10, hwb, hwc, hth, hbc, hxc⟩ := st_box w10 h10 sc
  obtain ⟨B10, hB⟩ : ∃ B10, w10.heap.size = B10 := ⟨_, rfl⟩
  rw [hB] at hwc hth hbc
  have HWB10 := Lib.hid hwb
  have HB10 := Lib.hid hB
  have HWC10 := Lib.hid hwc
  have HTH10 := Lib.hid hth
  have HBS10 := Lib.hid hbc
  have HXC10 := Lib.hid hxc
  clear hwb hwc hth hbc hxc hB
  have HY10 := Lib.hid (HX10.out.trans HXC10.out)
  clear hap hx HLD
  go_upto_region 9 with (first | rw [HWB10.out, HB10.out] | (refine wpList_store_row rfl 32 _ _ rfl B10 (stL h10 sc) (stV h10 sc) (by go_simp) (by go_simp) rfl HTH10.out (by kernel_rfl) (stL_one _ _) HWC10.out ?_))
  have HQ5 := Lib.hid (HQ5.out.trans (HZ10.out.trans HXC10.out))
  have HQ6 := Lib.hid (HQ6.out.trans (HZ10.out.trans HXC10.out))
  have HQ7 := Lib.hid (HQ7.out.trans (HZ10.out.trans HXC10.out))
  have HQ8 := Lib.hid (HQ8.out.trans (HZ10.out.trans HXC10.out))
  have HQ9 := Lib.hid (HQ9.out.trans (HZ10.out.trans HXC10.out))
  have HQ10 : Hid (Ext wc10 wc10) := Lib.hid (Ext.refl _)
  have BB5 := Lib.hid (HQ5.out.blk HBS5.out)
  have KK5 := Lib.hid (HK5.out.ext (HXC5.out.trans HQ5.out))
  have BB6 := Lib.hid (HQ6.out.blk HBS6.out)
  have KK6 := Lib.hid (HK6.out.ext (HXC6.out.trans HQ6.out))
  have BB7 := Lib.hid (HQ7.out.blk HBS7.out)
  have KK7 := Lib.hid (HK7.out.ext (HXC7.out.trans HQ7.out))
  have BB8 := Lib.hid (HQ8.out.blk HBS8.out)
  have KK8 := Lib.hid (HK8.out.ext (HXC8.out.trans HQ8.out))
  have BB9 := Lib.hid (HQ9.out.blk HBS9.out)
  have KK9 := Lib.hid (HK9.out.ext (HXC9.out.trans HQ9.out))
  have BB10 := Lib.hid (HQ10.out.blk HBS10.out)
  have KK10 := Lib.hid (HK10.out.ext (HXC10.out.trans HQ10.out))
  have BS := Lib.hid (HY10.out.blk HB1.out)
  have KS := Lib.hid (HK1.out.ext HY10.out)
  obtain ⟨st, hst⟩ : ∃ st, s.tail p n = st := ⟨_, rfl⟩
  have HGT : Hid (StGood st) := Lib.hid (by rw [← hst]; exact St.tail_good HSG.out (by have := HGL.out; omega) p n)
  have HST := Lib.hid hst
  clear hst
  refine region_rgx ([(0, (fun u => u = .bool true : Value → Prop), (fun _ _ => True : (Nat → GV) → World → Prop)), (4, (fun u => u = .bool true : Value → Prop), (fun _ _ => True : (Nat → GV) → World → Prop)), (14, (fun u => u = .bool true : Value → Prop), (fun _ _ => True : (Nat → GV) → World → Prop)), (24, (fun u => u = .bool true : Value → Prop), (fun _ _ => True : (Nat → GV) → World → Prop)), (35, (fun u => ∃ h', u = stV h' st : Value → Prop), (fun u w => ∃ h', (u 35).v = stV h' st ∧ StOk w h' st : (Nat → GV) → World → Prop)), (39, (fun u => ∃ h', u = stV h' st : Value → Prop), (fun u w => ∃ h', (u 39).v = stV h' st ∧ StOk w h' st : (Nat → GV) → World → Prop)), (40, (fun u => u = .bool true : Value → Prop), (fun _ _ => True : (Nat → GV) → World → Prop))]) (wc10) (by kernel_rfl) (by kernel_rfl) ?_ ?_ ?_
  · exact List.forall_mem_cons.2 ⟨⟨⟨_, rfl⟩, fun _ _ _ _ _ => trivial, fun _ _ _ _ _ => trivial⟩, List.forall_mem_cons.2 ⟨⟨⟨_, rfl⟩, fun _ _ _ _ _ => trivial, fun _ _ _ _ _ => trivial⟩, List.forall_mem_cons.2 ⟨⟨⟨_, rfl⟩, fun _ _ _ _ _ => trivial, fun _ _ _ _ _ => trivial⟩, List.forall_mem_cons.2 ⟨⟨⟨_, rfl⟩, fun _ _ _ _ _ => trivial, fun _ _ _ _ _ => trivial⟩, List.forall_mem_cons.2 ⟨⟨⟨_, StH.nil, rfl⟩, fun u v w h ht => by show (fun u w => ∃ h', (u 35).v = stV h' st ∧ StOk w h' st : (Nat → GV) → World → Prop) v w; dsimp only; rw [← h 35 (.inl rfl) (by kernel_rfl)]; exact ht, fun u w w2 hx ⟨h', e', k'⟩ => ⟨h', e', k'.ext hx⟩⟩, List.forall_mem_cons.2 ⟨⟨⟨_, StH.nil, rfl⟩, fun u v w h ht => by show (fun u w => ∃ h', (u 39).v = stV h' st ∧ StOk w h' st : (Nat → GV) → World → Prop) v w; dsimp only; rw [← h 39 (.inl rfl) (by kernel_rfl)]; exact ht, fun u w w2 hx ⟨h', e', k'⟩ => ⟨h', e', k'.ext hx⟩⟩, List.forall_mem_cons.2 ⟨⟨⟨_, rfl⟩, fun _ _ _ _ _ => trivial, fun _ _ _ _ _ => trivial⟩, List.forall_mem_nil _⟩⟩⟩⟩⟩⟩⟩
  · first | assumption | exact Ext.refl _
  refine rg_mem (fun u => u = .bool true : Value → Prop) (fun _ _ => True : (Nat → GV) → World → Prop) (fun _ => Ext) rfl rfl rfl rfl (by kernel_rfl) (by kernel_rfl) (fun w hS hN R hR => ?_) ?_
  · have HR := Lib.hid hR
    clear hR
    (try clear hN)
    go_simp
    refine givesM_call ((rfixed_yes w).mono ?_)
    rintro e w' ⟨rfl, hx⟩
    exact ⟨_, rfl, HR.out _ _ rfl trivial hx⟩
  rintro u0 s0 t0 rfl
  refine rg_pure (v := ?_) rfl (by kernel_rfl) (by kernel_rfl) (fun w hS hN => ?_) ?_
  rotate_left 1
  · clear hN
    go_simp
    refine givesP_mk ?_
    with_reducible rfl
  refine rg_pure (v := stV h5 sa) rfl (by kernel_rfl) (by kernel_rfl) (fun w hS hN => ?_) ?_
  · clear hN
    exact givesP_load 32 _ rfl _ (by go_simp) (stL h5 sa) _ rfl _ (range_row (hS.blk BB5.out)) Try.underlying32 rfl (by kernel_rfl)
  refine rg_pure (v := stV h6 sa) rfl (by kernel_rfl) (by kernel_rfl) (fun w hS hN => ?_) ?_
  · clear hN
    exact givesP_load 32 _ rfl _ (by go_simp) (stL h6 sa) _ rfl _ (range_row (hS.blk BB6.out)) Try.underlying32 rfl (by kernel_rfl)
  refine rg_mem (fun u => u = .bool true : Value → Prop) (fun _ _ => True : (Nat → GV) → World → Prop) (fun _ => Ext) rfl rfl rfl rfl (by kernel_rfl) (by kernel_rfl) (fun w hS hN R hR => ?_) ?_
  · have HR := Lib.hid hR
    clear hR
    (try clear hN)
    go_simp
    refine givesM_call ((rstsame_any h5 h6 sa sa true (by simp) w (KK5.out.ext hS) (KK6.out.ext hS) HGa.out.few HGa.out.tim).mono ?_)
    rintro e w' ⟨rfl, hx⟩
    exact ⟨_, rfl, HR.out _ _ rfl trivial hx⟩
  rintro u4 s4 t4 rfl
  refine rg_pure (v := ?_) rfl (by kernel_rfl) (by kernel_rfl) (fun w hS hN => ?_) ?_
  rotate_left 1
  · clear hN
    go_simp
    refine givesP_mk ?_
    with_reducible rfl
  refine rg_pure (v := ?_) rfl (by kernel_rfl) (by kernel_rfl) (fun w hS hN => ?_) ?_
  rotate_left 1
  · clear hN
    go_simp
    refine givesP_mk ?_
    with_reducible rfl
  refine rg_pure (v := ?_) rfl (by kernel_rfl) (by kernel_rfl) (fun w hS hN => ?_) ?_
  rotate_left 1
  · clear hN
    go_simp
    refine givesP_mk ?_
    with_reducible rfl
  refine rg_pure (v := ?_) rfl (by kernel_rfl) (by kernel_rfl) (fun w hS hN => ?_) ?_
  rotate_left 1
  · clear hN
    go_simp
    refine givesP_mk ?_
    with_reducible rfl
  refine rg_pure (v := ?_) rfl (by kernel_rfl) (by kernel_rfl) (fun w hS hN => ?_) ?_
  rotate_left 1
  · clear hN
    go_simp
    refine givesP_mk ?_
    with_reducible rfl
  refine rg_pure (v := ?_) rfl (by kernel_rfl) (by kernel_rfl) (fun w hS hN => ?_) ?_
  rotate_left 1
  · clear hN
    go_simp
    refine givesP_mk ?_
    with_reducible rfl
  refine rg_pure (v := ?_) rfl (by kernel_rfl) (by kernel_rfl) (fun w hS hN => ?_) ?_
  rotate_left 1
  · clear hN
    go_simp
    refine givesP_mk ?_
    with_reducible rfl
  refine rg_pure (v := stV h7 sb) rfl (by kernel_rfl) (by kernel_rfl) (fun w hS hN => ?_) ?_
  · clear hN
    exact givesP_load 32 _ rfl _ (by go_simp) (stL h7 sb) _ rfl _ (range_row (hS.blk BB7.out)) Try.underlying32 rfl (by kernel_rfl)
  refine rg_pure (v := stV h8 sb) rfl (by kernel_rfl) (by kernel_rfl) (fun w hS hN => ?_) ?_
  · clear hN
    exact givesP_load 32 _ rfl _ (by go_simp) (stL h8 sb) _ rfl _ (range_row (hS.blk BB8.out)) Try.underlying32 rfl (by kernel_rfl)
  refine rg_mem (fun u => u = .bool true : Value → Prop) (fun _ _ => True : (Nat → GV) → World → Prop) (fun _ => Ext) rfl rfl rfl rfl (by kernel_rfl) (by kernel_rfl) (fun w hS hN R hR => ?_) ?_
  · have HR := Lib.hid hR
    clear hR
    (try clear hN)
    go_simp
    refine givesM_call ((rstsame_any h7 h8 sb sb true (by simp) w (KK7.out.ext hS) (KK8.out.ext hS) HGb.out.few HGb.out.tim).mono ?_)
    rintro e w' ⟨rfl, hx⟩
    exact ⟨_, rfl, HR.out _ _ rfl trivial hx⟩
  rintro u14 s14 t14 rfl
  refine rg_pure (v := ?_) rfl (by kernel_rfl) (by kernel_rfl) (fun w hS hN => ?_) ?_
  rotate_left 1
  · clear hN
    go_simp
    refine givesP_mk ?_
    with_reducible rfl
  refine rg_pure (v := ?_) rfl (by kernel_rfl) (by kernel_rfl) (fun w hS hN => ?_) ?_
  rotate_left 1
  · clear hN
    go_simp
    refine givesP_mk ?_
    with_reducible rfl
  refine rg_pure (v := ?_) rfl (by kernel_rfl) (by kernel_rfl) (fun w hS hN => ?_) ?_
  rotate_left 1
  · clear hN
    go_simp
    refine givesP_mk ?_
    with_reducible rfl
  refine rg_pure (v := ?_) rfl (by kernel_rfl) (by kernel_rfl) (fun w hS hN => ?_) ?_
  rotate_left 1
  · clear hN
    go_simp
    refine givesP_mk ?_
    with_reducible rfl
  refine rg_pure (v := ?_) rfl (by kernel_rfl) (by kernel_rfl) (fun w hS hN => ?_) ?_
  rotate_left 1
  · clear hN
    go_simp
    refine givesP_mk ?_
    with_reducible rfl
  refine rg_pure (v := ?_) rfl (by kernel_rfl) (by kernel_rfl) (fun w hS hN => ?_) ?_
  rotate_left 1
  · clear hN
    go_simp
    refine givesP_mk ?_
    with_reducible rfl
  refine rg_pure (v := ?_) rfl (by kernel_rfl) (by kernel_rfl) (fun w hS hN => ?_) ?_
  rotate_left 1
  · clear hN
    go_simp
    refine givesP_mk ?_
    with_reducible rfl
  refine rg_pure (v := stV h9 sc) rfl (by kernel_rfl) (by kernel_rfl) (fun w hS hN => ?_) ?_
  · clear hN
    exact givesP_load 32 _ rfl _ (by go_simp) (stL h9 sc) _ rfl _ (range_row (hS.blk BB9.out)) Try.underlying32 rfl (by kernel_rfl)
  refine rg_pure (v := stV h10 sc) rfl (by kernel_rfl) (by kernel_rfl) (fun w hS hN => ?_) ?_
  · clear hN
    exact givesP_load 32 _ rfl _ (by go_simp) (stL h10 sc) _ rfl _ (range_row (hS.blk BB10.out)) Try.underlying32 rfl (by kernel_rfl)
  refine rg_mem (fun u => u = .bool true : Value → Prop) (fun _ _ => True : (Nat → GV) → World → Prop) (fun _ => Ext) rfl rfl rfl rfl (by kernel_rfl) (by kernel_rfl) (fun w hS hN R hR => ?_) ?_
  · have HR := Lib.hid hR
    clear hR
    (try clear hN)
    go_simp
    refine givesM_call ((rstsame_any h9 h10 sc sc true (by simp) w (KK9.out.ext hS) (KK10.out.ext hS) HGc.out.few HGc.out.tim).mono ?_)
    rintro e w' ⟨rfl, hx⟩
    exact ⟨_, rfl, HR.out _ _ rfl trivial hx⟩
  rintro u24 s24 t24 rfl
  refine rg_pure (v := ?_) rfl (by kernel_rfl) (by kernel_rfl) (fun w hS hN => ?_) ?_
  rotate_left 1
  · clear hN
    go_simp
    refine givesP_mk ?_
    with_reducible rfl
  refine rg_pure (v := ?_) rfl (by kernel_rfl) (by kernel_rfl) (fun w hS hN => ?_) ?_
  rotate_left 1
  · clear hN
    go_simp
    refine givesP_mk ?_
    with_reducible rfl
  refine rg_pure (v := ?_) rfl (by kernel_rfl) (by kernel_rfl) (fun w hS hN => ?_) ?_
  rotate_left 1
  · clear hN
    go_simp
    refine givesP_mk ?_
    with_reducible rfl
  refine rg_pure (v := ?_) rfl (by kernel_rfl) (by kernel_rfl) (fun w hS hN => ?_) ?_
  rotate_left 1
  · clear hN
    go_simp
    refine givesP_mk ?_
    with_reducible rfl
  refine rg_pure (v := ?_) rfl (by kernel_rfl) (by kernel_rfl) (fun w hS hN => ?_) ?_
  rotate_left 1
  · clear hN
    go_simp
    refine givesP_mk ?_
    with_reducible rfl
  refine rg_pure (v := ?_) rfl (by kernel_rfl) (by kernel_rfl) (fun w hS hN => ?_) ?_
  rotate_left 1
  · clear hN
    go_simp
    refine givesP_mk ?_
    with_reducible rfl
  refine rg_pure (v := ?_) rfl (by kernel_rfl) (by kernel_rfl) (fun w hS hN => ?_) ?_
  rotate_left 1
  · clear hN
    go_simp
    refine givesP_mk ?_
    with_reducible rfl
  refine rg_pure (v := stV h s) rfl (by kernel_rfl) (by kernel_rfl) (fun w hS hN => ?_) ?_
  · clear hN
    exact givesP_load 32 _ rfl _ (by go_simp) (stL h s) _ rfl _ (range_row (hS.blk BS.out)) Try.underlying32 rfl (by kernel_rfl)
  refine rg_pure (v := ?_) rfl (by kernel_rfl) (by kernel_rfl) (fun w hS hN => ?_) ?_
  rotate_left 1
  · clear hN
    go_simp
    refine givesP_mk ?_
    with_reducible rfl
  refine rg_pure (v := ?_) rfl (by kernel_rfl) (by kernel_rfl) (fun w hS hN => ?_) ?_
  rotate_left 1
  · clear hN
    go_simp
    refine givesP_mk ?_
    with_reducible rfl
  refine rg_mem (fun u => ∃ h', u = stV h' st : Value → Prop) (fun u w => ∃ h', (u 35).v = stV h' st ∧ StOk w h' st : (Nat → GV) → World → Prop) (fun _ => Ext) rfl rfl rfl rfl (by kernel_rfl) (by kernel_rfl) (fun w hS hN R hR => ?_) ?_
  · have HR := Lib.hid hR
    clear hR
    (try clear hN)
    go_simp
    refine givesM_call ((rdTail_any h s p n w (KS.out.ext hS) HF.out).mono ?_)
    rintro e w' ⟨h', I, rfl, ho, hx⟩
    rw [HST.out] at ho ⊢
    exact ⟨_, rfl, HR.out _ _ ⟨h', rfl⟩ ⟨h', rfl, ho.ok HGT.out.buf⟩ hx⟩
  rintro u35 s35 t35 ⟨h35, rfl⟩
  refine rg_pure (v := stV h s) rfl (by kernel_rfl) (by kernel_rfl) (fun w hS hN => ?_) ?_
  · clear hN
    exact givesP_load 32 _ rfl _ (by go_simp) (stL h s) _ rfl _ (range_row (hS.blk BS.out)) Try.underlying32 rfl (by kernel_rfl)
  refine rg_pure (v := ?_) rfl (by kernel_rfl) (by kernel_rfl) (fun w hS hN => ?_) ?_
  rotate_left 1
  · clear hN
    go_simp
    refine givesP_mk ?_
    with_reducible rfl
  refine rg_pure (v := ?_) rfl (by kernel_rfl) (by kernel_rfl) (fun w hS hN => ?_) ?_
  rotate_left 1
  · clear hN
    go_simp
    refine givesP_mk ?_
    with_reducible rfl
  refine rg_mem (fun u => ∃ h', u = stV h' st : Value → Prop) (fun u w => ∃ h', (u 39).v = stV h' st ∧ StOk w h' st : (Nat → GV) → World → Prop) (fun _ => Ext) rfl rfl rfl rfl (by kernel_rfl) (by kernel_rfl) (fun w hS hN R hR => ?_) ?_
  · have HR := Lib.hid hR
    clear hR
    (try clear hN)
    go_simp
    refine givesM_call ((r13Tail_any h s p n w (KS.out.ext hS) HF.out).mono ?_)
    rintro e w' ⟨h', rfl, hk', hx, _⟩
    rw [HST.out] at hk' ⊢
    exact ⟨_, rfl, HR.out _ _ ⟨h', rfl⟩ ⟨h', rfl, hk'⟩ hx⟩
  rintro u39 s39 t39 ⟨h39, rfl⟩
  refine rg_mem (fun u => u = .bool true : Value → Prop) (fun _ _ => True : (Nat → GV) → World → Prop) (fun _ => Ext) rfl rfl rfl rfl (by kernel_rfl) (by kernel_rfl) (fun w hS hN R hR => ?_) ?_
  · have HR := Lib.hid hR
    clear hR
    have t1 : ∃ h', stV h35 st = stV h' st ∧ StOk w h' st := hN.get 35 rfl (by kernel_rfl)
    have t2 : ∃ h', stV h39 st = stV h' st ∧ StOk w h' st := hN.get 39 rfl (by kernel_rfl)
    obtain ⟨h', e1, k1⟩ := t1
    obtain ⟨h'', e2, k2⟩ := t2
    obtain rfl := stV_h e1
    obtain rfl := stV_h e2
    (try clear hN)
    go_simp
    refine givesM_call ((rstsame_any h35 h39 st st true (by simp) w k1 k2 HGT.out.few HGT.out.tim).mono ?_)
    rintro e w' ⟨rfl, hx⟩
    exact ⟨_, rfl, HR.out _ _ rfl trivial hx⟩
  rintro u40 s40 t40 rfl
  refine rg_pure (v := ?_) rfl (by kernel_rfl) (by kernel_rfl) (fun w hS hN => ?_) ?_
  rotate_left 1
  · clear hN
    go_simp
    refine givesP_mk ?_
    with_reducible rfl
  refine rg_pure (v := ?_) rfl (by kernel_rfl) (by kernel_rfl) (fun w hS hN => ?_) ?_
  rotate_left 1
  · clear hN
    go_simp
    refine givesP_mk ?_
    with_reducible rfl
  refine rg_done rfl (Nat.le_of_ble_eq_true (by kernel_rfl)) ?_
  intro w8 hS hT
  have HSX := Lib.hid (HX1.out.trans (HY10.out.trans hS))
  clear hT hS
  go_simp
  go_wp2
  go_ret
  exact ⟨rfl, HSX.out⟩
end Go.Proofs.Ytogcfndhcphpaaa
