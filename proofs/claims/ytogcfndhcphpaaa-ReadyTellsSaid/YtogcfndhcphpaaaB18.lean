/-
  Several texts in one: Uy, Uv, Uz, Uza.
-/
import Derived.Test.YtogcfndhcphpaaaB15
import Derived.Test.YtogcfndhcphpaaaB17
import Derived.Test.YtogcfndhcphpaaaB16
set_option linter.unusedVariables false
set_option linter.unusedSimpArgs false
namespace Go.Proofs.Ytogcfndhcphpaaa
open Go.RowKit
def StTold (w : World) (s : St) (e : Ending) (w' : World) : Prop := ∃ h', e = .returned (stV h' s) ∧ StOk w' h' s ∧ Ext w w'
def StTail (w : World) (h : StH) (s t : St) (e : Ending) (w' : World) : Prop := ∃ h', e = .returned (stV h' t) ∧ StOk w' h' t ∧ Ext w w' ∧ ((h' = h ∧ t = s) ∨ ∃ I, StApart w.heap.size w' I h' t)
set_option maxRecDepth 100000 in
set_option maxHeartbeats 32000000 in
theorem r13Tail_any (h : StH) (s : St) (p g : Int) (w : World) (hk : StOk w h s) (hf : StFew s) : Calls Try.prog 26 #[stV h s, .int .i64 p, .int .i64 g] w (StTail w h s (s.tail p g)) := by
  have HKW := Lib.hid hk
  have HF := Lib.hid hf
  have HK := Lib.hid hk
  obtain ⟨W0, hW0⟩ : ∃ W0, w.heap.size = W0 := ⟨_, rfl⟩
  obtain ⟨R, hR⟩ : ∃ R, W0 + 1 = R := ⟨_, rfl⟩
  obtain ⟨w2, hw2⟩ : ∃ w2, (w.alloc (.cells #[.slice h.pa s.prog.length h.pc, .slice h.ga s.gs.length h.gc, .slice h.qa s.ps.length h.qc, .slice h.ma s.ms.length h.mc, .slice h.la s.glob.length h.lc, .int .i64 s.c0, .int .i64 s.c1, .int .i64 s.c2, .int .i64 s.c3, .slice h.a0 s.w0.length h.k0, .slice h.a1 s.w1.length h.k1, .slice h.a2 s.w2.length h.k2, .slice h.a3 s.w3.length h.k3, .slice h.ta s.timers.length h.tc, .int .i64 s.clock, .int .i64 s.procs] 32)).alloc (.cells #[.slice none 0 0, .slice none 0 0, .slice none 0 0, .slice none 0 0, .slice none 0 0, .int .i64 0, .int .i64 0, .int .i64 0, .int .i64 0, .slice none 0 0, .slice none 0 0, .slice none 0 0, .slice none 0 0, .slice none 0 0, .int .i64 0, .int .i64 0] 32) = w2 := ⟨_, rfl⟩
  have HX1 : Hid (Ext w w2) := Lib.hid (by rw [← hw2]; exact ((Ext.refl w).alloc _).alloc _)
  have HB1 : Hid (w2.heap[W0]? = some (.cells (stC h s) 32 (0, 0))) := Lib.hid (by rw [← hw2, ← hW0]; exact blk_alloc (blk_new w _) _)
  have HR1 : Hid (w2.heap[R]? = some (.cells #[.slice none 0 0, .slice none 0 0, .slice none 0 0, .slice none 0 0, .slice none 0 0, .int .i64 0, .int .i64 0, .int .i64 0, .int .i64 0, .slice none 0 0, .slice none 0 0, .slice none 0 0, .slice none 0 0, .slice none 0 0, .int .i64 0, .int .i64 0] 32 (0, 0))) := Lib.hid (by
    have := blk_new (w.alloc (.cells #[.slice h.pa s.prog.length h.pc, .slice h.ga s.gs.length h.gc, .slice h.qa s.ps.length h.qc, .slice h.ma s.ms.length h.mc, .slice h.la s.glob.length h.lc, .int .i64 s.c0, .int .i64 s.c1, .int .i64 s.c2, .int .i64 s.c3, .slice h.a0 s.w0.length h.k0, .slice h.a1 s.w1.length h.k1, .slice h.a2 s.w2.length h.k2, .slice h.a3 s.w3.length h.k3, .slice h.ta s.timers.length h.tc, .int .i64 s.clock, .int .i64 s.procs] 32)) (.cells #[.slice none 0 0, .slice none 0 0, .slice none 0 0, .slice none 0 0, .slice none 0 0, .int .i64 0, .int .i64 0, .int .i64 0, .int .i64 0, .slice none 0 0, .slice none 0 0, .slice none 0 0, .slice none 0 0, .slice none 0 0, .int .i64 0, .int .i64 0] 32)
    rw [hw2, World.size_alloc, hW0, hR] at this
    exact this)
  have HRR := Lib.hid hR
  have HW0 := Lib.hid hW0
  have HW2 := Lib.hid hw2
  have HK1 := Lib.hid (hk.ext HX1.out)
  clear hk hf hw2 hW0 hR
  obtain ⟨PQ, hPQ⟩ : ∃ PQ : Ending → World → Prop, PQ = StTail w h s (s.tail p g) := ⟨_, rfl⟩
  rw [← hPQ]
  have HPQ := Lib.hid hPQ
  clear hPQ
  unfold stV
  go_enter Try.func26, Try.ntmps26
  go_upto_region 1 with fail
  rw [HW2.out, HW0.out, HRR.out]
  generalize Value.agg #[.slice h.pa s.prog.length h.pc, .slice h.ga s.gs.length h.gc, .slice h.qa s.ps.length h.qc, .slice h.ma s.ms.length h.mc, .slice h.la s.glob.length h.lc, .int .i64 s.c0, .int .i64 s.c1, .int .i64 s.c2, .int .i64 s.c3, .slice h.a0 s.w0.length h.k0, .slice h.a1 s.w1.length h.k1, .slice h.a2 s.w2.length h.k2, .slice h.a3 s.w3.length h.k3, .slice h.ta s.timers.length h.tc, .int .i64 s.clock, .int .i64 s.procs] = sv0
  have q2 := st2 HB1.out
  by_cases a1 : p < 1
  · have HE : Hid (s.tail p g = s) := Lib.hid (St.tail_no (by omega))
    obtain ⟨wf, hwf⟩ : ∃ wf, w2.setCells R 0 (stL h s) = wf := ⟨_, rfl⟩
    have HWF := Lib.hid hwf
    have HFR : Hid (wf.heap[R]? = some (.cells (stL h s).toArray 32 (0, 0))) := Lib.hid (by rw [← hwf]; exact setCells_at [.slice none 0 0, .slice none 0 0, .slice none 0 0, .slice none 0 0, .slice none 0 0, .int .i64 0, .int .i64 0, .int .i64 0, .int .i64 0, .slice none 0 0, .slice none 0 0, .slice none 0 0, .slice none 0 0, .slice none 0 0, .int .i64 0, .int .i64 0] (stL h s) rfl HR1.out)
    have HXF : Hid (Ext w wf) := Lib.hid (by rw [← hwf]; exact (HX1.out).upd (setCells_upd _ _ _ _) (by have := HRR.out; have := HW0.out; omega))
    have HKF : Hid (StOk wf h s) := Lib.hid (HKW.out.ext HXF.out)
    have HTR : Hid (w2.there R 0 (stL h s).length) := Lib.hid (there_row HR1.out (Nat.le_refl 16))
    clear hwf
    go_wp2_with (first | (refine wpList_load_rowW (by rfl) 32 _ rfl W0 (by go_simp) (stL h s) (stV h s) rfl _ (range_row HB1.out) Try.underlying32 rfl (by kernel_rfl) ?_) | (refine wpList_store_row rfl 32 _ _ rfl R (stL h s) (stV h s) (by go_simp) (by go_simp) rfl HTR.out (by kernel_rfl) (stL_one _ _) HWF.out ?_))
    refine bodyPost_ret (v := .agg (stL h s).toArray) (results_cell_row rfl _ _ R _ _ _ _ rfl HFR.out Try.underlying32 rfl (by kernel_rfl)) rfl ?_
    rw [HPQ.out]
    show StTail w _ _ _ _ _
    rw [HE.out]
    exact ⟨h, rfl, HKF.out, HXF.out, .inl ⟨rfl, rfl⟩⟩
  by_cases a2 : (s.ps.length : Int) < p
  · have HE : Hid (s.tail p g = s) := Lib.hid (St.tail_no (by omega))
    obtain ⟨wf, hwf⟩ : ∃ wf, w2.setCells R 0 (stL h s) = wf := ⟨_, rfl⟩
    have HWF := Lib.hid hwf
    have HFR : Hid (wf.heap[R]? = some (.cells (stL h s).toArray 32 (0, 0))) := Lib.hid (by rw [← hwf]; exact setCells_at [.slice none 0 0, .slice none 0 0, .slice none 0 0, .slice none 0 0, .slice none 0 0, .int .i64 0, .int .i64 0, .int .i64 0, .int .i64 0, .slice none 0 0, .slice none 0 0, .slice none 0 0, .slice none 0 0, .slice none 0 0, .int .i64 0, .int .i64 0] (stL h s) rfl HR1.out)
    have HXF : Hid (Ext w wf) := Lib.hid (by rw [← hwf]; exact (HX1.out).upd (setCells_upd _ _ _ _) (by have := HRR.out; have := HW0.out; omega))
    have HKF : Hid (StOk wf h s) := Lib.hid (HKW.out.ext HXF.out)
    have HTR : Hid (w2.there R 0 (stL h s).length) := Lib.hid (there_row HR1.out (Nat.le_refl 16))
    clear hwf
    go_wp2_with (first | (refine wpList_load_rowW (by rfl) 32 _ rfl W0 (by go_simp) (stL h s) (stV h s) rfl _ (range_row HB1.out) Try.underlying32 rfl (by kernel_rfl) ?_) | (refine wpList_store_row rfl 32 _ _ rfl R (stL h s) (stV h s) (by go_simp) (by go_simp) rfl HTR.out (by kernel_rfl) (stL_one _ _) HWF.out ?_))
    refine bodyPost_ret (v := .agg (stL h s).toArray) (results_cell_row rfl _ _ R _ _ _ _ rfl HFR.out Try.underlying32 rfl (by kernel_rfl)) rfl ?_
    rw [HPQ.out]
    show StTail w _ _ _ _ _
    rw [HE.out]
    exact ⟨h, rfl, HKF.out, HXF.out, .inl ⟨rfl, rfl⟩⟩
  by_cases a3 : g < 1
  · have HE : Hid (s.tail p g = s) := Lib.hid (St.tail_no (by omega))
    obtain ⟨wf, hwf⟩ : ∃ wf, w2.setCells R 0 (stL h s) = wf := ⟨_, rfl⟩
    have HWF := Lib.hid hwf
    have HFR : Hid (wf.heap[R]? = some (.cells (stL h s).toArray 32 (0, 0))) := Lib.hid (by rw [← hwf]; exact setCells_at [.slice none 0 0, .slice none 0 0, .slice none 0 0, .slice none 0 0, .slice none 0 0, .int .i64 0, .int .i64 0, .int .i64 0, .int .i64 0, .slice none 0 0, .slice none 0 0, .slice none 0 0, .slice none 0 0, .slice none 0 0, .int .i64 0, .int .i64 0] (stL h s) rfl HR1.out)
    have HXF : Hid (Ext w wf) := Lib.hid (by rw [← hwf]; exact (HX1.out).upd (setCells_upd _ _ _ _) (by have := HRR.out; have := HW0.out; omega))
    have HKF : Hid (StOk wf h s) := Lib.hid (HKW.out.ext HXF.out)
    have HTR : Hid (w2.there R 0 (stL h s).length) := Lib.hid (there_row HR1.out (Nat.le_refl 16))
    clear hwf
    go_wp2_with (first | (refine wpList_load_rowW (by rfl) 32 _ rfl W0 (by go_simp) (stL h s) (stV h s) rfl _ (range_row HB1.out) Try.underlying32 rfl (by kernel_rfl) ?_) | (refine wpList_store_row rfl 32 _ _ rfl R (stL h s) (stV h s) (by go_simp) (by go_simp) rfl HTR.out (by kernel_rfl) (stL_one _ _) HWF.out ?_))
    refine bodyPost_ret (v := .agg (stL h s).toArray) (results_cell_row rfl _ _ R _ _ _ _ rfl HFR.out Try.underlying32 rfl (by kernel_rfl)) rfl ?_
    rw [HPQ.out]
    show StTail w _ _ _ _ _
    rw [HE.out]
    exact ⟨h, rfl, HKF.out, HXF.out, .inl ⟨rfl, rfl⟩⟩
  obtain ⟨i, rfl⟩ : ∃ i : Nat, p = (i : Int) + 1 := ⟨(p - 1).toNat, by omega⟩
  obtain ⟨x, hp⟩ : ∃ x, s.ps[i]? = some x := ⟨_, List.getElem?_eq_getElem (by omega)⟩
  have hb8 := HK.out.buf _ (List.mem_of_getElem? hp)
  obtain ⟨m, nx, r0, sq⟩ := x
  obtain ⟨b0, b1, b2, b3, b4, b5, b6, b7, hd, nn, rfl⟩ := Ri.open8 hb8
  have HG1 : Hid (1 ≤ g) := Lib.hid (by omega)
  have HP := Lib.hid hp
  have HIL : Hid (i < s.ps.length) := Lib.hid (by omega)
  have e1 : (i : Int) + 1 - 1 = (i : Int) := by omega
  have e4 : (i : Int) < (s.ps.length : Int) := by omega
  have e5 : (i : Int) < 100000 := by have := HF.out.ps; omega
  have d1 : decide ((i : Int) + 1 < 1) = false := decide_eq_false (by omega)
  have d2 : decide ((s.ps.length : Int) < (i : Int) + 1) = false := decide_eq_false (by omega)
  have d3 : decide (g < 1) = false := decide_eq_false (by omega)
  obtain ⟨bq, oq, hqa, hqb, hqc⟩ := (HK1.out.ps).get hp
  have HRG : Hid (w2.rangeAt bq (oq + i * 13) (pL ⟨m, nx, ⟨[b0, b1, b2, b3, b4, b5, b6, b7], hd, nn⟩, sq⟩)) := Lib.hid (fun j u hu => hqc j u hu)
  rw [hqa] at q2
  obtain ⟨pv, hpv⟩ : ∃ pv, Value.agg #[.int .i64 m, .int .i64 nx, .int .i64 b0, .int .i64 b1, .int .i64 b2, .int .i64 b3, .int .i64 b4, .int .i64 b5, .int .i64 b6, .int .i64 b7, .int .i64 hd, .int .i64 nn, .int .i64 sq] = pv := ⟨_, rfl⟩
  obtain ⟨wc, hwc⟩ : ∃ wc, w2.alloc (.cells #[.int .i64 0, .int .i64 0, .int .i64 0, .int .i64 0, .int .i64 0, .int .i64 0, .int .i64 0, .int .i64 0, .int .i64 0, .int .i64 0, .int .i64 0, .int .i64 0, .int .i64 0] 40) = wc := ⟨_, rfl⟩
  obtain ⟨BP, hBP⟩ : ∃ BP, w2.heap.size = BP := ⟨_, rfl⟩
  obtain ⟨wd, hwd⟩ : ∃ wd, wc.setCells BP 0 (pL ⟨m, nx, ⟨[b0, b1, b2, b3, b4, b5, b6, b7], hd, nn⟩, sq⟩) = wd := ⟨_, rfl⟩
  have hbc : wc.heap[BP]? = some (.cells #[.int .i64 0, .int .i64 0, .int .i64 0, .int .i64 0, .int .i64 0, .int .i64 0, .int .i64 0, .int .i64 0, .int .i64 0, .int .i64 0, .int .i64 0, .int .i64 0, .int .i64 0] 40 (0, 0)) := by rw [← hwc, ← hBP]; exact blk_new w2 _
  have HTP : Hid (wc.there BP 0 (pL ⟨m, nx, ⟨[b0, b1, b2, b3, b4, b5, b6, b7], hd, nn⟩, sq⟩).length) := Lib.hid (there_row hbc (by rw [pL_len]; exact Nat.le_refl 13))
  have HBD : Hid (wd.heap[BP]? = some (.cells (pL ⟨m, nx, ⟨[b0, b1, b2, b3, b4, b5, b6, b7], hd, nn⟩, sq⟩).toArray 40 (0, 0))) := Lib.hid (by rw [← hwd]; exact setCells_at [.int .i64 0, .int .i64 0, .int .i64 0, .int .i64 0, .int .i64 0, .int .i64 0, .int .i64 0, .int .i64 0, .int .i64 0, .int .i64 0, .int .i64 0, .int .i64 0, .int .i64 0] (pL ⟨m, nx, ⟨[b0, b1, b2, b3, b4, b5, b6, b7], hd, nn⟩, sq⟩) (by rw [pL_len]; rfl) hbc)
  have HXD : Hid (Ext w2 wd) := Lib.hid (by rw [← hwd]; exact Ext.upd (a := w2) (by rw [← hwc]; exact (Ext.refl _).alloc _) (setCells_upd _ _ _ _) (by omega))
  have HPV := Lib.hid hpv
  have HWC := Lib.hid hwc
  have HBPP := Lib.hid hBP
  have HWD := Lib.hid hwd
  clear hb8 hp hqa hqb hqc hpv hwc hBP hwd hbc a1 a2 a3
  go_upto_if 24 with fail
  go_upto_region 4 with (first | rw [HWC.out, HBPP.out] | (refine wpList_load_rowM (by rfl) 40 _ rfl bq (oq + i * 13) (by go_simp) (pL ⟨m, nx, ⟨[b0, b1, b2, b3, b4, b5, b6, b7], hd, nn⟩, sq⟩) pv HPV.out.symm _ (HRG.out) Try.underlying40 rfl (by first | kernel_rfl | (rw [pL_len]; kernel_rfl)) ?_) | (refine wpList_store_rowM rfl 40 _ _ rfl BP 0 (pL ⟨m, nx, ⟨[b0, b1, b2, b3, b4, b5, b6, b7], hd, nn⟩, sq⟩) pv (by go_simp) (by go_simp) HPV.out.symm HTP.out (by first | kernel_rfl | (rw [pL_len]; kernel_rfl)) (pL_one _) HWD.out ?_))
  clear q2 e1 e4 e5 d1 d2 d3
  obtain ⟨rv, hrv⟩ : ∃ rv, Value.agg #[.int .i64 b0, .int .i64 b1, .int .i64 b2, .int .i64 b3, .int .i64 b4, .int .i64 b5, .int .i64 b6, .int .i64 b7, .int .i64 hd, .int .i64 nn] = rv := ⟨_, rfl⟩
  have HRV := Lib.hid hrv
  have HRG4 := Lib.hid (range_ring (range_row HBD.out))
  have HBE1 := Lib.hid (HXD.out.blk HB1.out)
  have HRE1 := Lib.hid (HXD.out.blk HR1.out)
  have HXE1 := Lib.hid (HX1.out.trans HXD.out)
  clear hrv
  go_wp2_with (refine wpList_load_rowM (by rfl) 38 _ rfl BP 2 (by go_simp) (rL ⟨[b0, b1, b2, b3, b4, b5, b6, b7], hd, nn⟩) rv HRV.out.symm _ (HRG4.out) Try.underlying38 rfl (by first | kernel_rfl | (rw [pL_len]; kernel_rfl)) ?_)
  rw [← HRV.out]
  refine (rrmay_k b0 b1 b2 b3 b4 b5 b6 b7 hd nn _ rfl _).mono ?_
  rintro e w5 ⟨rfl, hx5⟩
  have HX5 := Lib.hid hx5
  clear hx5
  cases bm : Ri.may ⟨[b0, b1, b2, b3, b4, b5, b6, b7], hd, nn⟩ with
  | false =>
    have HE : Hid (s.tail ((i : Int) + 1) g = s) := Lib.hid (St.tail_no (by rw [St.pAt_of HP.out]; simp [bm]))
    have HRE := Lib.hid (HX5.out.blk HRE1.out)
    have HBE := Lib.hid (HX5.out.blk HBE1.out)
    have HXE := Lib.hid (HXE1.out.trans HX5.out)
    clear bm
    obtain ⟨wf, hwf⟩ : ∃ wf, w5.setCells R 0 (stL h s) = wf := ⟨_, rfl⟩
    have HWF := Lib.hid hwf
    have HFR : Hid (wf.heap[R]? = some (.cells (stL h s).toArray 32 (0, 0))) := Lib.hid (by rw [← hwf]; exact setCells_at [.slice none 0 0, .slice none 0 0, .slice none 0 0, .slice none 0 0, .slice none 0 0, .int .i64 0, .int .i64 0, .int .i64 0, .int .i64 0, .slice none 0 0, .slice none 0 0, .slice none 0 0, .slice none 0 0, .slice none 0 0, .int .i64 0, .int .i64 0] (stL h s) rfl HRE.out)
    have HXF : Hid (Ext w wf) := Lib.hid (by rw [← hwf]; exact (HXE.out).upd (setCells_upd _ _ _ _) (by have := HRR.out; have := HW0.out; omega))
    have HKF : Hid (StOk wf h s) := Lib.hid (HKW.out.ext HXF.out)
    have HTR : Hid (w5.there R 0 (stL h s).length) := Lib.hid (there_row HRE.out (Nat.le_refl 16))
    clear hwf
    go_wp2_with (first | (refine wpList_load_rowW (by rfl) 32 _ rfl W0 (by go_simp) (stL h s) (stV h s) rfl _ (range_row HBE.out) Try.underlying32 rfl (by kernel_rfl) ?_) | (refine wpList_store_row rfl 32 _ _ rfl R (stL h s) (stV h s) (by go_simp) (by go_simp) rfl HTR.out (by kernel_rfl) (stL_one _ _) HWF.out ?_))
    refine bodyPost_ret (v := .agg (stL h s).toArray) (results_cell_row rfl _ _ R _ _ _ _ rfl HFR.out Try.underlying32 rfl (by kernel_rfl)) rfl ?_
    rw [HPQ.out]
    show StTail w _ _ _ _ _
    rw [HE.out]
    exact ⟨h, rfl, HKF.out, HXF.out, .inl ⟨rfl, rfl⟩⟩
  | true =>
    have HBM := Lib.hid bm
    have HBD5 := Lib.hid (HX5.out.blk HBD.out)
    have HRG5 := Lib.hid (range_ring (range_row HBD5.out))
    clear bm
    go_wp2_with (refine wpList_load_rowM (by rfl) 38 _ rfl BP 2 (by go_simp) (rL ⟨[b0, b1, b2, b3, b4, b5, b6, b7], hd, nn⟩) rv HRV.out.symm _ (HRG5.out) Try.underlying38 rfl (by first | kernel_rfl | (rw [pL_len]; kernel_rfl)) ?_)
    obtain ⟨⟨r1, ok⟩, hpush⟩ : ∃ q, Ri.push ⟨[b0, b1, b2, b3, b4, b5, b6, b7], hd, nn⟩ g = q := ⟨_, rfl⟩
    have hl1 := Ri.push_len (r := ⟨[b0, b1, b2, b3, b4, b5, b6, b7], hd, nn⟩) (g := g) rfl
    rw [hpush] at hl1
    obtain ⟨c0, c1, c2, c3, c4, c5, c6, c7, hd1, nn1, rfl⟩ := Ri.open8 hl1
    rw [← HRV.out]
    refine (r9push_any b0 b1 b2 b3 b4 b5 b6 b7 hd nn g _ ok hpush w5).mono ?_
    rintro e w6 ⟨rfl, hx6⟩
    have HX6 := Lib.hid (HX5.out.trans hx6)
    have HPU := Lib.hid hpush
    clear hpush hl1 hx6
    obtain ⟨BX6, hBX⟩ : ∃ BX6, w6.heap.size = BX6 := ⟨_, rfl⟩
    obtain ⟨va6, vb6, hva, hvb, hth, hbx, hxb⟩ := ring_box w6 (r := ⟨[c0, c1, c2, c3, c4, c5, c6, c7], hd1, nn1⟩) rfl
    rw [hBX] at hvb hth hbx
    have HBX6 := Lib.hid hBX
    have HVA6 := Lib.hid hva
    have HVB6 := Lib.hid hvb
    have HTA6 := Lib.hid hth
    have HBR6 := Lib.hid hbx
    have HXB6 := Lib.hid hxb
    have HGB6 := Lib.hid (range_row hbx)
    obtain ⟨rv6, hrv⟩ : ∃ rv6, Value.agg (rL ⟨[c0, c1, c2, c3, c4, c5, c6, c7], hd1, nn1⟩).toArray = rv6 := ⟨_, rfl⟩
    have HRV6 := Lib.hid hrv
    rw [hrv]
    clear hBX hva hvb hth hbx hxb hrv
    go_upto_region 7 with (first | rw [HVA6.out, HBX6.out] | (refine wpList_store_rowM rfl 38 _ _ rfl BX6 0 (rL ⟨[c0, c1, c2, c3, c4, c5, c6, c7], hd1, nn1⟩) rv6 (by go_simp) (by go_simp) HRV6.out.symm HTA6.out (by first | kernel_rfl | (rw [pL_len]; kernel_rfl)) (rL_one _) HVB6.out ?_))
    have HX7 := Lib.hid (HX6.out.trans HXB6.out)
    have HXW7 := Lib.hid (HXE1.out.trans HX7.out)
    have HBD7 := Lib.hid (HX7.out.blk HBD.out)
    have HBE7 := Lib.hid (HX7.out.blk HBE1.out)
    have HRE7 := Lib.hid (HX7.out.blk HRE1.out)
    cases ok with
    | true =>
      obtain ⟨wg8, hwg⟩ : ∃ wg8, vb6.setCells BP 2 (rL ⟨[c0, c1, c2, c3, c4, c5, c6, c7], hd1, nn1⟩) = wg8 := ⟨_, rfl⟩
      have HTP8 : Hid (vb6.there BP 2 (rL ⟨[c0, c1, c2, c3, c4, c5, c6, c7], hd1, nn1⟩).length) := Lib.hid (there_at (HBD7.out) (by rw [List.size_toArray, pL_len, rL_len rfl]; decide))
      have HBG8 : Hid (wg8.heap[BP]? = some (.cells (pL ⟨m, nx, ⟨[c0, c1, c2, c3, c4, c5, c6, c7], hd1, nn1⟩, sq⟩).toArray 40 (0, 0))) := Lib.hid (by rw [← hwg]; exact box_ring (x := ⟨m, nx, ⟨[b0, b1, b2, b3, b4, b5, b6, b7], hd, nn⟩, sq⟩) (r := ⟨[c0, c1, c2, c3, c4, c5, c6, c7], hd1, nn1⟩) rfl rfl (HBD7.out))
      have HUG8 : Hid (Upd BP vb6 wg8) := Lib.hid (by rw [← hwg]; exact setCells_upd _ _ _ _)
      have HWG8 := Lib.hid hwg
      obtain ⟨pv8, hpv⟩ : ∃ pv8, Value.agg (pL ⟨m, nx, ⟨[c0, c1, c2, c3, c4, c5, c6, c7], hd1, nn1⟩, sq⟩).toArray = pv8 := ⟨_, rfl⟩
      have HPV8 := Lib.hid hpv
      clear hwg hpv
      have HXG : Hid (Ext w2 wg8) := Lib.hid ((HXD.out.trans HX7.out).upd HUG8.out (by have := HBPP.out; omega))
      have HSET := Lib.hid (rSetP_in h s i m nx c0 c1 c2 c3 c4 c5 c6 c7 hd1 nn1 sq wg8 (HK1.out.ext HXG.out) HF.out HIL.out)
      rw [show Value.agg #[.int .i64 m, .int .i64 nx, .int .i64 c0, .int .i64 c1, .int .i64 c2, .int .i64 c3, .int .i64 c4, .int .i64 c5, .int .i64 c6, .int .i64 c7, .int .i64 hd1, .int .i64 nn1, .int .i64 sq] = pv8 from HPV8.out] at HSET
      have HBS := Lib.hid (HXG.out.blk HB1.out)
      have HRS := Lib.hid (HXG.out.blk HR1.out)
      have HE := Lib.hid (St.tail_push HP.out HG1.out HBM.out HPU.out)
      go_wp2_with (first | (refine wpList_load_rowM (by rfl) 38 _ rfl BX6 0 (by go_simp) (rL ⟨[c0, c1, c2, c3, c4, c5, c6, c7], hd1, nn1⟩) rv6 HRV6.out.symm _ (HGB6.out) Try.underlying38 rfl (by first | kernel_rfl | (rw [pL_len]; kernel_rfl)) ?_) | (refine wpList_store_rowM rfl 38 _ _ rfl BP 2 (rL ⟨[c0, c1, c2, c3, c4, c5, c6, c7], hd1, nn1⟩) rv6 (by go_simp) (by go_simp) HRV6.out.symm HTP8.out (by first | kernel_rfl | (rw [pL_len]; kernel_rfl)) (rL_one _) HWG8.out ?_) | (refine wpList_load_rowW (by rfl) 32 _ rfl W0 (by go_simp) (stL h s) (stV h s) rfl _ (range_row HBS.out) Try.underlying32 rfl (by kernel_rfl) ?_) | (refine wpList_load_rowM (by rfl) 40 _ rfl BP 0 (by go_simp) (pL ⟨m, nx, ⟨[c0, c1, c2, c3, c4, c5, c6, c7], hd1, nn1⟩, sq⟩) pv8 HPV8.out.symm _ (range_row HBG8.out) Try.underlying40 rfl (by first | kernel_rfl | (rw [pL_len]; kernel_rfl)) ?_))
      refine HSET.out.mono ?_
      rintro e w9 ⟨h1, I, rfl, ho, hx⟩
      obtain ⟨s', hs'⟩ : ∃ s' : St, { s with ps := s.ps.set i ⟨m, nx, ⟨[c0, c1, c2, c3, c4, c5, c6, c7], hd1, nn1⟩, sq⟩ } = s' := ⟨_, rfl⟩
      have hbuf : ∀ p ∈ s'.ps, p.ring.buf.length = 8 := by
        rw [← hs']
        intro p hp
        rcases List.mem_or_eq_of_mem_set hp with hp | rfl
        · exact HK.out.buf p hp
        · rfl
      rw [hs'] at ho HE ⊢
      obtain ⟨wf, hwf⟩ : ∃ wf, w9.setCells R 0 (stL h1 s') = wf := ⟨_, rfl⟩
      have hr9 := hx.blk HRS.out
      have hu := setCells_upd R (stL h1 s') w9 0
      have HFR : Hid (wf.heap[R]? = some (.cells (stL h1 s').toArray 32 (0, 0))) := Lib.hid (by rw [← hwf]; exact setCells_at [.slice none 0 0, .slice none 0 0, .slice none 0 0, .slice none 0 0, .slice none 0 0, .int .i64 0, .int .i64 0, .int .i64 0, .int .i64 0, .slice none 0 0, .slice none 0 0, .slice none 0 0, .slice none 0 0, .slice none 0 0, .int .i64 0, .int .i64 0] (stL h1 s') rfl hr9)
      have HTR : Hid (w9.there R 0 (stL h1 s').length) := Lib.hid (there_row hr9 (Nat.le_refl 16))
      have HXF : Hid (Ext w wf) := Lib.hid (by rw [← hwf]; exact ((HX1.out.trans HXG.out).trans hx).upd hu (by have := HRR.out; have := HW0.out; omega))
      have HAF : Hid (∃ I, StApart w.heap.size wf I h1 s') := Lib.hid (by
        rw [← hwf]
        have hlt := blk_lt HRS.out
        exact ⟨I, (ho.far (But.upd (S := fun b => b = R) hu rfl) (fun b hb => by omega)).lower (HX1.out.trans HXG.out).size⟩)
      have HKF : Hid (StOk wf h1 s') := Lib.hid (by obtain ⟨I, hI⟩ := HAF.out; exact hI.ok hbuf)
      have HWF := Lib.hid hwf
      clear ho hx hs' hbuf hwf hr9 hu
      go_wp2_with (refine wpList_store_row rfl 32 _ _ rfl R (stL h1 s') (stV h1 s') (by go_simp) (by go_simp) rfl HTR.out (by kernel_rfl) (stL_one _ _) HWF.out ?_)
      refine bodyPost_ret (v := .agg (stL h1 s').toArray) (results_cell_row rfl _ _ R _ _ _ _ rfl HFR.out Try.underlying32 rfl (by kernel_rfl)) rfl ?_
      rw [HPQ.out]
      show StTail w _ _ _ _ _
      rw [HE.out]
      exact ⟨h1, rfl, HKF.out, HXF.out, .inr HAF.out⟩
    | false =>
      obtain ⟨⟨r2, o⟩, hhalf⟩ : ∃ q, Ri.half ⟨[b0, b1, b2, b3, b4, b5, b6, b7], hd, nn⟩ = q := ⟨_, rfl⟩
      have hl2 := Ri.half_len (r := ⟨[b0, b1, b2, b3, b4, b5, b6, b7], hd, nn⟩) rfl
      rw [hhalf] at hl2
      obtain ⟨d0, d1, d2, d3, d4, d5, d6, d7, hd2, nn2, rfl⟩ := Ri.open8 hl2
      have HHA := Lib.hid hhalf
      have HOL : Hid (o.length ≤ 8) := Lib.hid (by have := Ri.half_olen (r := ⟨[b0, b1, b2, b3, b4, b5, b6, b7], hd, nn⟩) HBM.out; rwa [hhalf] at this)
      have HRG7 := Lib.hid (range_ring (range_row HBD7.out))
      clear hl2 hhalf
      go_wp2_with (refine wpList_load_rowM (by rfl) 38 _ rfl BP 2 (by go_simp) (rL ⟨[b0, b1, b2, b3, b4, b5, b6, b7], hd, nn⟩) rv HRV.out.symm _ (HRG7.out) Try.underlying38 rfl (by first | kernel_rfl | (rw [pL_len]; kernel_rfl)) ?_)
      rw [← HRV.out]
      refine (r9half_any b0 b1 b2 b3 b4 b5 b6 b7 hd nn _ o HHA.out vb6).mono ?_
      rintro e w9 ⟨Ao, co, rfl, hio, hx9⟩
      have HIO9 := Lib.hid hio
      have HX9 := Lib.hid (HX7.out.trans hx9)
      have HBPL : Hid (BP < vb6.heap.size) := Lib.hid (blk_lt HBD7.out)
      clear hio hx9
      obtain ⟨BX10, hBX⟩ : ∃ BX10, w9.heap.size = BX10 := ⟨_, rfl⟩
      obtain ⟨va10, vb10, hva, hvb, hth, hbx, hxb⟩ := ring_box w9 (r := ⟨[d0, d1, d2, d3, d4, d5, d6, d7], hd2, nn2⟩) rfl
      rw [hBX] at hvb hth hbx
      have HBX10 := Lib.hid hBX
      have HVA10 := Lib.hid hva
      have HVB10 := Lib.hid hvb
      have HTA10 := Lib.hid hth
      have HBR10 := Lib.hid hbx
      have HXB10 := Lib.hid hxb
      have HGB10 := Lib.hid (range_row hbx)
      obtain ⟨rv10, hrv⟩ : ∃ rv10, Value.agg (rL ⟨[d0, d1, d2, d3, d4, d5, d6, d7], hd2, nn2⟩).toArray = rv10 := ⟨_, rfl⟩
      have HRV10 := Lib.hid hrv
      rw [hrv]
      clear hBX hva hvb hth hbx hxb hrv
      go_upto_region 11 with (first | rw [HVA10.out, HBX10.out] | (refine wpList_store_rowM rfl 38 _ _ rfl BX10 0 (rL ⟨[d0, d1, d2, d3, d4, d5, d6, d7], hd2, nn2⟩) rv10 (by go_simp) (by go_simp) HRV10.out.symm HTA10.out (by first | kernel_rfl | (rw [pL_len]; kernel_rfl)) (rL_one _) HVB10.out ?_))
      have HX10 := Lib.hid (HX9.out.trans HXB10.out)
      have HBD10 := Lib.hid (HX10.out.blk HBD.out)
      have HIO10 := Lib.hid (HIO9.out.ext HXB10.out)
      obtain ⟨wg11, hwg⟩ : ∃ wg11, vb10.setCells BP 2 (rL ⟨[d0, d1, d2, d3, d4, d5, d6, d7], hd2, nn2⟩) = wg11 := ⟨_, rfl⟩
      have HTP11 : Hid (vb10.there BP 2 (rL ⟨[d0, d1, d2, d3, d4, d5, d6, d7], hd2, nn2⟩).length) := Lib.hid (there_at (HBD10.out) (by rw [List.size_toArray, pL_len, rL_len rfl]; decide))
      have HBG11 : Hid (wg11.heap[BP]? = some (.cells (pL ⟨m, nx, ⟨[d0, d1, d2, d3, d4, d5, d6, d7], hd2, nn2⟩, sq⟩).toArray 40 (0, 0))) := Lib.hid (by rw [← hwg]; exact box_ring (x := ⟨m, nx, ⟨[b0, b1, b2, b3, b4, b5, b6, b7], hd, nn⟩, sq⟩) (r := ⟨[d0, d1, d2, d3, d4, d5, d6, d7], hd2, nn2⟩) rfl rfl (HBD10.out))
      have HUG11 : Hid (Upd BP vb10 wg11) := Lib.hid (by rw [← hwg]; exact setCells_upd _ _ _ _)
      have HWG11 := Lib.hid hwg
      obtain ⟨pv11, hpv⟩ : ∃ pv11, Value.agg (pL ⟨m, nx, ⟨[d0, d1, d2, d3, d4, d5, d6, d7], hd2, nn2⟩, sq⟩).toArray = pv11 := ⟨_, rfl⟩
      have HPV11 := Lib.hid hpv
      clear hwg hpv
      have HXG : Hid (Ext w2 wg11) := Lib.hid ((HXD.out.trans HX10.out).upd HUG11.out (by have := HBPP.out; omega))
      have HIO11 := Lib.hid (HIO10.out.updB HUG11.out HBPL.out)
      have HSET := Lib.hid (rSetP_in h s i m nx d0 d1 d2 d3 d4 d5 d6 d7 hd2 nn2 sq wg11 (HK1.out.ext HXG.out) HF.out HIL.out)
      rw [show Value.agg #[.int .i64 m, .int .i64 nx, .int .i64 d0, .int .i64 d1, .int .i64 d2, .int .i64 d3, .int .i64 d4, .int .i64 d5, .int .i64 d6, .int .i64 d7, .int .i64 hd2, .int .i64 nn2, .int .i64 sq] = pv11 from HPV11.out] at HSET
      have HBS := Lib.hid (HXG.out.blk HB1.out)
      have HRS := Lib.hid (HXG.out.blk HR1.out)
      have HXW := Lib.hid (HX1.out.trans HXG.out)
      have HE := Lib.hid (St.tail_half HP.out HG1.out HBM.out HPU.out HHA.out)
      go_wp2_with (first | (refine wpList_load_rowM (by rfl) 38 _ rfl BX10 0 (by go_simp) (rL ⟨[d0, d1, d2, d3, d4, d5, d6, d7], hd2, nn2⟩) rv10 HRV10.out.symm _ (HGB10.out) Try.underlying38 rfl (by first | kernel_rfl | (rw [pL_len]; kernel_rfl)) ?_) | (refine wpList_store_rowM rfl 38 _ _ rfl BP 2 (rL ⟨[d0, d1, d2, d3, d4, d5, d6, d7], hd2, nn2⟩) rv10 (by go_simp) (by go_simp) HRV10.out.symm HTP11.out (by first | kernel_rfl | (rw [pL_len]; kernel_rfl)) (rL_one _) HWG11.out ?_) | (refine wpList_load_rowW (by rfl) 32 _ rfl W0 (by go_simp) (stL h s) (stV h s) rfl _ (range_row HBS.out) Try.underlying32 rfl (by kernel_rfl) ?_) | (refine wpList_load_rowM (by rfl) 40 _ rfl BP 0 (by go_simp) (pL ⟨m, nx, ⟨[d0, d1, d2, d3, d4, d5, d6, d7], hd2, nn2⟩, sq⟩) pv11 HPV11.out.symm _ (range_row HBG11.out) Try.underlying40 rfl (by first | kernel_rfl | (rw [pL_len]; kernel_rfl)) ?_))
      refine HSET.out.mono ?_
      rintro e w12 ⟨h1, I, rfl, ho, hx⟩
      obtain ⟨s1, hs1⟩ : ∃ s1 : St, { s with ps := s.ps.set i ⟨m, nx, ⟨[d0, d1, d2, d3, d4, d5, d6, d7], hd2, nn2⟩, sq⟩ } = s1 := ⟨_, rfl⟩
      rw [hs1] at ho ⊢
      have HG1 : Hid (s1.glob = s.glob) := Lib.hid (by rw [← hs1])
      have HBF : Hid (∀ gl, ∀ p ∈ ({ s1 with glob := gl } : St).ps, p.ring.buf.length = 8) := Lib.hid (by
        rw [← hs1]
        intro gl p hp
        rcases List.mem_or_eq_of_mem_set hp with hp | rfl
        · exact HK.out.buf p hp
        · rfl)
      obtain ⟨w13, hw13⟩ : ∃ w13, w12.setCells W0 0 (stL h1 s1) = w13 := ⟨_, rfl⟩
      have hst := Sit.start (w := w) rfl HXW.out HBS.out HRS.out hx ho (by have := HRR.out; omega) (by have := HW0.out; omega) (by have := HW0.out; have := HRR.out; omega)
      rw [hw13] at hst
      have HTH := Lib.hid hst.1
      have S13 := Lib.hid hst.2
      have HW13 := Lib.hid hw13
      have HIO : Hid (OwnInts w13 vb6.heap.size (.slice Ao o.length co) o) := Lib.hid (by
        rw [← hw13]
        exact (HIO11.out.ext hx).updB (setCells_upd _ _ _ _) (by have := blk_lt HBE7.out; omega))
      clear ho hx hst hw13
      go_upto_region 13 with (refine wpList_store_row rfl 32 _ _ rfl W0 (stL h1 s1) (stV h1 s1) (by go_simp) (by go_simp) rfl HTH.out (by kernel_rfl) (stL_one _ _) HW13.out ?_)
      obtain ⟨I4, ha4⟩ := S13.out.ap
      have q4 : w13.cell? ⟨W0, 4, none⟩ = some (.slice h1.la s.glob.length h1.lc) := by have := st4 S13.out.box; rw [HG1.out] at this; exact this
      have hlo4 := ha4.low 4 (by omega)
      have hgf := HF.out.glob
      have hol := HOL.out
      have hgo : OwnInts w13 (I4 4).1 (.slice h1.la s.glob.length h1.lc) s.glob := by have := ha4.glob.1; rw [HG1.out] at this; exact this
      obtain ⟨A5, c5, w14, hr5, hq5⟩ := GlobQ.more (n := s.glob.length) (GlobQ.start hgo) rfl rfl HIO.out.at.2 (by omega) (by omega)
      obtain ⟨A6, c6, w15, hr6, hq6⟩ := GlobQ.more (n := s.glob.length + o.length) (hq5.ext ((Ext.refl w14).alloc (.cells #[.int .i64 g] 3))) (m := [g]) (by rw [List.length_append]) rfl (ints_one w14 g) (by omega) (by rw [List.length_append]; show s.glob.length + o.length + 1 ≤ _; omega)
      have hq6' : GlobQ (I4 4).1 w13 (.slice h1.la s1.glob.length h1.lc) w15 (.slice A6 (s.glob.length + o.length + 1) c6) (s.glob ++ o ++ [g]) := by rw [HG1.out]; exact hq6
      have hsg := S13.out.globQ ha4 hq6' (by rw [List.length_append, List.length_append]; rfl)
      obtain ⟨w16, hw16⟩ : ∃ w16, w15.setCell ⟨W0, 4, none⟩ (.slice A6 (s.glob.length + o.length + 1) c6) = w16 := ⟨_, rfl⟩
      obtain ⟨h2, hh2⟩ : ∃ h2 : StH, { h1 with la := A6, lc := c6 } = h2 := ⟨_, rfl⟩
      obtain ⟨s', hs'⟩ : ∃ s' : St, { s1 with glob := s.glob ++ o ++ [g] } = s' := ⟨_, rfl⟩
      have hsit := hsg.2.2
      rw [hw16, hh2, hs'] at hsit
      have S16 := Lib.hid hsit
      have HBF' : Hid (∀ p ∈ s'.ps, p.ring.buf.length = 8) := Lib.hid (by rw [← hs']; exact HBF.out (s.glob ++ o ++ [g]))
      have HES : Hid (s.tail ((i : Int) + 1) g = s') := Lib.hid (by rw [HE.out, ← hs', ← hs1])
      have HW16 := Lib.hid hw16
      simp only [List.length_singleton] at hr6
      have HR5 := Lib.hid hr5
      have HR6 := Lib.hid hr6
      have q5 : w15.cell? ⟨W0, 4, none⟩ = some (.slice h1.la s.glob.length h1.lc) := by have := hsg.1; rw [HG1.out] at this; exact this
      have q6 := hsg.2.1
      clear hsg hsit hh2 hw16 ha4 hq5 hq6 hq6' hlo4 hgf hol hr5 hr6 hgo hs' hs1
      go_upto_region 14 with (first | (at_builtin; refine wpList_append_run rfl _ _ 27 rfl _ _ (by go_simp) (by go_simp) HR5.out ?_) | (at_builtin; refine wpList_append_run rfl _ _ 27 rfl _ _ (by go_simp) (by go_simp) HR6.out ?_) | rw [HW16.out])
      clear q4 q5 q6
      obtain ⟨wf, hwf⟩ : ∃ wf, w16.setCells R 0 (stL h2 s') = wf := ⟨_, rfl⟩
      have HWF := Lib.hid hwf
      have hfi := S16.out.fin
      rw [hwf] at hfi
      have HFI := Lib.hid hfi
      have HTR := Lib.hid (S16.out.there (h' := h2) (s' := s'))
      clear hwf hfi
      go_wp2_with (first | (refine wpList_load_rowW (by rfl) 32 _ rfl W0 (by go_simp) (stL h2 s') (stV h2 s') rfl _ (range_row S16.out.box) Try.underlying32 rfl (by kernel_rfl) ?_) | (refine wpList_store_row rfl 32 _ _ rfl R (stL h2 s') (stV h2 s') (by go_simp) (by go_simp) rfl HTR.out (by kernel_rfl) (stL_one _ _) HWF.out ?_))
      refine bodyPost_ret (v := .agg (stL h2 s').toArray) (results_cell_row rfl _ _ R _ _ _ _ rfl HFI.out.1 Try.underlying32 rfl (by kernel_rfl)) rfl ?_
      rw [HPQ.out]
      show StTail w _ _ _ _ _
      rw [HES.out]
      obtain ⟨I, hI⟩ := HFI.out.2.1
      exact ⟨h2, rfl, hI.ok HBF'.out, HFI.out.2.2, .inr ⟨I, hI⟩⟩
set_option maxRecDepth 100000 in
set_option maxHeartbeats 4000000 in
theorem r13without_any (v : Value) (l : List Int) (n : Int) (w : World) (h : IntsAt w v l) (hl : l.length ≤ 1000000) : Calls Try.prog 112 #[v, .int .i64 n] w (IntsP (l.filter (fun x => x != n)) w) := by
  have H := Lib.hid h
  obtain ⟨A, c, rfl, -⟩ := h
  obtain ⟨g0, hg0⟩ : ∃ g0, w.heap.size = g0 := ⟨_, rfl⟩
  obtain ⟨w1, hw1⟩ : ∃ w1, w.alloc (.cells #[] 3) = w1 := ⟨_, rfl⟩
  have HX1 : Hid (Ext w w1) := Lib.hid (by rw [← hw1]; exact (Ext.refl _).alloc _)
  have HO1 : Hid (OwnInts w1 g0 (.slice (some ⟨g0, 0, none⟩) 0 0) []) := Lib.hid (by rw [← hw1, ← hg0]; exact ints_made w)
  have HW1 := Lib.hid hw1
  have HG0 := Lib.hid hg0
  have HS1 : Hid (g0 ≤ w1.heap.size) := Lib.hid (by have := HX1.out.size; omega)
  have hl' : (l.length : Int) ≤ 1000000 := by omega
  clear hg0 hw1
  go_enter Try.func112, Try.ntmps112
  go_upto_region 2 with (rw [HW1.out, HG0.out])
  go_wp2_with fail
  go_loopw [5, 6] (fun ov iv wr => ∃ (k : Nat) (B : Option Addr) (d : Nat), k ≤ l.length ∧ iv = .int .i64 k ∧ ov = .slice B ((l.take k).filter (fun x => x != n)).length d ∧ OwnInts wr g0 (.slice B ((l.take k).filter (fun x => x != n)).length d) ((l.take k).filter (fun x => x != n)) ∧ Ext w wr ∧ g0 ≤ wr.heap.size) (fun _ iv _ => l.length - (intOf iv).toNat)
  case atStart => exact ⟨0, _, _, Nat.zero_le _, rfl, rfl, HO1.out, HX1.out, HS1.out⟩
  case round =>
    obtain ⟨k, B, d, hk, rfl, rfl, ho, hx, hs⟩ := hrel
    obtain ⟨m, hm⟩ : ∃ m, (l.take k).filter (fun x => x != n) = m := ⟨_, rfl⟩
    rw [hm] at ho ⊢
    have HM := Lib.hid hm
    have HO := Lib.hid ho
    have HX := Lib.hid hx
    have HS := Lib.hid hs
    have HML : Hid (m.length ≤ 1000000) := Lib.hid (by rw [← hm]; exact Nat.le_trans (List.length_filter_le _ _) (by rw [List.length_take]; omega))
    clear hm ho hx hs
    by_cases hlt : k < l.length
    · obtain ⟨x, hx⟩ : ∃ x, l[k]? = some x := ⟨_, List.getElem?_eq_getElem hlt⟩
      obtain ⟨b, o, rfl, hb, hc⟩ := ints_get (H.out.ext HX.out) hx
      have HXK := Lib.hid hx
      clear hx hb
      by_cases h1 : x = n
      · have h1' : (x != n) = false := by simpa using h1
        have NM : Hid ((l.take (k + 1)).filter (fun x => x != n) = m) := Lib.hid (by rw [List.take_add_one, HXK.out, List.filter_append, HM.out]; simp [h1])
        clear h1
        go_wp2
        go_roundw
        case rel => exact ⟨k + 1, B, d, by omega, by go_num, by rw [NM.out], by rw [NM.out]; exact HO.out, HX.out, HS.out⟩
        case measure => simp [intOf]; omega
      · have h1' : (x != n) = true := by simpa using h1
        obtain ⟨A', c', w', hr, ho', hx', hsz⟩ := ints_push (W := w) HO.out rfl (by have := HG0.out; omega) HS.out HX.out x (by have := HML.out; omega)
        have NM : Hid ((l.take (k + 1)).filter (fun x => x != n) = m ++ [x]) := Lib.hid (by rw [List.take_add_one, HXK.out, List.filter_append, HM.out]; simp [h1])
        have NL : Hid ((m ++ [x]).length = m.length + 1) := Lib.hid (by simp)
        have NO := Lib.hid ho'
        have NX := Lib.hid hx'
        have NS : Hid (g0 ≤ w'.heap.size) := Lib.hid (Nat.le_trans HS.out hsz)
        have HR := Lib.hid hr
        clear h1 hr ho' hx' hsz
        go_wp2_with (at_builtin; refine wpList_append_run rfl _ _ 27 rfl _ _ (by go_simp) (by go_simp) HR.out ?_)
        go_roundw
        case rel => exact ⟨k + 1, A', c', by omega, by go_num, by rw [NM.out, NL.out], by rw [NM.out, NL.out]; exact NO.out, NX.out, NS.out⟩
        case measure => simp [intOf]; omega
    · obtain rfl : k = l.length := by omega
      have hm := HM.out
      rw [List.take_length] at hm
      have HMM := Lib.hid hm
      have HE := Lib.hid (IntsP.mk' (w := w) HO.out (by have := HG0.out; omega) HX.out)
      clear hm
      go_wp2
      go_ret
      rw [HMM.out]
      exact HE.out
def WtAt (X Y : Nat) (w : World) (v : Value) (l : List Int) : Prop := ∃ A c B, v = .slice A l.length c ∧ OwnInts w B v l ∧ ∀ b, v.ownBlock = some b → X ≠ b ∧ Y < b
theorem WtAt.ext {X Y : Nat} {w w' : World} {v : Value} {l : List Int} (h : WtAt X Y w v l) (hx : Ext w w') : WtAt X Y w' v l := by
  obtain ⟨A, c, B, h1, h2, h3⟩ := h
  exact ⟨A, c, B, h1, h2.ext hx, h3⟩
theorem WtAt.upd {X Y : Nat} {w w' : World} {v : Value} {l : List Int} (h : WtAt X Y w v l) (hu : Upd X w w') : WtAt X Y w' v l := by
  obtain ⟨A, c, B, h1, h2, h3⟩ := h
  exact ⟨A, c, B, h1, h2.but (But.upd (S := fun b => b = X) hu rfl) fun b hb e => (h3 b hb).1 e.symm, h3⟩
theorem WtAt.ints {X Y : Nat} {w : World} {v : Value} {l : List Int} (h : WtAt X Y w v l) : IntsAt w v l := by
  obtain ⟨A, c, B, h1, h2, h3⟩ := h
  subst h1
  exact h2.at.2
def WtBox (X Y : Nat) (w : World) (ls : List (List Int)) : Prop := ∃ vs : Array Value, vs.size = 4 ∧ w.heap[X]? = some (.cells vs 29 (0, 0)) ∧ ∀ (j : Nat) v l, vs[j]? = some v → ls[j]? = some l → WtAt X Y w v l
theorem WtBox.open {X Y : Nat} {w : World} {a b c d : List Int} (h : WtBox X Y w [a, b, c, d]) : ∃ A0 k0 A1 k1 A2 k2 A3 k3, w.heap[X]? = some (.cells #[.slice A0 a.length k0, .slice A1 b.length k1, .slice A2 c.length k2, .slice A3 d.length k3] 29 (0, 0)) ∧
    (∃ B, OwnInts w B (.slice A0 a.length k0) a ∧ ∀ b', (Value.slice A0 a.length k0).ownBlock = some b' → ¬ b' ≤ Y) ∧ (∃ B, OwnInts w B (.slice A1 b.length k1) b ∧ ∀ b', (Value.slice A1 b.length k1).ownBlock = some b' → ¬ b' ≤ Y) ∧ (∃ B, OwnInts w B (.slice A2 c.length k2) c ∧ ∀ b', (Value.slice A2 c.length k2).ownBlock = some b' → ¬ b' ≤ Y) ∧ (∃ B, OwnInts w B (.slice A3 d.length k3) d ∧ ∀ b', (Value.slice A3 d.length k3).ownBlock = some b' → ¬ b' ≤ Y) := by
  obtain ⟨vs, h1, h2, h3⟩ := h
  obtain ⟨l⟩ := vs
  match l, h1 with
  | [v0, v1, v2, v3], _ =>
    obtain ⟨A0, c0, B0, rfl, o0, n0⟩ := h3 0 v0 a rfl rfl
    obtain ⟨A1, c1, B1, rfl, o1, n1⟩ := h3 1 v1 b rfl rfl
    obtain ⟨A2, c2, B2, rfl, o2, n2⟩ := h3 2 v2 c rfl rfl
    obtain ⟨A3, c3, B3, rfl, o3, n3⟩ := h3 3 v3 d rfl rfl
    exact ⟨A0, c0, A1, c1, A2, c2, A3, c3, h2, ⟨B0, o0, fun x hx => by have := (n0 x hx).2; omega⟩, ⟨B1, o1, fun x hx => by have := (n1 x hx).2; omega⟩, ⟨B2, o2, fun x hx => by have := (n2 x hx).2; omega⟩, ⟨B3, o3, fun x hx => by have := (n3 x hx).2; omega⟩⟩
theorem ts_push {v : World} {B0 n cc : Nat} {A : Option Addr} {xs : List (Int × Int)} (h : OwnRows 76 2 pairL v B0 (.slice A n cc) xs) (hn : n = xs.length) (x : Int × Int) (hl : xs.length ≤ 1000000) (hB : B0 ≤ v.heap.size) :
    ∃ A' c' v', (Builtin.append_ #[30, 30] 30 #[.slice A n cc, .slice (some ⟨v.heap.size, 0, none⟩) 1 1]).run Try.prog (v.alloc (.cells (pairL x).toArray 76)) = .ok (.slice A' (n + 1) c') v' ∧ OwnRows 76 2 pairL v' B0 (.slice A' (n + 1) c') (xs ++ [x]) ∧
      (∀ W : World, Ext W v → W.heap.size ≤ B0 → Ext W v') ∧ v.heap.size ≤ v'.heap.size := by
  subst hn
  obtain ⟨i0, I0, I1, I2, I3⟩ := info_parts Try.infoTimer
  have hb := blk_new v (.cells (pairL x).toArray 76)
  have hone : RowsAt 2 pairL (v.alloc (.cells (pairL x).toArray 76)) (.slice (some ⟨v.heap.size, 0, none⟩) [x].length 1) [x] := ⟨_, _, rfl, Nat.le_refl 1, fun _ => ⟨v.heap.size, 0, rfl, blk_lt hb, fun j y hj i u hu => by
    match j with
    | 0 =>
      simp at hj; subst hj
      simp only [Nat.zero_mul, Nat.zero_add]
      exact blk_cell hb i u (by simpa using hu)
    | j + 1 => simp at hj⟩⟩
  obtain ⟨u, v', hr, ho, hgr, hbb⟩ := OwnRows.append2 (P := Try.prog) (e := 76) (m := 2) (f := pairL) (ys := [x]) 30 Try.underlying30 I0 I1 I2 I3 rfl (by decide) pairL_len pairL_one (h.alloc _) hone (by simp [maxLen]; omega) (by simp; omega) (by rw [World.size_alloc]; omega)
  obtain ⟨A', c', rfl, -⟩ := (OwnRows.rows pairL_len ho).form
  rw [List.length_append] at hr ho
  have hlo : ∀ b, (Value.slice A xs.length cc).ownBlock = some b → B0 ≤ b := fun b e => (h.lt b e).1
  refine ⟨A', c', v', hr, ho, fun W hx hW => ?_, by have := hgr.size; rw [World.size_alloc] at this; omega⟩
  exact Below.grown (hx.alloc _) hgr (hx.alloc _).size fun k hk => by have := hlo k hk; omega
def wtL (h : StH) (s : St) : List Value := [.slice h.a0 s.w0.length h.k0, .slice h.a1 s.w1.length h.k1, .slice h.a2 s.w2.length h.k2, .slice h.a3 s.w3.length h.k3]
theorem wtL_one (h : StH) (s : St) : ∀ u ∈ wtL h s, u.oneCell' = true := by intro u hu; simp [wtL] at hu; rcases hu with rfl | rfl | rfl | rfl <;> rfl
theorem outK_len (s : St) (g : Int) (k : Nat) : (s.outK g k).wts.length = 4 := rfl
theorem outK_set (s : St) (g : Int) {k : Nat} (hk : k < 4) {l : List Int} (hl : s.wts[k]? = some l) : (s.outK g k).wts[k]? = some l ∧ (s.outK g (k + 1)).wts = (s.outK g k).wts.set k (l.filter (· != g)) := by
  obtain rfl | rfl | rfl | rfl : k = 0 ∨ k = 1 ∨ k = 2 ∨ k = 3 := by omega
  all_goals
    simp [St.wts] at hl
    subst hl
    simp [St.outK, St.wts]
theorem WtBox.step {X Y : Nat} {w w' : World} {s : St} {g : Int} {k : Nat} (h : WtBox X Y w (s.outK g k).wts) (hk : k < 4) : ∃ v l, s.wts[k]? = some l ∧ w.cell? ⟨X, k, none⟩ = some v ∧ w.frozen? ⟨X, k, none⟩ = false ∧ WtAt X Y w v l := by
  obtain ⟨vs, h1, h2, h3⟩ := h
  obtain ⟨l, hl⟩ : ∃ l, s.wts[k]? = some l := ⟨_, List.getElem?_eq_getElem (show k < s.wts.length from hk)⟩
  have hv : vs[k]? = some vs[k] := Array.getElem?_eq_getElem (by omega)
  exact ⟨vs[k], l, hl, blk_cell h2 k _ hv, frozen_of_row _ _ k _ _ h2, h3 k _ _ hv (outK_set s g hk hl).1⟩
theorem WtBox.put {X Y : Nat} {w w' : World} {s : St} {g : Int} {k : Nat} {v : Value} {l : List Int} (h : WtBox X Y w (s.outK g k).wts) (hk : k < 4) (hl : s.wts[k]? = some l) (hx : Ext w w') (hw : WtAt X Y w' v (l.filter (· != g))) : WtBox X Y (w'.setCell ⟨X, k, none⟩ v) (s.outK g (k + 1)).wts := by
  obtain ⟨vs, h1, h2, h3⟩ := h
  have hu := (Upd.refl X w').set k v
  refine ⟨vs.setIfInBounds k v, by rw [Array.size_setIfInBounds]; exact h1, blk_set (hx.blk h2) k v, fun j u m hj hm => ?_⟩
  rw [(outK_set s g hk hl).2] at hm
  by_cases hjk : j = k
  · subst hjk
    rw [List.getElem?_set_self (by rw [outK_len]; exact hk)] at hm
    rw [Array.getElem?_setIfInBounds_self_of_lt (by omega)] at hj
    obtain rfl := Option.some.inj hj
    obtain rfl := Option.some.inj hm
    exact hw.upd hu
  · rw [List.getElem?_set_ne (Ne.symm hjk)] at hm
    rw [Array.getElem?_setIfInBounds_ne (Ne.symm hjk)] at hj
    exact ((h3 j u m hj hm).ext hx).upd hu
theorem WtBox.far {X Y : Nat} {w w' : World} {ls : List (List Int)} (h : WtBox X Y w ls) (hx : Ext w w') : WtBox X Y w' ls := by
  obtain ⟨vs, h1, h2, h3⟩ := h
  exact ⟨vs, h1, hx.blk h2, fun j v l hj hl => (h3 j v l hj hl).ext hx⟩
structure StClear (S : Nat → Prop) (w : World) (h : StH) (s : St) : Prop where
  prog : ∃ L H, NestIn L H 2 pairL w (.slice h.pa s.prog.length h.pc) s.prog ∧ ∀ b, L ≤ b → b < H → ¬ S b
  gs : ∃ B, OwnRows 55 5 gL w B (.slice h.ga s.gs.length h.gc) s.gs ∧ ∀ b, (Value.slice h.ga s.gs.length h.gc).ownBlock = some b → ¬ S b
  ps : ∃ B, OwnRows 40 13 pL w B (.slice h.qa s.ps.length h.qc) s.ps ∧ ∀ b, (Value.slice h.qa s.ps.length h.qc).ownBlock = some b → ¬ S b
  ms : ∃ B, OwnRows 57 2 pairL w B (.slice h.ma s.ms.length h.mc) s.ms ∧ ∀ b, (Value.slice h.ma s.ms.length h.mc).ownBlock = some b → ¬ S b
  glob : ∃ B, OwnInts w B (.slice h.la s.glob.length h.lc) s.glob ∧ ∀ b, (Value.slice h.la s.glob.length h.lc).ownBlock = some b → ¬ S b
  w0 : ∃ B, OwnInts w B (.slice h.a0 s.w0.length h.k0) s.w0 ∧ ∀ b, (Value.slice h.a0 s.w0.length h.k0).ownBlock = some b → ¬ S b
  w1 : ∃ B, OwnInts w B (.slice h.a1 s.w1.length h.k1) s.w1 ∧ ∀ b, (Value.slice h.a1 s.w1.length h.k1).ownBlock = some b → ¬ S b
  w2 : ∃ B, OwnInts w B (.slice h.a2 s.w2.length h.k2) s.w2 ∧ ∀ b, (Value.slice h.a2 s.w2.length h.k2).ownBlock = some b → ¬ S b
  w3 : ∃ B, OwnInts w B (.slice h.a3 s.w3.length h.k3) s.w3 ∧ ∀ b, (Value.slice h.a3 s.w3.length h.k3).ownBlock = some b → ¬ S b
  timers : ∃ B, OwnTs w B (.slice h.ta s.timers.length h.tc) s.timers ∧ ∀ b, (Value.slice h.ta s.timers.length h.tc).ownBlock = some b → ¬ S b
theorem StClear.but {S : Nat → Prop} {w w' : World} {h : StH} {s : St} (k : StClear S w h s) (c : But S w w') : StClear S w' h s := by
  obtain ⟨⟨a0, a1, a2, a3⟩, ⟨b0, b1, b2⟩, ⟨c0, c1, c2⟩, ⟨d0, d1, d2⟩, ⟨e0, e1, e2⟩, ⟨f0, f1, f2⟩, ⟨g0, g1, g2⟩, ⟨h0, h1, h2⟩, ⟨i0, i1, i2⟩, ⟨j0, j1, j2⟩⟩ := k
  exact ⟨⟨a0, a1, a2.but c a3, a3⟩, ⟨b0, b1.but c b2, b2⟩, ⟨c0, c1.but c c2, c2⟩, ⟨d0, d1.but c d2, d2⟩, ⟨e0, e1.but c e2, e2⟩, ⟨f0, f1.but c f2, f2⟩, ⟨g0, g1.but c g2, g2⟩, ⟨h0, h1.but c h2, h2⟩, ⟨i0, i1.but c i2, i2⟩, ⟨j0, OwnRows.but j1 c j2, j2⟩⟩
theorem StClear.ok {S : Nat → Prop} {w : World} {h : StH} {s : St} (k : StClear S w h s) (hb : ∀ p ∈ s.ps, p.ring.buf.length = 8) : StOk w h s := by
  obtain ⟨⟨a0, a1, a2, a3⟩, ⟨b0, b1, b2⟩, ⟨c0, c1, c2⟩, ⟨d0, d1, d2⟩, ⟨e0, e1, e2⟩, ⟨f0, f1, f2⟩, ⟨g0, g1, g2⟩, ⟨h0, h1, h2⟩, ⟨i0, i1, i2⟩, ⟨j0, j1, j2⟩⟩ := k
  exact ⟨a2.nest, OwnRows.rows gL_len b1, OwnRows.rows pL_len c1, OwnRows.rows pairL_len d1, e1.at.2, f1.at.2, g1.at.2, h1.at.2, i1.at.2, OwnTs.pairs j1, hb⟩
theorem StApart.clear {S : Nat → Prop} {B : Nat} {w : World} {I : Nat → Nat × Nat} {h : StH} {s : St} (k : StApart B w I h s) (hs : ∀ b, B ≤ b → b < w.heap.size → ¬ S b) : StClear S w h s := by
  have low := k.low
  have go : ∀ i, i < 10 → ∀ b, (I i).1 ≤ b → b < (I i).2 → ¬ S b := fun i hi b h1 h2 => hs b (by have := low i hi; omega) (by have := low i hi; omega)
  exact ⟨⟨_, _, k.prog, go 0 (by omega)⟩, ⟨_, k.gs.1, fun b hb => go 1 (by omega) b (k.gs.1.lt b hb).1 (k.gs.2 b hb)⟩, ⟨_, k.ps.1, fun b hb => go 2 (by omega) b (k.ps.1.lt b hb).1 (k.ps.2 b hb)⟩, ⟨_, k.ms.1, fun b hb => go 3 (by omega) b (k.ms.1.lt b hb).1 (k.ms.2 b hb)⟩,
    ⟨_, k.glob.1, fun b hb => go 4 (by omega) b (World.ownsRow.lt k.glob.1 b hb).1 (k.glob.2 b hb)⟩, ⟨_, k.w0.1, fun b hb => go 5 (by omega) b (World.ownsRow.lt k.w0.1 b hb).1 (k.w0.2 b hb)⟩, ⟨_, k.w1.1, fun b hb => go 6 (by omega) b (World.ownsRow.lt k.w1.1 b hb).1 (k.w1.2 b hb)⟩,
    ⟨_, k.w2.1, fun b hb => go 7 (by omega) b (World.ownsRow.lt k.w2.1 b hb).1 (k.w2.2 b hb)⟩, ⟨_, k.w3.1, fun b hb => go 8 (by omega) b (World.ownsRow.lt k.w3.1 b hb).1 (k.w3.2 b hb)⟩, ⟨_, k.timers.1, fun b hb => go 9 (by omega) b (OwnRows.lt k.timers.1 b hb).1 (k.timers.2 b hb)⟩⟩
set_option maxRecDepth 100000 in
set_option maxHeartbeats 32000000 in
theorem r13out_any (h : StH) (s : St) (g : Int) (w : World) (hk : StOk w h s) (hf : StFew s) : Calls Try.prog 59 #[stV h s, .int .i64 g] w (StTold w (s.out g)) := by
  have HF := Lib.hid hf
  have HK := Lib.hid hk
  obtain ⟨W0, hW0⟩ : ∃ W0, w.heap.size = W0 := ⟨_, rfl⟩
  obtain ⟨R, hR⟩ : ∃ R, W0 + 1 = R := ⟨_, rfl⟩
  obtain ⟨w2, hw2⟩ : ∃ w2, (w.alloc (.cells #[.slice h.pa s.prog.length h.pc, .slice h.ga s.gs.length h.gc, .slice h.qa s.ps.length h.qc, .slice h.ma s.ms.length h.mc, .slice h.la s.glob.length h.lc, .int .i64 s.c0, .int .i64 s.c1, .int .i64 s.c2, .int .i64 s.c3, .slice h.a0 s.w0.length h.k0, .slice h.a1 s.w1.length h.k1, .slice h.a2 s.w2.length h.k2, .slice h.a3 s.w3.length h.k3, .slice h.ta s.timers.length h.tc, .int .i64 s.clock, .int .i64 s.procs] 32)).alloc (.cells #[.slice none 0 0, .slice none 0 0, .slice none 0 0, .slice none 0 0, .slice none 0 0, .int .i64 0, .int .i64 0, .int .i64 0, .int .i64 0, .slice none 0 0, .slice none 0 0, .slice none 0 0, .slice none 0 0, .slice none 0 0, .int .i64 0, .int .i64 0] 32) = w2 := ⟨_, rfl⟩
  have HX1 : Hid (Ext w w2) := Lib.hid (by rw [← hw2]; exact ((Ext.refl w).alloc _).alloc _)
  have HB1 : Hid (w2.heap[W0]? = some (.cells (stC h s) 32 (0, 0))) := Lib.hid (by rw [← hw2, ← hW0]; exact blk_alloc (blk_new w _) _)
  have HR1 : Hid (w2.heap[R]? = some (.cells #[.slice none 0 0, .slice none 0 0, .slice none 0 0, .slice none 0 0, .slice none 0 0, .int .i64 0, .int .i64 0, .int .i64 0, .int .i64 0, .slice none 0 0, .slice none 0 0, .slice none 0 0, .slice none 0 0, .slice none 0 0, .int .i64 0, .int .i64 0] 32 (0, 0))) := Lib.hid (by
    have := blk_new (w.alloc (.cells #[.slice h.pa s.prog.length h.pc, .slice h.ga s.gs.length h.gc, .slice h.qa s.ps.length h.qc, .slice h.ma s.ms.length h.mc, .slice h.la s.glob.length h.lc, .int .i64 s.c0, .int .i64 s.c1, .int .i64 s.c2, .int .i64 s.c3, .slice h.a0 s.w0.length h.k0, .slice h.a1 s.w1.length h.k1, .slice h.a2 s.w2.length h.k2, .slice h.a3 s.w3.length h.k3, .slice h.ta s.timers.length h.tc, .int .i64 s.clock, .int .i64 s.procs] 32)) (.cells #[.slice none 0 0, .slice none 0 0, .slice none 0 0, .slice none 0 0, .slice none 0 0, .int .i64 0, .int .i64 0, .int .i64 0, .int .i64 0, .slice none 0 0, .slice none 0 0, .slice none 0 0, .slice none 0 0, .slice none 0 0, .int .i64 0, .int .i64 0] 32)
    rw [hw2, World.size_alloc, hW0, hR] at this
    exact this)
  have HRR := Lib.hid hR
  have HW0 := Lib.hid hW0
  have HW2 := Lib.hid hw2
  have HK1 := Lib.hid (hk.ext HX1.out)
  clear hk hf hw2 hW0 hR
  obtain ⟨PQ, hPQ⟩ : ∃ PQ : Ending → World → Prop, PQ = StTold w (s.out g) := ⟨_, rfl⟩
  rw [← hPQ]
  have HPQ := Lib.hid hPQ
  clear hPQ
  unfold stV
  go_enter Try.func59, Try.ntmps59
  go_upto_region 1 with fail
  rw [HW2.out, HW0.out, HRR.out]
  generalize Value.agg #[.slice h.pa s.prog.length h.pc, .slice h.ga s.gs.length h.gc, .slice h.qa s.ps.length h.qc, .slice h.ma s.ms.length h.mc, .slice h.la s.glob.length h.lc, .int .i64 s.c0, .int .i64 s.c1, .int .i64 s.c2, .int .i64 s.c3, .slice h.a0 s.w0.length h.k0, .slice h.a1 s.w1.length h.k1, .slice h.a2 s.w2.length h.k2, .slice h.a3 s.w3.length h.k3, .slice h.ta s.timers.length h.tc, .int .i64 s.clock, .int .i64 s.procs] = sv0
  go_wp2_with (refine wpList_load_rowW (by rfl) 32 _ rfl W0 (by go_simp) (stL h s) (stV h s) rfl _ (range_row HB1.out) Try.underlying32 rfl (by kernel_rfl) ?_)
  refine (rCopy_any h s _ HK1.out HF.out).mono ?_
  rintro e w3 ⟨h1, I, rfl, ho, hx⟩
  obtain ⟨w4, hw4⟩ : ∃ w4, w3.setCells W0 0 (stL h1 s) = w4 := ⟨_, rfl⟩
  have hlo : W0 < w2.heap.size ∧ R < w2.heap.size ∧ W0 < R := by have := blk_lt HB1.out; have := blk_lt HR1.out; have := HRR.out; omega
  have hb3 := hx.blk HB1.out
  have HCL : Hid (StClear (fun b => b ≤ R) w3 h1 s) := Lib.hid (ho.clear fun b hb _ e => by omega)
  have HTH : Hid (w3.there W0 0 (stL h1 s).length) := Lib.hid (there_row hb3 (Nat.le_refl 16))
  have HB4 : Hid (w4.heap[W0]? = some (.cells (stC h1 s) 32 (0, 0))) := Lib.hid (by rw [← hw4]; exact setCells_at (stL h s) (stL h1 s) rfl hb3)
  have HU4 : Hid (Upd W0 w3 w4) := Lib.hid (by rw [← hw4]; exact setCells_upd _ _ _ _)
  have HR4 : Hid (w4.heap[R]? = some (.cells #[.slice none 0 0, .slice none 0 0, .slice none 0 0, .slice none 0 0, .slice none 0 0, .int .i64 0, .int .i64 0, .int .i64 0, .int .i64 0, .slice none 0 0, .slice none 0 0, .slice none 0 0, .slice none 0 0, .slice none 0 0, .int .i64 0, .int .i64 0] 32 (0, 0))) := Lib.hid ((HU4.out.block R (by have := hx.size; omega) (fun e => by injection e; omega)).trans (hx.blk HR1.out))
  have HC4 := Lib.hid (HCL.out.but (But.upd HU4.out (by have := HRR.out; omega)))
  have HX4 : Hid (Ext w w4) := Lib.hid ((HX1.out.trans hx).upd HU4.out (by have := HW0.out; omega))
  have HLO : Hid (W0 < w2.heap.size ∧ R < w2.heap.size ∧ W0 < R ∧ w2.heap.size ≤ w4.heap.size) := Lib.hid ⟨hlo.1, hlo.2.1, hlo.2.2, by have := hx.size; have := HU4.out.size; omega⟩
  have HW4 := Lib.hid hw4
  obtain ⟨WB, hWB⟩ : ∃ WB, w4.heap.size = WB := ⟨_, rfl⟩
  obtain ⟨w5, hw5⟩ : ∃ w5, w4.alloc (.cells #[.slice none 0 0, .slice none 0 0, .slice none 0 0, .slice none 0 0] 29) = w5 := ⟨_, rfl⟩
  obtain ⟨w6, hw6⟩ : ∃ w6, w5.setCells WB 0 (wtL h1 s) = w6 := ⟨_, rfl⟩
  have hb5 : w5.heap[WB]? = some (.cells #[.slice none 0 0, .slice none 0 0, .slice none 0 0, .slice none 0 0] 29 (0, 0)) := by rw [← hw5, ← hWB]; exact blk_new w4 _
  have HT5 : Hid (w5.there WB 0 (wtL h1 s).length) := Lib.hid (there_row hb5 (Nat.le_refl 4))
  have hb6 : w6.heap[WB]? = some (.cells (wtL h1 s).toArray 29 (0, 0)) := by
    rw [← hw6]
    exact setCells_at [.slice none 0 0, .slice none 0 0, .slice none 0 0, .slice none 0 0] (wtL h1 s) rfl hb5
  have HX6 : Hid (Ext w4 w6) := Lib.hid (by rw [← hw6]; exact Ext.upd (a := w4) (by rw [← hw5]; exact (Ext.refl w4).alloc _) (setCells_upd _ _ _ _) (by omega))
  have HBX6 : Hid (WtBox WB R w6 (s.outK g 0).wts) := Lib.hid (by
    have hcl := HC4.out.but (But.ext HX6.out)
    have far : ∀ (l : List Int) (A : Option Addr) (c B : Nat), OwnInts w4 B (.slice A l.length c) l → (∀ b, (Value.slice A l.length c).ownBlock = some b → ¬ b ≤ R) → WtAt WB R w6 (.slice A l.length c) l := fun l A c B hB hn => ⟨A, c, B, rfl, hB.ext HX6.out, fun b hb => ⟨by have := (World.ownsRow.lt hB b hb).2; omega, by have := hn b hb; omega⟩⟩
    refine ⟨_, rfl, hb6, fun j v l hj hl => ?_⟩
    obtain ⟨_, _, _, _, _, ⟨B0, f0, y0⟩, ⟨B1, f1, y1⟩, ⟨B2, f2, y2⟩, ⟨B3, f3, y3⟩, _⟩ := HC4.out
    match j, hj, hl with
    | 0, hj, hl => simp [wtL, St.outK, St.wts] at hj hl; subst hj hl; exact far _ _ _ _ f0 y0
    | 1, hj, hl => simp [wtL, St.outK, St.wts] at hj hl; subst hj hl; exact far _ _ _ _ f1 y1
    | 2, hj, hl => simp [wtL, St.outK, St.wts] at hj hl; subst hj hl; exact far _ _ _ _ f2 y2
    | 3, hj, hl => simp [wtL, St.outK, St.wts] at hj hl; subst hj hl; exact far _ _ _ _ f3 y3
    | j + 4, hj, hl => simp [wtL] at hj)
  have HWBL : Hid (w4.heap.size = WB) := Lib.hid hWB
  have HW5 := Lib.hid hw5
  have HW6 := Lib.hid hw6
  obtain ⟨av, hav⟩ : ∃ av, Value.agg (wtL h1 s).toArray = av := ⟨_, rfl⟩
  have HAV := Lib.hid hav
  have HRG4 : Hid (w4.rangeAt W0 9 (wtL h1 s)) := Lib.hid (fun j u hu => by
    match j, hu with
    | 0, hu | 1, hu | 2, hu | 3, hu => simp [wtL] at hu; subst hu; exact blk_cell HB4.out _ _ rfl
    | j + 4, hu => simp [wtL] at hu)
  clear ho hx hw4 hlo hb3 hWB hw5 hw6 hb5 hb6 hav
  go_upto_region 3 with (first | (refine wpList_store_row rfl 32 _ _ rfl W0 (stL h1 s) (stV h1 s) (by go_simp) (by go_simp) rfl HTH.out (by kernel_rfl) (stL_one _ _) HW4.out ?_) | rw [HW5.out, HWBL.out] | (refine wpList_load_rowM (by rfl) 29 _ rfl W0 9 (by go_simp) (wtL h1 s) av HAV.out.symm _ HRG4.out Try.underlying29 rfl (by kernel_rfl) ?_) | (refine wpList_store_rowM rfl 29 _ _ rfl WB 0 (wtL h1 s) av (by go_simp) (by go_simp) HAV.out.symm HT5.out (by kernel_rfl) (wtL_one _ _) HW6.out ?_))
  go_wp2_with fail
  go_loopw [6] (fun iv wr => ∃ k : Nat, k ≤ 4 ∧ iv = .int .i64 k ∧ Ext w4 wr ∧ WtBox WB R wr (s.outK g k).wts) (fun iv _ => 4 - (intOf iv).toNat)
  case atStart => exact ⟨0, by omega, rfl, HX6.out, HBX6.out⟩
  case round =>
    obtain ⟨k, hk, rfl, hx, hbx⟩ := hrel
    have HX := Lib.hid hx
    have HBX := Lib.hid hbx
    clear hx hbx
    by_cases hlt : k < 4
    · obtain ⟨v, l, hl, c1, c2, hwt⟩ := WtBox.step (w' := wr) HBX.out hlt
      have HL := Lib.hid hl
      have HLL : Hid (l.length ≤ 100000) := Lib.hid (wts_few HF.out.w hl)
      have e1 : (k : Int) < 4 := by omega
      have HCN := Lib.hid (r13without_any v l g wr hwt.ints (by have := HLL.out; omega))
      clear hl hwt
      go_wp2_with fail
      refine HCN.out.mono ?_
      rintro e w7 ⟨A7, c7, rfl, ho7, hx7⟩
      obtain ⟨w8, hw8⟩ : ∃ w8, w7.setCell ⟨WB, k, none⟩ (.slice A7 (l.filter (fun x => x != g)).length c7) = w8 := ⟨_, rfl⟩
      have NB : Hid (WtBox WB R w8 (s.outK g (k + 1)).wts) := Lib.hid (by
        rw [← hw8]
        have hbl : WB < wr.heap.size := by obtain ⟨vs, _, hvs, _⟩ := HBX.out; exact blk_lt hvs
        exact HBX.out.put hlt HL.out hx7 ⟨_, _, _, rfl, ho7, fun b hb => by have := (World.ownsRow.lt ho7 b hb).1; have := HLO.out; have := HWBL.out; omega⟩)
      have NX : Hid (Ext w4 w8) := Lib.hid (by rw [← hw8]; exact (HX.out.trans hx7).setCell (p := ⟨WB, k, none⟩) (by have := HWBL.out; simp only; omega) _)
      obtain ⟨v7, l7, hl7, d1, d2, _⟩ := WtBox.step (w' := wr) (HBX.out.far hx7) hlt
      have HW8 := Lib.hid hw8
      clear ho7 hx7 hw8 hl7 c1 c2
      go_wp2_with (rw [HW8.out])
      go_roundw
      case rel => exact ⟨k + 1, by omega, by go_num, NX.out, NB.out⟩
      case measure => simp [intOf]; omega
    · obtain rfl : k = 4 := by omega
      obtain ⟨A0, k0, A1, k1, A2, k2, A3, k3, hvs, y0, y1, y2, y3⟩ := WtBox.open HBX.out
      obtain ⟨vs, hvs'⟩ : ∃ vs : List Value, [.slice A0 (s.w0.filter (fun x => x != g)).length k0, .slice A1 (s.w1.filter (fun x => x != g)).length k1, .slice A2 (s.w2.filter (fun x => x != g)).length k2, .slice A3 (s.w3.filter (fun x => x != g)).length k3] = vs := ⟨_, rfl⟩
      obtain ⟨h2, hh2⟩ : ∃ h2 : StH, { h1 with a0 := A0, k0 := k0, a1 := A1, k1 := k1, a2 := A2, k2 := k2, a3 := A3, k3 := k3 } = h2 := ⟨_, rfl⟩
      obtain ⟨s2, hs2⟩ : ∃ s2 : St, s.outK g 4 = s2 := ⟨_, rfl⟩
      have hbW := HX.out.blk HB4.out
      obtain ⟨w9, hw9⟩ : ∃ w9, wr.setCells W0 9 vs = w9 := ⟨_, rfl⟩
      have HVB : Hid (wr.heap[WB]? = some (.cells vs.toArray 29 (0, 0))) := Lib.hid (by rw [← hvs']; exact hvs)
      have HT9 : Hid (wr.there W0 9 vs.length) := Lib.hid (there_at hbW (by rw [← hvs']; exact Nat.le_of_ble_eq_true rfl))
      have HB9 : Hid (w9.heap[W0]? = some (.cells (stC h2 s2) 32 (0, 0))) := Lib.hid (by
        rw [← hw9, ← hvs', ← hh2, ← hs2]
        exact blk_set (blk_set (blk_set (blk_set hbW 9 _) 10 _) 11 _) 12 _)
      have HU9 : Hid (Upd W0 wr w9) := Lib.hid (by rw [← hw9]; exact setCells_upd _ _ _ _)
      have HV1 : Hid (∀ u ∈ vs, u.oneCell' = true) := Lib.hid (by rw [← hvs']; intro u hu; simp at hu; rcases hu with rfl | rfl | rfl | rfl <;> rfl)
      have HVL : Hid (vs.length = 4) := Lib.hid (by rw [← hvs']; rfl)
      have HC9 : Hid (StClear (fun b => b ≤ R) w9 h2 s2) := Lib.hid (by
        have hc := HC4.out.but (But.ext HX.out)
        refine StClear.but ?_ (But.upd HU9.out (by have := HRR.out; omega))
        rw [← hh2, ← hs2]
        exact ⟨hc.prog, hc.gs, hc.ps, hc.ms, hc.glob, y0, y1, y2, y3, hc.timers⟩)
      have HR9 : Hid (w9.heap[R]? = some (.cells #[.slice none 0 0, .slice none 0 0, .slice none 0 0, .slice none 0 0, .slice none 0 0, .int .i64 0, .int .i64 0, .int .i64 0, .int .i64 0, .slice none 0 0, .slice none 0 0, .slice none 0 0, .slice none 0 0, .slice none 0 0, .int .i64 0, .int .i64 0] 32 (0, 0))) := Lib.hid ((HU9.out.block R (by have := HX.out.size; have := HLO.out; omega) (fun e => by injection e; have := HRR.out; omega)).trans (HX.out.blk HR4.out))
      have HX9 : Hid (Ext w w9) := Lib.hid ((HX4.out.trans HX.out).upd HU9.out (by have := HW0.out; omega))
      have HS9 : Hid (R < w9.heap.size ∧ W0 < R) := Lib.hid ⟨by have := HLO.out; have := HX.out.size; have := HU9.out.size; omega, by have := HRR.out; omega⟩
      have HS2 : Hid (s2.timers = s.timers ∧ ∀ l, { s2 with timers := l } = { s.out g with timers := l }) := Lib.hid (by rw [← hs2]; exact ⟨rfl, fun l => rfl⟩)
      have HPS2 : Hid (s2.ps = s.ps) := Lib.hid (by rw [← hs2]; rfl)
      obtain ⟨bv, hbv⟩ : ∃ bv, Value.agg vs.toArray = bv := ⟨_, rfl⟩
      have HBV := Lib.hid hbv
      have HW9 := Lib.hid hw9
      have HSZ : Hid ((Try.prog.info? 29).map (·.size) = some vs.length) := Lib.hid (by rw [HVL.out]; kernel_rfl)
      clear hvs y0 y1 y2 y3 hvs' hh2 hs2 hbW hw9 hbv
      obtain ⟨g0, hg0⟩ : ∃ g0, w9.heap.size = g0 := ⟨_, rfl⟩
      obtain ⟨wa, hwa⟩ : ∃ wa, w9.alloc (.cells #[] 76) = wa := ⟨_, rfl⟩
      have HOA : Hid (OwnRows 76 2 pairL wa g0 (.slice (some ⟨g0, 0, none⟩) 0 0) []) := Lib.hid (by
        rw [← hwa, ← hg0]
        exact World.ownsRow_made (base := w9.heap.size) (e := 76) (size := 2) w9 #[] 0 (Nat.le_refl _) (by decide) rfl)
      have HXA : Hid (Ext w9 wa) := Lib.hid (by rw [← hwa]; exact (Ext.refl _).alloc _)
      have HSA : Hid (g0 ≤ wa.heap.size) := Lib.hid (by have := HXA.out.size; omega)
      have HWA := Lib.hid hwa
      have HG0 := Lib.hid hg0
      clear hg0 hwa
      go_upto_region 9 with (first | (refine wpList_load_rowM (by rfl) 29 _ rfl WB 0 (by go_simp) vs bv HBV.out.symm _ (range_row HVB.out) Try.underlying29 rfl HSZ.out ?_) | (refine wpList_store_rowM rfl 29 _ _ rfl W0 9 vs bv (by go_simp) (by go_simp) HBV.out.symm HT9.out HSZ.out HV1.out HW9.out ?_) | rw [HWA.out, HG0.out])
      go_wp2_with fail
      go_loopw [7, 8] (fun tv iv wr => ∃ (k : Nat) (B : Option Addr) (d : Nat), k ≤ s.timers.length ∧ iv = .int .i64 k ∧ tv = .slice B ((s.timers.take k).filter (fun x => x.2 != g)).length d ∧ OwnRows 76 2 pairL wr g0 (.slice B ((s.timers.take k).filter (fun x => x.2 != g)).length d) ((s.timers.take k).filter (fun x => x.2 != g)) ∧ Ext w9 wr ∧ g0 ≤ wr.heap.size) (fun _ iv _ => s.timers.length - (intOf iv).toNat)
      case atStart => exact ⟨0, _, _, Nat.zero_le _, rfl, rfl, HOA.out, HXA.out, HSA.out⟩
      case round =>
        obtain ⟨k, B, d, hk, rfl, rfl, ho, hx, hs⟩ := hrel
        obtain ⟨m, hm⟩ : ∃ m, (s.timers.take k).filter (fun x => x.2 != g) = m := ⟨_, rfl⟩
        rw [hm] at ho ⊢
        have HM := Lib.hid hm
        have HO := Lib.hid ho
        have HX := Lib.hid hx
        have HS := Lib.hid hs
        have HML : Hid (m.length ≤ 100000) := Lib.hid (by rw [← hm]; exact Nat.le_trans (List.length_filter_le _ _) (by have := HF.out.timers; rw [List.length_take]; omega))
        clear hm ho hx hs
        have q13 : wr.cell? ⟨W0, 13, none⟩ = some (.slice h2.ta s.timers.length h2.tc) := by have := st13 (HX.out.blk HB9.out); rw [HS2.out.1] at this; exact this
        by_cases hlt : k < s.timers.length
        · obtain ⟨x, hx⟩ : ∃ x, s.timers[k]? = some x := ⟨_, List.getElem?_eq_getElem hlt⟩
          obtain ⟨_, hty, _⟩ := (HC9.out.but (But.ext HX.out)).timers
          rw [HS2.out.1] at hty
          obtain ⟨b, o, hta, hb, c0, c1⟩ := frs2_get (OwnRows.rows pairL_len hty) hx
          rw [hta] at q13
          have HXK := Lib.hid hx
          have e5 : (k : Int) < 100000 := by have := HF.out.timers; omega
          clear hx hb hty hta
          by_cases h1 : x.2 = g
          · have h1' : (x.2 != g) = false := by simpa using h1
            have NM : Hid ((s.timers.take (k + 1)).filter (fun x => x.2 != g) = m) := Lib.hid (by rw [List.take_add_one, HXK.out, List.filter_append, HM.out]; simp [h1])
            clear h1
            go_wp2
            go_roundw
            case rel => exact ⟨k + 1, B, d, by omega, by go_num, by rw [NM.out], by rw [NM.out]; exact HO.out, HX.out, HS.out⟩
            case measure => simp [intOf]; omega
          · have h1' : (x.2 != g) = true := by simpa using h1
            obtain ⟨A', c', w', hr, ho', hx', hsz⟩ := ts_push HO.out rfl x (by have := HML.out; omega) HS.out
            have NM : Hid ((s.timers.take (k + 1)).filter (fun x => x.2 != g) = m ++ [x]) := Lib.hid (by rw [List.take_add_one, HXK.out, List.filter_append, HM.out]; simp [h1])
            have NL : Hid ((m ++ [x]).length = m.length + 1) := Lib.hid (by simp)
            have NO := Lib.hid ho'
            have NX := Lib.hid (hx' w9 HX.out (by have := HG0.out; omega))
            have NS : Hid (g0 ≤ w'.heap.size) := Lib.hid (Nat.le_trans HS.out hsz)
            have HR := Lib.hid hr
            clear h1 hr ho' hx' hsz
            go_wp2_with (at_builtin; refine wpList_append_run rfl _ _ 30 rfl _ _ (by go_simp) (by go_simp) HR.out ?_)
            go_roundw
            case rel => exact ⟨k + 1, A', c', by omega, by go_num, by rw [NM.out, NL.out], by rw [NM.out, NL.out]; exact NO.out, NX.out, NS.out⟩
            case measure => simp [intOf]; omega
        · obtain rfl : k = s.timers.length := by omega
          have hm := HM.out
          rw [List.take_length] at hm
          obtain ⟨h3, hh3⟩ : ∃ h3 : StH, { h2 with ta := B, tc := d } = h3 := ⟨_, rfl⟩
          obtain ⟨s3, hs3⟩ : ∃ s3 : St, s.out g = s3 := ⟨_, rfl⟩
          have hb9 := HX.out.blk HB9.out
          obtain ⟨wb, hwb⟩ : ∃ wb, wr.setCell ⟨W0, 13, none⟩ (.slice B m.length d) = wb := ⟨_, rfl⟩
          have z13 := frozen_of_row _ _ 13 _ _ hb9
          have e3 : ({ s2 with timers := m } : St) = s3 := by rw [HS2.out.2 m, ← hs3, ← hm]; rfl
          have HBB : Hid (wb.heap[W0]? = some (.cells (stC h3 s3) 32 (0, 0))) := Lib.hid (by
            rw [← hwb, ← hh3, ← e3]
            exact blk_set hb9 13 _)
          have hub : Upd W0 wr wb := by rw [← hwb]; exact (Upd.refl W0 wr).set 13 _
          have HRB : Hid (wb.heap[R]? = some (.cells #[.slice none 0 0, .slice none 0 0, .slice none 0 0, .slice none 0 0, .slice none 0 0, .int .i64 0, .int .i64 0, .int .i64 0, .int .i64 0, .slice none 0 0, .slice none 0 0, .slice none 0 0, .slice none 0 0, .slice none 0 0, .int .i64 0, .int .i64 0] 32 (0, 0))) := Lib.hid ((hub.block R (by have := HX.out.size; have := HS9.out; omega) (fun e => by injection e; have := HS9.out; omega)).trans (HX.out.blk HR9.out))
          have HXB : Hid (Ext w wb) := Lib.hid ((HX9.out.trans HX.out).upd hub (by have := HW0.out; omega))
          have HCB : Hid (StClear (fun b => b ≤ R) wb h3 s3) := Lib.hid (by
            have hc := (HC9.out.but (But.ext HX.out)).but (But.upd (S := fun b => b ≤ R) hub (by have := HS9.out; omega))
            have ht : OwnTs wb g0 (.slice B m.length d) m := OwnRows.but HO.out (But.upd (S := fun b => b ≤ R) hub (by have := HS9.out; omega)) fun b hb => by have := (OwnRows.lt HO.out b hb).1; have := HS9.out; have := HG0.out; omega
            rw [← hh3, ← e3]
            exact ⟨hc.prog, hc.gs, hc.ps, hc.ms, hc.glob, hc.w0, hc.w1, hc.w2, hc.w3, ⟨g0, ht, fun b hb => by have := (OwnRows.lt HO.out b hb).1; have := HS9.out; have := HG0.out; omega⟩⟩)
          have HES := Lib.hid hs3
          have HBF : Hid (∀ p ∈ s3.ps, p.ring.buf.length = 8) := Lib.hid (by rw [← hs3]; exact HK.out.buf)
          obtain ⟨wf, hwf⟩ : ∃ wf, wb.setCells R 0 (stL h3 s3) = wf := ⟨_, rfl⟩
          have hu := setCells_upd R (stL h3 s3) wb 0
          have HFR : Hid (wf.heap[R]? = some (.cells (stL h3 s3).toArray 32 (0, 0))) := Lib.hid (by rw [← hwf]; exact setCells_at [.slice none 0 0, .slice none 0 0, .slice none 0 0, .slice none 0 0, .slice none 0 0, .int .i64 0, .int .i64 0, .int .i64 0, .int .i64 0, .slice none 0 0, .slice none 0 0, .slice none 0 0, .slice none 0 0, .slice none 0 0, .int .i64 0, .int .i64 0] (stL h3 s3) rfl HRB.out)
          have HTR : Hid (wb.there R 0 (stL h3 s3).length) := Lib.hid (there_row HRB.out (Nat.le_refl 16))
          have HXF : Hid (Ext w wf) := Lib.hid (by rw [← hwf]; exact HXB.out.upd hu (by have := HRR.out; have := HW0.out; omega))
          have HKF : Hid (StOk wf h3 s3) := Lib.hid (by
            rw [← hwf]
            exact (HCB.out.but (But.upd hu (Nat.le_refl R))).ok HBF.out)
          have HWF := Lib.hid hwf
          have HWB := Lib.hid hwb
          clear hm hh3 hs3 hb9 hwb e3 hub hwf hu
          go_wp2_with (first | rw [HWB.out] | (refine wpList_load_rowW (by rfl) 32 _ rfl W0 (by go_simp) (stL h3 s3) (stV h3 s3) rfl _ (range_row HBB.out) Try.underlying32 rfl (by kernel_rfl) ?_) | (refine wpList_store_row rfl 32 _ _ rfl R (stL h3 s3) (stV h3 s3) (by go_simp) (by go_simp) rfl HTR.out (by kernel_rfl) (stL_one _ _) HWF.out ?_))
          refine bodyPost_ret (v := .agg (stL h3 s3).toArray) (results_cell_row rfl _ _ R _ _ _ _ rfl HFR.out Try.underlying32 rfl (by kernel_rfl)) rfl ?_
          rw [HPQ.out]
          show StTold w _ _ _
          rw [HES.out]
          exact ⟨h3, rfl, HKF.out, HXF.out⟩
set_option maxRecDepth 100000 in
set_option maxHeartbeats 32000000 in
theorem r13Next_any (h : StH) (s : St) (i : Nat) (x : Pr) (g : Int) (w : World) (hk : StOk w h s) (hf : StFew s) (hp : s.ps[i]? = some x) : Calls Try.prog 57 #[stV h s, .int .i64 ((i : Int) + 1), .int .i64 g] w (StRet w (s.next ((i : Int) + 1) g)) := by
  have HP0 := Lib.hid hp
  clear hp
  have HF := Lib.hid hf
  have HK := Lib.hid hk
  obtain ⟨W0, hW0⟩ : ∃ W0, w.heap.size = W0 := ⟨_, rfl⟩
  obtain ⟨R, hR⟩ : ∃ R, W0 + 1 = R := ⟨_, rfl⟩
  obtain ⟨w2, hw2⟩ : ∃ w2, (w.alloc (.cells #[.slice h.pa s.prog.length h.pc, .slice h.ga s.gs.length h.gc, .slice h.qa s.ps.length h.qc, .slice h.ma s.ms.length h.mc, .slice h.la s.glob.length h.lc, .int .i64 s.c0, .int .i64 s.c1, .int .i64 s.c2, .int .i64 s.c3, .slice h.a0 s.w0.length h.k0, .slice h.a1 s.w1.length h.k1, .slice h.a2 s.w2.length h.k2, .slice h.a3 s.w3.length h.k3, .slice h.ta s.timers.length h.tc, .int .i64 s.clock, .int .i64 s.procs] 32)).alloc (.cells #[.slice none 0 0, .slice none 0 0, .slice none 0 0, .slice none 0 0, .slice none 0 0, .int .i64 0, .int .i64 0, .int .i64 0, .int .i64 0, .slice none 0 0, .slice none 0 0, .slice none 0 0, .slice none 0 0, .slice none 0 0, .int .i64 0, .int .i64 0] 32) = w2 := ⟨_, rfl⟩
  have HX1 : Hid (Ext w w2) := Lib.hid (by rw [← hw2]; exact ((Ext.refl w).alloc _).alloc _)
  have HB1 : Hid (w2.heap[W0]? = some (.cells (stC h s) 32 (0, 0))) := Lib.hid (by rw [← hw2, ← hW0]; exact blk_alloc (blk_new w _) _)
  have HR1 : Hid (w2.heap[R]? = some (.cells #[.slice none 0 0, .slice none 0 0, .slice none 0 0, .slice none 0 0, .slice none 0 0, .int .i64 0, .int .i64 0, .int .i64 0, .int .i64 0, .slice none 0 0, .slice none 0 0, .slice none 0 0, .slice none 0 0, .slice none 0 0, .int .i64 0, .int .i64 0] 32 (0, 0))) := Lib.hid (by
    have := blk_new (w.alloc (.cells #[.slice h.pa s.prog.length h.pc, .slice h.ga s.gs.length h.gc, .slice h.qa s.ps.length h.qc, .slice h.ma s.ms.length h.mc, .slice h.la s.glob.length h.lc, .int .i64 s.c0, .int .i64 s.c1, .int .i64 s.c2, .int .i64 s.c3, .slice h.a0 s.w0.length h.k0, .slice h.a1 s.w1.length h.k1, .slice h.a2 s.w2.length h.k2, .slice h.a3 s.w3.length h.k3, .slice h.ta s.timers.length h.tc, .int .i64 s.clock, .int .i64 s.procs] 32)) (.cells #[.slice none 0 0, .slice none 0 0, .slice none 0 0, .slice none 0 0, .slice none 0 0, .int .i64 0, .int .i64 0, .int .i64 0, .int .i64 0, .slice none 0 0, .slice none 0 0, .slice none 0 0, .slice none 0 0, .slice none 0 0, .int .i64 0, .int .i64 0] 32)
    rw [hw2, World.size_alloc, hW0, hR] at this
    exact this)
  have HRR := Lib.hid hR
  have HW0 := Lib.hid hW0
  have HW2 := Lib.hid hw2
  have HK1 := Lib.hid (hk.ext HX1.out)
  clear hk hf hw2 hW0 hR
  obtain ⟨PQ, hPQ⟩ : ∃ PQ : Ending → World → Prop, PQ = StRet w (s.next ((i : Int) + 1) g) := ⟨_, rfl⟩
  rw [← hPQ]
  have HPQ := Lib.hid hPQ
  clear hPQ
  unfold stV
  go_enter Try.func57, Try.ntmps57
  go_upto_region 1 with fail
  rw [HW2.out, HW0.out, HRR.out]
  generalize Value.agg #[.slice h.pa s.prog.length h.pc, .slice h.ga s.gs.length h.gc, .slice h.qa s.ps.length h.qc, .slice h.ma s.ms.length h.mc, .slice h.la s.glob.length h.lc, .int .i64 s.c0, .int .i64 s.c1, .int .i64 s.c2, .int .i64 s.c3, .slice h.a0 s.w0.length h.k0, .slice h.a1 s.w1.length h.k1, .slice h.a2 s.w2.length h.k2, .slice h.a3 s.w3.length h.k3, .slice h.ta s.timers.length h.tc, .int .i64 s.clock, .int .i64 s.procs] = sv0
  have q2 := st2 HB1.out
  have hp := HP0.out
  have hb8 := HK.out.buf _ (List.mem_of_getElem? hp)
  have hil := (List.getElem?_eq_some_iff.1 hp).1
  obtain ⟨m, nx, r0, sq⟩ := x
  obtain ⟨b0, b1, b2, b3, b4, b5, b6, b7, hd, nn, rfl⟩ := Ri.open8 hb8
  have HP := Lib.hid hp
  have HIL := Lib.hid hil
  have e1 : (i : Int) + 1 - 1 = (i : Int) := by omega
  have e4 : (i : Int) < (s.ps.length : Int) := by omega
  have e5 : (i : Int) < 100000 := by have := HF.out.ps; omega
  obtain ⟨bq, oq, hqa, hqb, hqc⟩ := (HK1.out.ps).get hp
  have HRG : Hid (w2.rangeAt bq (oq + i * 13) (pL ⟨m, nx, ⟨[b0, b1, b2, b3, b4, b5, b6, b7], hd, nn⟩, sq⟩)) := Lib.hid (fun j u hu => hqc j u hu)
  rw [hqa] at q2
  obtain ⟨pv, hpv⟩ : ∃ pv, Value.agg #[.int .i64 m, .int .i64 nx, .int .i64 b0, .int .i64 b1, .int .i64 b2, .int .i64 b3, .int .i64 b4, .int .i64 b5, .int .i64 b6, .int .i64 b7, .int .i64 hd, .int .i64 nn, .int .i64 sq] = pv := ⟨_, rfl⟩
  obtain ⟨wc, hwc⟩ : ∃ wc, w2.alloc (.cells #[.int .i64 0, .int .i64 0, .int .i64 0, .int .i64 0, .int .i64 0, .int .i64 0, .int .i64 0, .int .i64 0, .int .i64 0, .int .i64 0, .int .i64 0, .int .i64 0, .int .i64 0] 40) = wc := ⟨_, rfl⟩
  obtain ⟨BP, hBP⟩ : ∃ BP, w2.heap.size = BP := ⟨_, rfl⟩
  obtain ⟨wd, hwd⟩ : ∃ wd, wc.setCells BP 0 (pL ⟨m, nx, ⟨[b0, b1, b2, b3, b4, b5, b6, b7], hd, nn⟩, sq⟩) = wd := ⟨_, rfl⟩
  obtain ⟨we, hwe⟩ : ∃ we, wd.setCell ⟨BP, 1, none⟩ (.int .i64 g) = we := ⟨_, rfl⟩
  have hbc : wc.heap[BP]? = some (.cells #[.int .i64 0, .int .i64 0, .int .i64 0, .int .i64 0, .int .i64 0, .int .i64 0, .int .i64 0, .int .i64 0, .int .i64 0, .int .i64 0, .int .i64 0, .int .i64 0, .int .i64 0] 40 (0, 0)) := by rw [← hwc, ← hBP]; exact blk_new w2 _
  have HTP : Hid (wc.there BP 0 (pL ⟨m, nx, ⟨[b0, b1, b2, b3, b4, b5, b6, b7], hd, nn⟩, sq⟩).length) := Lib.hid (there_row hbc (by rw [pL_len]; exact Nat.le_refl 13))
  have hbd : wd.heap[BP]? = some (.cells (pL ⟨m, nx, ⟨[b0, b1, b2, b3, b4, b5, b6, b7], hd, nn⟩, sq⟩).toArray 40 (0, 0)) := by rw [← hwd]; exact setCells_at [.int .i64 0, .int .i64 0, .int .i64 0, .int .i64 0, .int .i64 0, .int .i64 0, .int .i64 0, .int .i64 0, .int .i64 0, .int .i64 0, .int .i64 0, .int .i64 0, .int .i64 0] (pL ⟨m, nx, ⟨[b0, b1, b2, b3, b4, b5, b6, b7], hd, nn⟩, sq⟩) (by rw [pL_len]; rfl) hbc
  have hxd : Ext w2 wd := by rw [← hwd]; exact Ext.upd (a := w2) (by rw [← hwc]; exact (Ext.refl _).alloc _) (setCells_upd _ _ _ _) (by omega)
  have c1 : wd.cell? ⟨BP, 1, none⟩ = some (.int .i64 nx) := blk_cell hbd 1 _ rfl
  have z1 := frozen_of_row _ _ 1 _ _ hbd
  have HBE : Hid (we.heap[BP]? = some (.cells (pL ⟨m, g, ⟨[b0, b1, b2, b3, b4, b5, b6, b7], hd, nn⟩, sq⟩).toArray 40 (0, 0))) := Lib.hid (by rw [← hwe]; exact blk_set hbd 1 _)
  have HXE : Hid (Ext w2 we) := Lib.hid (by rw [← hwe]; exact hxd.setCell (p := ⟨BP, 1, none⟩) (by simp only; omega) _)
  have HPV := Lib.hid hpv
  have HWC := Lib.hid hwc
  have HBPP := Lib.hid hBP
  have HWD := Lib.hid hwd
  have HWE := Lib.hid hwe
  obtain ⟨pv2, hpv2⟩ : ∃ pv2, Value.agg (pL ⟨m, g, ⟨[b0, b1, b2, b3, b4, b5, b6, b7], hd, nn⟩, sq⟩).toArray = pv2 := ⟨_, rfl⟩
  have HPV2 := Lib.hid hpv2
  have HSET := Lib.hid (rSetP_in h s i m g b0 b1 b2 b3 b4 b5 b6 b7 hd nn sq we (HK1.out.ext HXE.out) HF.out HIL.out)
  rw [show Value.agg #[.int .i64 m, .int .i64 g, .int .i64 b0, .int .i64 b1, .int .i64 b2, .int .i64 b3, .int .i64 b4, .int .i64 b5, .int .i64 b6, .int .i64 b7, .int .i64 hd, .int .i64 nn, .int .i64 sq] = pv2 from hpv2] at HSET
  have HBS := Lib.hid (HXE.out.blk HB1.out)
  have HRS := Lib.hid (HXE.out.blk HR1.out)
  have HXW := Lib.hid (HX1.out.trans HXE.out)
  clear hb8 hp hil hqa hqb hqc hpv hwc hBP hwd hwe hbc hbd hxd hpv2
  go_upto_region 3 with (first | rw [HWC.out, HBPP.out] | (refine wpList_load_rowM (by rfl) 40 _ rfl bq (oq + i * 13) (by go_simp) (pL ⟨m, nx, ⟨[b0, b1, b2, b3, b4, b5, b6, b7], hd, nn⟩, sq⟩) pv HPV.out.symm _ (HRG.out) Try.underlying40 rfl (by first | kernel_rfl | (rw [pL_len]; kernel_rfl)) ?_) | (refine wpList_store_rowM rfl 40 _ _ rfl BP 0 (pL ⟨m, nx, ⟨[b0, b1, b2, b3, b4, b5, b6, b7], hd, nn⟩, sq⟩) pv (by go_simp) (by go_simp) HPV.out.symm HTP.out (by first | kernel_rfl | (rw [pL_len]; kernel_rfl)) (pL_one _) HWD.out ?_))
  clear q2 e1 e4 e5
  go_wp2_with (first | rw [HWE.out] | (refine wpList_load_rowW (by rfl) 32 _ rfl W0 (by go_simp) (stL h s) (stV h s) rfl _ (range_row HBS.out) Try.underlying32 rfl (by kernel_rfl) ?_) | (refine wpList_load_rowM (by rfl) 40 _ rfl BP 0 (by go_simp) (pL ⟨m, g, ⟨[b0, b1, b2, b3, b4, b5, b6, b7], hd, nn⟩, sq⟩) pv2 HPV2.out.symm _ (range_row HBE.out) Try.underlying40 rfl (by first | kernel_rfl | (rw [pL_len]; kernel_rfl)) ?_))
  clear c1 z1
  refine HSET.out.mono ?_
  rintro e w3 ⟨h1, I, rfl, ho, hx⟩
  obtain ⟨s1, hs1⟩ : ∃ s1 : St, { s with ps := s.ps.set i ⟨m, g, ⟨[b0, b1, b2, b3, b4, b5, b6, b7], hd, nn⟩, sq⟩ } = s1 := ⟨_, rfl⟩
  rw [hs1] at ho ⊢
  have HNX : Hid (s.next ((i : Int) + 1) g = s1.tail ((i : Int) + 1) nx) := Lib.hid (by
    unfold St.next
    rw [St.pAt_of HP.out, St.putP_of]
    exact congrArg (fun t : St => t.tail ((i : Int) + 1) nx) hs1)
  have HBF : Hid (∀ p ∈ s1.ps, p.ring.buf.length = 8) := Lib.hid (by
    rw [← hs1]
    intro p hp
    rcases List.mem_or_eq_of_mem_set hp with hp | rfl
    · exact HK.out.buf p hp
    · rfl)
  have HF1 : Hid (StFew s1) := Lib.hid (by
    rw [← hs1]
    have hf := HF.out
    exact ⟨hf.prog, hf.gs, by show (s.ps.set i _).length ≤ _; rw [List.length_set]; exact hf.ps, hf.ms, hf.glob, hf.w, hf.timers, hf.tnum⟩)
  obtain ⟨w4, hw4⟩ : ∃ w4, w3.setCells W0 0 (stL h1 s1) = w4 := ⟨_, rfl⟩
  have hst := Sit.start (w := w) rfl HXW.out HBS.out HRS.out hx ho (by have := HRR.out; omega) (by have := HW0.out; omega) (by have := HW0.out; have := HRR.out; omega)
  rw [hw4] at hst
  have HTH := Lib.hid hst.1
  have S4 := Lib.hid hst.2
  have HW4 := Lib.hid hw4
  have HK4 : Hid (StOk w4 h1 s1) := Lib.hid (by obtain ⟨I, hI⟩ := S4.out.ap; exact hI.ok HBF.out)
  clear ho hx hs1 hst hw4
  go_upto_region 5 with (refine wpList_store_row rfl 32 _ _ rfl W0 (stL h1 s1) (stV h1 s1) (by go_simp) (by go_simp) rfl HTH.out (by kernel_rfl) (stL_one _ _) HW4.out ?_)
  by_cases h0 : nx = 0
  · have HE : Hid (s.next ((i : Int) + 1) g = s1) := Lib.hid (by rw [HNX.out]; exact St.tail_no (by omega))
    have h0' : (nx == 0) = true := by simpa using h0
    clear h0
    obtain ⟨wf, hwf⟩ : ∃ wf, w4.setCells R 0 (stL h1 s1) = wf := ⟨_, rfl⟩
    have HWF := Lib.hid hwf
    have hfi := S4.out.fin
    rw [hwf] at hfi
    have HFI := Lib.hid hfi
    have HTR := Lib.hid (S4.out.there (h' := h1) (s' := s1))
    clear hwf hfi
    go_wp2_with (first | (refine wpList_load_rowW (by rfl) 32 _ rfl W0 (by go_simp) (stL h1 s1) (stV h1 s1) rfl _ (range_row S4.out.box) Try.underlying32 rfl (by kernel_rfl) ?_) | (refine wpList_store_row rfl 32 _ _ rfl R (stL h1 s1) (stV h1 s1) (by go_simp) (by go_simp) rfl HTR.out (by kernel_rfl) (stL_one _ _) HWF.out ?_))
    refine bodyPost_ret (v := .agg (stL h1 s1).toArray) (results_cell_row rfl _ _ R _ _ _ _ rfl HFI.out.1 Try.underlying32 rfl (by kernel_rfl)) rfl ?_
    rw [HPQ.out, HE.out]
    obtain ⟨I, hI⟩ := HFI.out.2.1
    exact ⟨h1, I, rfl, hI, HFI.out.2.2⟩
  · have h0' : (nx == 0) = false := by simpa using h0
    clear h0
    go_wp2_with (refine wpList_load_rowW (by rfl) 32 _ rfl W0 (by go_simp) (stL h1 s1) (stV h1 s1) rfl _ (range_row S4.out.box) Try.underlying32 rfl (by kernel_rfl) ?_)
    refine (r13Tail_any h1 s1 ((i : Int) + 1) nx w4 HK4.out HF1.out).mono ?_
    rintro e w5 ⟨h2, rfl, hk5, hx5, hw5⟩
    rw [← HNX.out] at hk5 hw5 ⊢
    obtain ⟨s2, hs2⟩ : ∃ s2, s.next ((i : Int) + 1) g = s2 := ⟨_, rfl⟩
    rw [hs2] at hk5 hw5 ⊢
    have HS2 := Lib.hid hs2
    have hr5 := hx5.blk S4.out.res
    have hlo := S4.out.lo
    obtain ⟨wf, hwf⟩ : ∃ wf, w5.setCells R 0 (stL h2 s2) = wf := ⟨_, rfl⟩
    have hu := setCells_upd R (stL h2 s2) w5 0
    have HFR : Hid (wf.heap[R]? = some (.cells (stL h2 s2).toArray 32 (0, 0))) := Lib.hid (by rw [← hwf]; exact setCells_at [.slice none 0 0, .slice none 0 0, .slice none 0 0, .slice none 0 0, .slice none 0 0, .int .i64 0, .int .i64 0, .int .i64 0, .int .i64 0, .slice none 0 0, .slice none 0 0, .slice none 0 0, .slice none 0 0, .slice none 0 0, .int .i64 0, .int .i64 0] (stL h2 s2) rfl hr5)
    have HTR : Hid (w5.there R 0 (stL h2 s2).length) := Lib.hid (there_row hr5 (Nat.le_refl 16))
    have HXF : Hid (Ext w wf) := Lib.hid (by rw [← hwf]; exact (S4.out.ext.trans hx5).upd hu hlo.2.2.2.2.1)
    have HAF : Hid (∃ I, StApart w.heap.size wf I h2 s2) := Lib.hid (by
      have hsz := HXW.out.size
      rw [← hwf]
      rcases hw5 with ⟨e1, e2⟩ | ⟨I, hI⟩
      · subst e1 e2
        obtain ⟨I, hI⟩ := S4.out.ap
        exact ⟨I, ((hI.ext hx5).far (But.upd (S := fun b => b = R) hu rfl) (fun b hb => by omega)).lower (by omega)⟩
      · exact ⟨I, (hI.far (But.upd (S := fun b => b = R) hu rfl) (fun b hb => by omega)).lower (by omega)⟩)
    have HWF := Lib.hid hwf
    clear hk5 hx5 hw5 hs2 hr5 hlo hwf hu
    go_wp2_with (refine wpList_store_row rfl 32 _ _ rfl R (stL h2 s2) (stV h2 s2) (by go_simp) (by go_simp) rfl HTR.out (by kernel_rfl) (stL_one _ _) HWF.out ?_)
    refine bodyPost_ret (v := .agg (stL h2 s2).toArray) (results_cell_row rfl _ _ R _ _ _ _ rfl HFR.out Try.underlying32 rfl (by kernel_rfl)) rfl ?_
    rw [HPQ.out, HS2.out]
    obtain ⟨I, hI⟩ := HAF.out
    exact ⟨h2, I, rfl, hI, HXF.out⟩
end Go.Proofs.Ytogcfndhcphpaaa
