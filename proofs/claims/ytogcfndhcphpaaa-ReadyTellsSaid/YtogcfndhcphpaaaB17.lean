/-
  Several texts in one: Us, Ut, Ux.
-/
import Derived.Test.YtogcfndhcphpaaaB15
import Derived.Test.YtogcfndhcphpaaaB10
import Derived.Test.YtogcfndhcphpaaaB16
import Derived.Test.YtogcfndhcphpaaaB13
set_option linter.unusedVariables false
set_option linter.unusedSimpArgs false
namespace Go.Proofs.Ytogcfndhcphpaaa
open Go.RowKit
def StRet (w : World) (s : St) (e : Ending) (w' : World) : Prop := ∃ h' I, e = .returned (stV h' s) ∧ StApart w.heap.size w' I h' s ∧ Ext w w'
set_option maxRecDepth 100000 in
set_option maxHeartbeats 16000000 in
theorem rSetP_in (h : StH) (s : St) (i : Nat) (m nx b0 b1 b2 b3 b4 b5 b6 b7 hd nn sq : Int) (w : World) (hk : StOk w h s) (hf : StFew s) (hi : i < s.ps.length) : Calls Try.prog 62 #[stV h s, .int .i64 ((i : Int) + 1), .agg #[.int .i64 m, .int .i64 nx, .int .i64 b0, .int .i64 b1, .int .i64 b2, .int .i64 b3, .int .i64 b4, .int .i64 b5, .int .i64 b6, .int .i64 b7, .int .i64 hd, .int .i64 nn, .int .i64 sq]] w (StRet w { s with ps := s.ps.set i ⟨m, nx, ⟨[b0, b1, b2, b3, b4, b5, b6, b7], hd, nn⟩, sq⟩ }) := by
  have HI := Lib.hid hi
  have HF := Lib.hid hf
  have HK := Lib.hid hk
  obtain ⟨W0, hW0⟩ : ∃ W0, w.heap.size = W0 := ⟨_, rfl⟩
  obtain ⟨G0, hG0⟩ : ∃ G0, W0 + 1 = G0 := ⟨_, rfl⟩
  obtain ⟨R, hR⟩ : ∃ R, G0 + 1 = R := ⟨_, rfl⟩
  obtain ⟨w2, hw2⟩ : ∃ w2, ((w.alloc (.cells #[.slice h.pa s.prog.length h.pc, .slice h.ga s.gs.length h.gc, .slice h.qa s.ps.length h.qc, .slice h.ma s.ms.length h.mc, .slice h.la s.glob.length h.lc, .int .i64 s.c0, .int .i64 s.c1, .int .i64 s.c2, .int .i64 s.c3, .slice h.a0 s.w0.length h.k0, .slice h.a1 s.w1.length h.k1, .slice h.a2 s.w2.length h.k2, .slice h.a3 s.w3.length h.k3, .slice h.ta s.timers.length h.tc, .int .i64 s.clock, .int .i64 s.procs] 32)).alloc (.cells #[.int .i64 m, .int .i64 nx, .int .i64 b0, .int .i64 b1, .int .i64 b2, .int .i64 b3, .int .i64 b4, .int .i64 b5, .int .i64 b6, .int .i64 b7, .int .i64 hd, .int .i64 nn, .int .i64 sq] 40)).alloc (.cells #[.slice none 0 0, .slice none 0 0, .slice none 0 0, .slice none 0 0, .slice none 0 0, .int .i64 0, .int .i64 0, .int .i64 0, .int .i64 0, .slice none 0 0, .slice none 0 0, .slice none 0 0, .slice none 0 0, .slice none 0 0, .int .i64 0, .int .i64 0] 32) = w2 := ⟨_, rfl⟩
  have HX1 : Hid (Ext w w2) := Lib.hid (by rw [← hw2]; exact (((Ext.refl w).alloc _).alloc _).alloc _)
  have HB1 : Hid (w2.heap[W0]? = some (.cells (stC h s) 32 (0, 0))) := Lib.hid (by rw [← hw2, ← hW0]; exact blk_alloc (blk_alloc (blk_new w _) _) _)
  have HG1 : Hid (w2.heap[G0]? = some (.cells #[.int .i64 m, .int .i64 nx, .int .i64 b0, .int .i64 b1, .int .i64 b2, .int .i64 b3, .int .i64 b4, .int .i64 b5, .int .i64 b6, .int .i64 b7, .int .i64 hd, .int .i64 nn, .int .i64 sq] 40 (0, 0))) := Lib.hid (by
    have := blk_alloc (blk_new (w.alloc (.cells #[.slice h.pa s.prog.length h.pc, .slice h.ga s.gs.length h.gc, .slice h.qa s.ps.length h.qc, .slice h.ma s.ms.length h.mc, .slice h.la s.glob.length h.lc, .int .i64 s.c0, .int .i64 s.c1, .int .i64 s.c2, .int .i64 s.c3, .slice h.a0 s.w0.length h.k0, .slice h.a1 s.w1.length h.k1, .slice h.a2 s.w2.length h.k2, .slice h.a3 s.w3.length h.k3, .slice h.ta s.timers.length h.tc, .int .i64 s.clock, .int .i64 s.procs] 32)) (.cells #[.int .i64 m, .int .i64 nx, .int .i64 b0, .int .i64 b1, .int .i64 b2, .int .i64 b3, .int .i64 b4, .int .i64 b5, .int .i64 b6, .int .i64 b7, .int .i64 hd, .int .i64 nn, .int .i64 sq] 40)) (.cells #[.slice none 0 0, .slice none 0 0, .slice none 0 0, .slice none 0 0, .slice none 0 0, .int .i64 0, .int .i64 0, .int .i64 0, .int .i64 0, .slice none 0 0, .slice none 0 0, .slice none 0 0, .slice none 0 0, .slice none 0 0, .int .i64 0, .int .i64 0] 32)
    rw [hw2, World.size_alloc, hW0, hG0] at this
    exact this)
  have HR1 : Hid (w2.heap[R]? = some (.cells #[.slice none 0 0, .slice none 0 0, .slice none 0 0, .slice none 0 0, .slice none 0 0, .int .i64 0, .int .i64 0, .int .i64 0, .int .i64 0, .slice none 0 0, .slice none 0 0, .slice none 0 0, .slice none 0 0, .slice none 0 0, .int .i64 0, .int .i64 0] 32 (0, 0))) := Lib.hid (by
    have := blk_new ((w.alloc (.cells #[.slice h.pa s.prog.length h.pc, .slice h.ga s.gs.length h.gc, .slice h.qa s.ps.length h.qc, .slice h.ma s.ms.length h.mc, .slice h.la s.glob.length h.lc, .int .i64 s.c0, .int .i64 s.c1, .int .i64 s.c2, .int .i64 s.c3, .slice h.a0 s.w0.length h.k0, .slice h.a1 s.w1.length h.k1, .slice h.a2 s.w2.length h.k2, .slice h.a3 s.w3.length h.k3, .slice h.ta s.timers.length h.tc, .int .i64 s.clock, .int .i64 s.procs] 32)).alloc (.cells #[.int .i64 m, .int .i64 nx, .int .i64 b0, .int .i64 b1, .int .i64 b2, .int .i64 b3, .int .i64 b4, .int .i64 b5, .int .i64 b6, .int .i64 b7, .int .i64 hd, .int .i64 nn, .int .i64 sq] 40)) (.cells #[.slice none 0 0, .slice none 0 0, .slice none 0 0, .slice none 0 0, .slice none 0 0, .int .i64 0, .int .i64 0, .int .i64 0, .int .i64 0, .slice none 0 0, .slice none 0 0, .slice none 0 0, .slice none 0 0, .slice none 0 0, .int .i64 0, .int .i64 0] 32)
    rw [hw2, World.size_alloc, World.size_alloc, hW0, hG0, hR] at this
    exact this)
  have HRR := Lib.hid hR
  have HG0 := Lib.hid hG0
  have HW0 := Lib.hid hW0
  have HW2 := Lib.hid hw2
  have HK1 := Lib.hid (hk.ext HX1.out)
  clear hk hf hw2 hW0 hR hG0
  clear hi
  obtain ⟨PQ, hPQ⟩ : ∃ PQ : Ending → World → Prop, PQ = StRet w { s with ps := s.ps.set i ⟨m, nx, ⟨[b0, b1, b2, b3, b4, b5, b6, b7], hd, nn⟩, sq⟩ } := ⟨_, rfl⟩
  rw [← hPQ]
  have HPQ := Lib.hid hPQ
  clear hPQ
  unfold stV
  go_enter Try.func62, Try.ntmps62
  go_upto_region 1 with fail
  rw [HW2.out, HW0.out, HG0.out, HRR.out]
  generalize Value.agg #[.slice h.pa s.prog.length h.pc, .slice h.ga s.gs.length h.gc, .slice h.qa s.ps.length h.qc, .slice h.ma s.ms.length h.mc, .slice h.la s.glob.length h.lc, .int .i64 s.c0, .int .i64 s.c1, .int .i64 s.c2, .int .i64 s.c3, .slice h.a0 s.w0.length h.k0, .slice h.a1 s.w1.length h.k1, .slice h.a2 s.w2.length h.k2, .slice h.a3 s.w3.length h.k3, .slice h.ta s.timers.length h.tc, .int .i64 s.clock, .int .i64 s.procs] = sv0
  go_wp2_with (refine wpList_load_rowW (by rfl) 32 _ rfl W0 (by go_simp) (stL h s) (stV h s) rfl _ (range_row HB1.out) Try.underlying32 rfl (by kernel_rfl) ?_)
  refine (rCopy_any h s _ HK1.out HF.out).mono ?_
  rintro e w3 ⟨h1, I, rfl, ho, hx⟩
  obtain ⟨w4, hw4⟩ : ∃ w4, w3.setCells W0 0 (stL h1 s) = w4 := ⟨_, rfl⟩
  have hst := Sit.start (w := w) rfl HX1.out HB1.out HR1.out hx ho (by have := HRR.out; have := HG0.out; omega) (by have := HW0.out; omega) (by have := HW0.out; have := HRR.out; have := HG0.out; omega)
  rw [hw4] at hst
  have HTH := Lib.hid hst.1
  have S4 := Lib.hid hst.2
  have HW4 := Lib.hid hw4
  have HX3 := Lib.hid hx
  have HU4 : Hid (Upd W0 w3 w4) := Lib.hid (by rw [← hw4]; exact setCells_upd _ _ _ _)
  clear ho hx hst hw4
  have HGL : Hid (G0 < w2.heap.size) := Lib.hid (blk_lt HG1.out)
  have HG4 : Hid (w4.heap[G0]? = some (.cells (pL ⟨m, nx, ⟨[b0, b1, b2, b3, b4, b5, b6, b7], hd, nn⟩, sq⟩).toArray 40 (0, 0))) := Lib.hid ((HU4.out.block G0 (by have := HX3.out.size; have := HGL.out; omega) (fun e => by injection e; have := HG0.out; omega)).trans (HX3.out.blk HG1.out))
  go_upto_region 2 with (refine wpList_store_row rfl 32 _ _ rfl W0 (stL h1 s) (stV h1 s) (by go_simp) (by go_simp) rfl HTH.out (by kernel_rfl) (stL_one _ _) HW4.out ?_)
  have e1 : (i : Int) + 1 - 1 = (i : Int) := by omega
  have e4 : (i : Int) < (s.ps.length : Int) := by have := HI.out; omega
  have e5 : (i : Int) < 100000 := by have := HF.out.ps; have := HI.out; omega
  obtain ⟨bq, hqa, hqb, hrg⟩ := S4.out.getP (List.getElem?_eq_getElem HI.out)
  have q2 : w4.cell? ⟨W0, 2, none⟩ = some (.slice (some ⟨bq, 0, none⟩) s.ps.length h1.qc) := by rw [← hqa]; have := st2 S4.out.box; exact this
  have hst5 := S4.out.setP' (List.getElem?_eq_getElem HI.out) hqa (x' := ⟨m, nx, ⟨[b0, b1, b2, b3, b4, b5, b6, b7], hd, nn⟩, sq⟩) (j := 0) (ds := pL ⟨m, nx, ⟨[b0, b1, b2, b3, b4, b5, b6, b7], hd, nn⟩, sq⟩) (by rw [pL_len]; decide) (fun t ht => by rw [if_pos (by rw [pL_len]; omega)]; rfl)
  rw [Nat.add_zero] at hst5
  obtain ⟨w5, hw5⟩ : ∃ w5, w4.setCells bq (i * 13) (pL ⟨m, nx, ⟨[b0, b1, b2, b3, b4, b5, b6, b7], hd, nn⟩, sq⟩) = w5 := ⟨_, rfl⟩
  rw [hw5] at hst5
  have HTH5 := Lib.hid hst5.1
  have HW5 := Lib.hid hw5
  obtain ⟨s', hs'⟩ : ∃ s' : St, { s with ps := s.ps.set i ⟨m, nx, ⟨[b0, b1, b2, b3, b4, b5, b6, b7], hd, nn⟩, sq⟩ } = s' := ⟨_, rfl⟩
  have hs5 := hst5.2
  rw [hs'] at hs5
  have S5 := Lib.hid hs5
  have HE : Hid (StRet w { s with ps := s.ps.set i ⟨m, nx, ⟨[b0, b1, b2, b3, b4, b5, b6, b7], hd, nn⟩, sq⟩ } = StRet w s') := Lib.hid (by rw [hs'])
  obtain ⟨pv, hpv⟩ : ∃ pv, Value.agg (pL ⟨m, nx, ⟨[b0, b1, b2, b3, b4, b5, b6, b7], hd, nn⟩, sq⟩).toArray = pv := ⟨_, rfl⟩
  have HPV := Lib.hid hpv
  clear hqa hqb hrg hst5 hw5 hs5 hs' hpv
  go_upto_region 3 with (first | (refine wpList_load_rowM (by rfl) 40 _ rfl G0 0 (by go_simp) (pL ⟨m, nx, ⟨[b0, b1, b2, b3, b4, b5, b6, b7], hd, nn⟩, sq⟩) pv HPV.out.symm _ (range_row HG4.out) Try.underlying40 rfl (by rw [pL_len]; kernel_rfl) ?_) | (refine wpList_store_rowM rfl 40 _ _ rfl bq (i * 13) (pL ⟨m, nx, ⟨[b0, b1, b2, b3, b4, b5, b6, b7], hd, nn⟩, sq⟩) pv (by go_simp) (by go_simp) HPV.out.symm HTH5.out (by rw [pL_len]; kernel_rfl) (pL_one _) HW5.out ?_))
  clear q2 e1 e4 e5
  obtain ⟨wf, hwf⟩ : ∃ wf, w5.setCells R 0 (stL h1 s') = wf := ⟨_, rfl⟩
  have HWF := Lib.hid hwf
  have hfi := S5.out.fin
  rw [hwf] at hfi
  have HFI := Lib.hid hfi
  have HTR := Lib.hid (S5.out.there (h' := h1) (s' := s'))
  clear hwf hfi
  go_wp2_with (first | (refine wpList_load_rowW (by rfl) 32 _ rfl W0 (by go_simp) (stL h1 s') (stV h1 s') rfl _ (range_row S5.out.box) Try.underlying32 rfl (by kernel_rfl) ?_) | (refine wpList_store_row rfl 32 _ _ rfl R (stL h1 s') (stV h1 s') (by go_simp) (by go_simp) rfl HTR.out (by kernel_rfl) (stL_one _ _) HWF.out ?_))
  refine bodyPost_ret (v := .agg (stL h1 s').toArray) (results_cell_row rfl _ _ R _ _ _ _ rfl HFI.out.1 Try.underlying32 rfl (by kernel_rfl)) rfl ?_
  rw [HPQ.out, HE.out]
  obtain ⟨I, hI⟩ := HFI.out.2.1
  exact ⟨h1, I, rfl, hI, HFI.out.2.2⟩
set_option maxRecDepth 100000 in
set_option maxHeartbeats 16000000 in
theorem rSetM_in (h : StH) (s : St) (i : Nat) (mp mg : Int) (w : World) (hk : StOk w h s) (hf : StFew s) (hi : i < s.ms.length) : Calls Try.prog 60 #[stV h s, .int .i64 ((i : Int) + 1), .agg #[.int .i64 mp, .int .i64 mg]] w (StRet w { s with ms := s.ms.set i (mp, mg) }) := by
  have HI := Lib.hid hi
  have HF := Lib.hid hf
  have HK := Lib.hid hk
  obtain ⟨W0, hW0⟩ : ∃ W0, w.heap.size = W0 := ⟨_, rfl⟩
  obtain ⟨G0, hG0⟩ : ∃ G0, W0 + 1 = G0 := ⟨_, rfl⟩
  obtain ⟨R, hR⟩ : ∃ R, G0 + 1 = R := ⟨_, rfl⟩
  obtain ⟨w2, hw2⟩ : ∃ w2, ((w.alloc (.cells #[.slice h.pa s.prog.length h.pc, .slice h.ga s.gs.length h.gc, .slice h.qa s.ps.length h.qc, .slice h.ma s.ms.length h.mc, .slice h.la s.glob.length h.lc, .int .i64 s.c0, .int .i64 s.c1, .int .i64 s.c2, .int .i64 s.c3, .slice h.a0 s.w0.length h.k0, .slice h.a1 s.w1.length h.k1, .slice h.a2 s.w2.length h.k2, .slice h.a3 s.w3.length h.k3, .slice h.ta s.timers.length h.tc, .int .i64 s.clock, .int .i64 s.procs] 32)).alloc (.cells #[.int .i64 mp, .int .i64 mg] 57)).alloc (.cells #[.slice none 0 0, .slice none 0 0, .slice none 0 0, .slice none 0 0, .slice none 0 0, .int .i64 0, .int .i64 0, .int .i64 0, .int .i64 0, .slice none 0 0, .slice none 0 0, .slice none 0 0, .slice none 0 0, .slice none 0 0, .int .i64 0, .int .i64 0] 32) = w2 := ⟨_, rfl⟩
  have HX1 : Hid (Ext w w2) := Lib.hid (by rw [← hw2]; exact (((Ext.refl w).alloc _).alloc _).alloc _)
  have HB1 : Hid (w2.heap[W0]? = some (.cells (stC h s) 32 (0, 0))) := Lib.hid (by rw [← hw2, ← hW0]; exact blk_alloc (blk_alloc (blk_new w _) _) _)
  have HG1 : Hid (w2.heap[G0]? = some (.cells #[.int .i64 mp, .int .i64 mg] 57 (0, 0))) := Lib.hid (by
    have := blk_alloc (blk_new (w.alloc (.cells #[.slice h.pa s.prog.length h.pc, .slice h.ga s.gs.length h.gc, .slice h.qa s.ps.length h.qc, .slice h.ma s.ms.length h.mc, .slice h.la s.glob.length h.lc, .int .i64 s.c0, .int .i64 s.c1, .int .i64 s.c2, .int .i64 s.c3, .slice h.a0 s.w0.length h.k0, .slice h.a1 s.w1.length h.k1, .slice h.a2 s.w2.length h.k2, .slice h.a3 s.w3.length h.k3, .slice h.ta s.timers.length h.tc, .int .i64 s.clock, .int .i64 s.procs] 32)) (.cells #[.int .i64 mp, .int .i64 mg] 57)) (.cells #[.slice none 0 0, .slice none 0 0, .slice none 0 0, .slice none 0 0, .slice none 0 0, .int .i64 0, .int .i64 0, .int .i64 0, .int .i64 0, .slice none 0 0, .slice none 0 0, .slice none 0 0, .slice none 0 0, .slice none 0 0, .int .i64 0, .int .i64 0] 32)
    rw [hw2, World.size_alloc, hW0, hG0] at this
    exact this)
  have HR1 : Hid (w2.heap[R]? = some (.cells #[.slice none 0 0, .slice none 0 0, .slice none 0 0, .slice none 0 0, .slice none 0 0, .int .i64 0, .int .i64 0, .int .i64 0, .int .i64 0, .slice none 0 0, .slice none 0 0, .slice none 0 0, .slice none 0 0, .slice none 0 0, .int .i64 0, .int .i64 0] 32 (0, 0))) := Lib.hid (by
    have := blk_new ((w.alloc (.cells #[.slice h.pa s.prog.length h.pc, .slice h.ga s.gs.length h.gc, .slice h.qa s.ps.length h.qc, .slice h.ma s.ms.length h.mc, .slice h.la s.glob.length h.lc, .int .i64 s.c0, .int .i64 s.c1, .int .i64 s.c2, .int .i64 s.c3, .slice h.a0 s.w0.length h.k0, .slice h.a1 s.w1.length h.k1, .slice h.a2 s.w2.length h.k2, .slice h.a3 s.w3.length h.k3, .slice h.ta s.timers.length h.tc, .int .i64 s.clock, .int .i64 s.procs] 32)).alloc (.cells #[.int .i64 mp, .int .i64 mg] 57)) (.cells #[.slice none 0 0, .slice none 0 0, .slice none 0 0, .slice none 0 0, .slice none 0 0, .int .i64 0, .int .i64 0, .int .i64 0, .int .i64 0, .slice none 0 0, .slice none 0 0, .slice none 0 0, .slice none 0 0, .slice none 0 0, .int .i64 0, .int .i64 0] 32)
    rw [hw2, World.size_alloc, World.size_alloc, hW0, hG0, hR] at this
    exact this)
  have HRR := Lib.hid hR
  have HG0 := Lib.hid hG0
  have HW0 := Lib.hid hW0
  have HW2 := Lib.hid hw2
  have HK1 := Lib.hid (hk.ext HX1.out)
  clear hk hf hw2 hW0 hR hG0
  clear hi
  obtain ⟨PQ, hPQ⟩ : ∃ PQ : Ending → World → Prop, PQ = StRet w { s with ms := s.ms.set i (mp, mg) } := ⟨_, rfl⟩
  rw [← hPQ]
  have HPQ := Lib.hid hPQ
  clear hPQ
  unfold stV
  go_enter Try.func60, Try.ntmps60
  go_upto_region 1 with fail
  rw [HW2.out, HW0.out, HG0.out, HRR.out]
  generalize Value.agg #[.slice h.pa s.prog.length h.pc, .slice h.ga s.gs.length h.gc, .slice h.qa s.ps.length h.qc, .slice h.ma s.ms.length h.mc, .slice h.la s.glob.length h.lc, .int .i64 s.c0, .int .i64 s.c1, .int .i64 s.c2, .int .i64 s.c3, .slice h.a0 s.w0.length h.k0, .slice h.a1 s.w1.length h.k1, .slice h.a2 s.w2.length h.k2, .slice h.a3 s.w3.length h.k3, .slice h.ta s.timers.length h.tc, .int .i64 s.clock, .int .i64 s.procs] = sv0
  go_wp2_with (refine wpList_load_rowW (by rfl) 32 _ rfl W0 (by go_simp) (stL h s) (stV h s) rfl _ (range_row HB1.out) Try.underlying32 rfl (by kernel_rfl) ?_)
  refine (rCopy_any h s _ HK1.out HF.out).mono ?_
  rintro e w3 ⟨h1, I, rfl, ho, hx⟩
  obtain ⟨w4, hw4⟩ : ∃ w4, w3.setCells W0 0 (stL h1 s) = w4 := ⟨_, rfl⟩
  have hst := Sit.start (w := w) rfl HX1.out HB1.out HR1.out hx ho (by have := HRR.out; have := HG0.out; omega) (by have := HW0.out; omega) (by have := HW0.out; have := HRR.out; have := HG0.out; omega)
  rw [hw4] at hst
  have HTH := Lib.hid hst.1
  have S4 := Lib.hid hst.2
  have HW4 := Lib.hid hw4
  have HX3 := Lib.hid hx
  have HU4 : Hid (Upd W0 w3 w4) := Lib.hid (by rw [← hw4]; exact setCells_upd _ _ _ _)
  clear ho hx hst hw4
  have HGL : Hid (G0 < w2.heap.size) := Lib.hid (blk_lt HG1.out)
  have HG4 : Hid (w4.heap[G0]? = some (.cells (pairL (mp, mg)).toArray 57 (0, 0))) := Lib.hid ((HU4.out.block G0 (by have := HX3.out.size; have := HGL.out; omega) (fun e => by injection e; have := HG0.out; omega)).trans (HX3.out.blk HG1.out))
  go_upto_region 2 with (refine wpList_store_row rfl 32 _ _ rfl W0 (stL h1 s) (stV h1 s) (by go_simp) (by go_simp) rfl HTH.out (by kernel_rfl) (stL_one _ _) HW4.out ?_)
  have e1 : (i : Int) + 1 - 1 = (i : Int) := by omega
  have e4 : (i : Int) < (s.ms.length : Int) := by have := HI.out; omega
  have e5 : (i : Int) < 100000 := by have := HF.out.ms; have := HI.out; omega
  obtain ⟨bq, hqa, hqb, hrg⟩ := S4.out.getM (List.getElem?_eq_getElem HI.out)
  have q2 : w4.cell? ⟨W0, 3, none⟩ = some (.slice (some ⟨bq, 0, none⟩) s.ms.length h1.mc) := by rw [← hqa]; have := st3 S4.out.box; exact this
  have hst5 := S4.out.setM' (List.getElem?_eq_getElem HI.out) hqa (x' := (mp, mg)) (j := 0) (ds := pairL (mp, mg)) (by rw [pairL_len]; decide) (fun t ht => by rw [if_pos (by rw [pairL_len]; omega)]; rfl)
  rw [Nat.add_zero] at hst5
  obtain ⟨w5, hw5⟩ : ∃ w5, w4.setCells bq (i * 2) (pairL (mp, mg)) = w5 := ⟨_, rfl⟩
  rw [hw5] at hst5
  have HTH5 := Lib.hid hst5.1
  have HW5 := Lib.hid hw5
  obtain ⟨s', hs'⟩ : ∃ s' : St, { s with ms := s.ms.set i (mp, mg) } = s' := ⟨_, rfl⟩
  have hs5 := hst5.2
  rw [hs'] at hs5
  have S5 := Lib.hid hs5
  have HE : Hid (StRet w { s with ms := s.ms.set i (mp, mg) } = StRet w s') := Lib.hid (by rw [hs'])
  obtain ⟨pv, hpv⟩ : ∃ pv, Value.agg (pairL (mp, mg)).toArray = pv := ⟨_, rfl⟩
  have HPV := Lib.hid hpv
  clear hqa hqb hrg hst5 hw5 hs5 hs' hpv
  go_upto_region 3 with (first | (refine wpList_load_rowM (by rfl) 57 _ rfl G0 0 (by go_simp) (pairL (mp, mg)) pv HPV.out.symm _ (range_row HG4.out) Try.underlying57 rfl (by rw [pairL_len]; kernel_rfl) ?_) | (refine wpList_store_rowM rfl 57 _ _ rfl bq (i * 2) (pairL (mp, mg)) pv (by go_simp) (by go_simp) HPV.out.symm HTH5.out (by rw [pairL_len]; kernel_rfl) (pairL_one _) HW5.out ?_))
  clear q2 e1 e4 e5
  obtain ⟨wf, hwf⟩ : ∃ wf, w5.setCells R 0 (stL h1 s') = wf := ⟨_, rfl⟩
  have HWF := Lib.hid hwf
  have hfi := S5.out.fin
  rw [hwf] at hfi
  have HFI := Lib.hid hfi
  have HTR := Lib.hid (S5.out.there (h' := h1) (s' := s'))
  clear hwf hfi
  go_wp2_with (first | (refine wpList_load_rowW (by rfl) 32 _ rfl W0 (by go_simp) (stL h1 s') (stV h1 s') rfl _ (range_row S5.out.box) Try.underlying32 rfl (by kernel_rfl) ?_) | (refine wpList_store_row rfl 32 _ _ rfl R (stL h1 s') (stV h1 s') (by go_simp) (by go_simp) rfl HTR.out (by kernel_rfl) (stL_one _ _) HWF.out ?_))
  refine bodyPost_ret (v := .agg (stL h1 s').toArray) (results_cell_row rfl _ _ R _ _ _ _ rfl HFI.out.1 Try.underlying32 rfl (by kernel_rfl)) rfl ?_
  rw [HPQ.out, HE.out]
  obtain ⟨I, hI⟩ := HFI.out.2.1
  exact ⟨h1, I, rfl, hI, HFI.out.2.2⟩
set_option maxRecDepth 100000 in
set_option maxHeartbeats 16000000 in
theorem rTurn_in (h : StH) (s : St) (k : Nat) (y : Gr) (st m : Int) (w : World) (hk : StOk w h s) (hf : StFew s) (hy : s.gs[k]? = some y) (hq : 0 ≤ y.seq ∧ y.seq < 2305843009213693952) : Calls Try.prog 58 #[stV h s, .int .i64 ((k : Int) + 1), .int .i64 st, .int .i64 m] w (StRet w { s with gs := s.gs.set k { y with st := st, m := m, seq := y.seq + 1 } }) := by
  have HY := Lib.hid hy
  have HYQ := Lib.hid hq
  have HYL := Lib.hid (List.getElem?_eq_some_iff.1 hy).1
  clear hy hq
  have HF := Lib.hid hf
  have HK := Lib.hid hk
  obtain ⟨W0, hW0⟩ : ∃ W0, w.heap.size = W0 := ⟨_, rfl⟩
  obtain ⟨R, hR⟩ : ∃ R, W0 + 1 = R := ⟨_, rfl⟩
  obtain ⟨w2, hw2⟩ : ∃ w2, (w.alloc (.cells #[.slice h.pa s.prog.length h.pc, .slice h.ga s.gs.length h.gc, .slice h.qa s.ps.length h.qc, .slice h.ma s.ms.length h.mc, .slice h.la s.glob.length h.lc, .int .i64 s.c0, .int .i64 s.c1, .int .i64 s.c2, .int .i64 s.c3, .slice h.a0 s.w0.length h.k0, .slice h.a1 s.w1.length h.k1, .slice h.a2 s.w2.length h.k2, .slice h.a3 s.w3.length h.k3, .slice h.ta s.timers.length h.tc, .int .i64 s.clock, .int .i64 s.procs] 32)).alloc (.cells #[.slice none 0 0, .slice none 0 0, .slice none 0 0, .slice none 0 0, .slice none 0 0, .int .i64 0, .int .i64 0, .int .i64 0, .int .i64 0, .slice none 0 0, .slice none 0 0, .slice none 0 0, .slice none 0 0, .slice none 0 0, .int .i64 0, .int .i64 0] 32) = w2 := ⟨_, rfl⟩
  have HX1 : Hid (Ext w w2) := Lib.hid (by rw [← hw2]; exact ((Ext.refl w).alloc _).alloc _)
  have HB1 : Hid (w2.heap[W0]? = some (.cells (stC h s) 32 (0, 0))) := Lib.hid (by rw [← hw2, ← hW0]; exact blk_alloc (blk_new w _) _)
  have HR1 : Hid (w2.heap[R]? = some (.cells #[.slice none 0 0, .slice none 0 0, .slice none 0 0, .slice none 0 0, .slice none 0 0, .int .i64 0, .int .i64 0, .int .i64 0, .int .i64 0, .slice none 0 0, .slice none 0 0, .slice none 0 0, .slice none 0 0, .slice none 0 0, .int .i64 0, .int .i64 0] 32 (0, 0))) := Lib.hid (by
    have := blk_new (w.alloc (.cells #[.slice h.pa s.prog.length h.pc, .slice h.ga s.gs.length h.gc, .slice h.qa s.ps.length h.qc, .slice h.ma s.ms.length h.mc, .slice h.la s.glob.length h.lc, .int .i64 s.c0, .int .i64 s.c1, .int .i64 s.c2, .int .i64 s.c3, .slice h.a0 s.w0.length h.k0, .slice h.a1 s.w1.length h.k1, .slice h.a2 s.w2.length h.k2, .slice h.a3 s.w3.length h.k3, .slice h.ta s.timers.length h.tc, .int .i64 s.clock, .int .i64 s.procs] 32)) (.cells #[.slice none 0 0, .slice none 0 0, .slice none 0 0, .slice none 0 0, .slice none 0 0, .int .i64 0, .int .i64 0, .int .i64 0, .int .i64 0, .slice none 0 0, .slice none 0 0, .slice none 0 0, .slice none 0 0, .slice none 0 0, .int .i64 0, .int .i64 0] 32)
    rw [hw2, World.size_alloc, hW0, hR] at this
    exact this)
  have HRR := Lib.hid hR
  have HW0 := Lib.hid hW0
  have HW2 := Lib.hid hw2
  have HK1 := Lib.hid (hk.ext HX1.out)
  clear hk hf hw2 hW0 hR
  obtain ⟨PQ, hPQ⟩ : ∃ PQ : Ending → World → Prop, PQ = StRet w { s with gs := s.gs.set k { y with st := st, m := m, seq := y.seq + 1 } } := ⟨_, rfl⟩
  rw [← hPQ]
  have HPQ := Lib.hid hPQ
  clear hPQ
  unfold stV
  go_enter Try.func58, Try.ntmps58
  go_upto_region 1 with fail
  rw [HW2.out, HW0.out, HRR.out]
  generalize Value.agg #[.slice h.pa s.prog.length h.pc, .slice h.ga s.gs.length h.gc, .slice h.qa s.ps.length h.qc, .slice h.ma s.ms.length h.mc, .slice h.la s.glob.length h.lc, .int .i64 s.c0, .int .i64 s.c1, .int .i64 s.c2, .int .i64 s.c3, .slice h.a0 s.w0.length h.k0, .slice h.a1 s.w1.length h.k1, .slice h.a2 s.w2.length h.k2, .slice h.a3 s.w3.length h.k3, .slice h.ta s.timers.length h.tc, .int .i64 s.clock, .int .i64 s.procs] = sv0
  go_wp2_with (refine wpList_load_rowW (by rfl) 32 _ rfl W0 (by go_simp) (stL h s) (stV h s) rfl _ (range_row HB1.out) Try.underlying32 rfl (by kernel_rfl) ?_)
  refine (rCopy_any h s _ HK1.out HF.out).mono ?_
  rintro e w3 ⟨h1, I, rfl, ho, hx⟩
  obtain ⟨w4, hw4⟩ : ∃ w4, w3.setCells W0 0 (stL h1 s) = w4 := ⟨_, rfl⟩
  have hst := Sit.start (w := w) rfl HX1.out HB1.out HR1.out hx ho (by have := HRR.out; omega) (by have := HW0.out; omega) (by have := HW0.out; have := HRR.out; omega)
  rw [hw4] at hst
  have HTH := Lib.hid hst.1
  have S4 := Lib.hid hst.2
  have HW4 := Lib.hid hw4
  have HX3 := Lib.hid hx
  have HU4 : Hid (Upd W0 w3 w4) := Lib.hid (by rw [← hw4]; exact setCells_upd _ _ _ _)
  clear ho hx hst hw4
  go_upto_region 2 with (refine wpList_store_row rfl 32 _ _ rfl W0 (stL h1 s) (stV h1 s) (by go_simp) (by go_simp) rfl HTH.out (by kernel_rfl) (stL_one _ _) HW4.out ?_)
  have e1 : (k : Int) + 1 - 1 = (k : Int) := by omega
  have e4 : (k : Int) < (s.gs.length : Int) := by have := HYL.out; omega
  have e5 : (k : Int) < 100000 := by have := HF.out.gs; have := HYL.out; omega
  obtain ⟨bg, hga, hgb, hrg⟩ := S4.out.getG HY.out
  have HGA := Lib.hid hga
  have HRG := Lib.hid hrg
  have q1 : w4.cell? ⟨W0, 1, none⟩ = some (.slice (some ⟨bg, 0, none⟩) s.gs.length h1.gc) := by rw [← hga]; have := st1 S4.out.box; exact this
  obtain ⟨wg, hwg⟩ : ∃ wg, w4.alloc (.cells #[.int .i64 0, .int .i64 0, .int .i64 0, .int .i64 0, .int .i64 0] 55) = wg := ⟨_, rfl⟩
  obtain ⟨G0, hG0⟩ : ∃ G0, w4.heap.size = G0 := ⟨_, rfl⟩
  obtain ⟨wh, hwh⟩ : ∃ wh, wg.setCells G0 0 (gL y) = wh := ⟨_, rfl⟩
  have hbg : wg.heap[G0]? = some (.cells #[.int .i64 0, .int .i64 0, .int .i64 0, .int .i64 0, .int .i64 0] 55 (0, 0)) := by rw [← hwg, ← hG0]; exact blk_new w4 _
  have HTG : Hid (wg.there G0 0 (gL y).length) := Lib.hid (there_row hbg (Nat.le_refl 5))
  have hbh : wh.heap[G0]? = some (.cells (gL y).toArray 55 (0, 0)) := by rw [← hwh]; exact setCells_at [.int .i64 0, .int .i64 0, .int .i64 0, .int .i64 0, .int .i64 0] (gL y) rfl hbg
  have hxh : Ext w4 wh := by rw [← hwh]; exact Ext.upd (a := w4) (by rw [← hwg]; exact (Ext.refl _).alloc _) (setCells_upd _ _ _ _) (by omega)
  obtain ⟨wi, hwi⟩ : ∃ wi, ((wh.setCell ⟨G0, 2, none⟩ (.int .i64 st)).setCell ⟨G0, 3, none⟩ (.int .i64 m)).setCell ⟨G0, 4, none⟩ (.int .i64 (y.seq + 1)) = wi := ⟨_, rfl⟩
  have hbi : wi.heap[G0]? = some (.cells (gL { y with st := st, m := m, seq := y.seq + 1 }).toArray 55 (0, 0)) := by rw [← hwi]; exact blk_set (blk_set (blk_set hbh 2 _) 3 _) 4 _
  have hxi : Ext w4 wi := by rw [← hwi]; exact Ext.upd (a := w4) hxh (((Upd.refl G0 wh).set 2 _).set 3 _ |>.set 4 _) (by omega)
  obtain ⟨gv, hgv⟩ : ∃ gv, Value.agg (gL y).toArray = gv := ⟨_, rfl⟩
  have HGV := Lib.hid hgv
  have HWG := Lib.hid hwg
  have HG0 := Lib.hid hG0
  have HWH := Lib.hid hwh
  have HWI := Lib.hid hwi
  have HBI := Lib.hid hbi
  have S5 := Lib.hid (S4.out.more hxi)
  have r2 := blk_cell hbh 2 _ rfl
  have f2 := frozen_of_row _ _ 2 _ _ hbh
  have hb3 := blk_set hbh 2 (.int .i64 st)
  have r3 : (wh.setCell ⟨G0, 2, none⟩ (.int .i64 st)).cell? ⟨G0, 3, none⟩ = some (.int .i64 y.m) := blk_cell hb3 3 _ rfl
  have f3 := frozen_of_row _ _ 3 _ _ hb3
  have hb4 := blk_set hb3 3 (.int .i64 m)
  have r4 : ((wh.setCell ⟨G0, 2, none⟩ (.int .i64 st)).setCell ⟨G0, 3, none⟩ (.int .i64 m)).cell? ⟨G0, 4, none⟩ = some (.int .i64 y.seq) := blk_cell hb4 4 _ rfl
  have f4 := frozen_of_row _ _ 4 _ _ hb4
  have hwr : IntKind.i64.wrap (y.seq + 1) = y.seq + 1 := IntWalk.i64_in _ (by have := HYQ.out; omega)
  clear hga hgb hrg hwg hG0 hwh hbg hbh hxh hwi hbi hxi hgv hb3 hb4
  go_upto_region 6 with (first | rw [HWI.out] | rw [HWG.out, HG0.out] | (refine wpList_load_rowM (by rfl) 55 _ rfl bg (k * 5) (by go_simp) (gL y) gv HGV.out.symm _ HRG.out Try.underlying55 rfl (by kernel_rfl) ?_) | (refine wpList_store_rowM rfl 55 _ _ rfl G0 0 (gL y) gv (by go_simp) (by go_simp) HGV.out.symm HTG.out (by kernel_rfl) (gL_one _) HWH.out ?_))
  clear q1 r2 f2 r3 f3 r4 f4 hwr
  try rw [HWI.out]
  have q1 : wi.cell? ⟨W0, 1, none⟩ = some (.slice (some ⟨bg, 0, none⟩) s.gs.length h1.gc) := by rw [← HGA.out]; have := st1 S5.out.box; exact this
  have hst6 := S5.out.setG' HY.out HGA.out (x' := { y with st := st, m := m, seq := y.seq + 1 }) (j := 0) (ds := gL { y with st := st, m := m, seq := y.seq + 1 }) (Nat.le_refl 5) (fun t ht => by rw [if_pos (by rw [gL_len]; omega)]; rfl)
  rw [Nat.add_zero] at hst6
  obtain ⟨w6, hw6⟩ : ∃ w6, wi.setCells bg (k * 5) (gL { y with st := st, m := m, seq := y.seq + 1 }) = w6 := ⟨_, rfl⟩
  rw [hw6] at hst6
  have HTH6 := Lib.hid hst6.1
  have HW6 := Lib.hid hw6
  obtain ⟨s', hs'⟩ : ∃ s' : St, { s with gs := s.gs.set k { y with st := st, m := m, seq := y.seq + 1 } } = s' := ⟨_, rfl⟩
  have hs6 := hst6.2
  rw [hs'] at hs6
  have S6 := Lib.hid hs6
  have HE : Hid (StRet w { s with gs := s.gs.set k { y with st := st, m := m, seq := y.seq + 1 } } = StRet w s') := Lib.hid (by rw [hs'])
  obtain ⟨gv2, hgv2⟩ : ∃ gv2, Value.agg (gL { y with st := st, m := m, seq := y.seq + 1 }).toArray = gv2 := ⟨_, rfl⟩
  have HGV2 := Lib.hid hgv2
  clear hst6 hw6 hs6 hs' hgv2
  go_upto_region 7 with (first | (refine wpList_load_rowM (by rfl) 55 _ rfl G0 0 (by go_simp) (gL { y with st := st, m := m, seq := y.seq + 1 }) gv2 HGV2.out.symm _ (range_row HBI.out) Try.underlying55 rfl (by kernel_rfl) ?_) | (refine wpList_store_rowM rfl 55 _ _ rfl bg (k * 5) (gL { y with st := st, m := m, seq := y.seq + 1 }) gv2 (by go_simp) (by go_simp) HGV2.out.symm HTH6.out (by kernel_rfl) (gL_one _) HW6.out ?_))
  clear q1 e1 e4 e5
  obtain ⟨wf, hwf⟩ : ∃ wf, w6.setCells R 0 (stL h1 s') = wf := ⟨_, rfl⟩
  have HWF := Lib.hid hwf
  have hfi := S6.out.fin
  rw [hwf] at hfi
  have HFI := Lib.hid hfi
  have HTR := Lib.hid (S6.out.there (h' := h1) (s' := s'))
  clear hwf hfi
  go_wp2_with (first | (refine wpList_load_rowW (by rfl) 32 _ rfl W0 (by go_simp) (stL h1 s') (stV h1 s') rfl _ (range_row S6.out.box) Try.underlying32 rfl (by kernel_rfl) ?_) | (refine wpList_store_row rfl 32 _ _ rfl R (stL h1 s') (stV h1 s') (by go_simp) (by go_simp) rfl HTR.out (by kernel_rfl) (stL_one _ _) HWF.out ?_))
  refine bodyPost_ret (v := .agg (stL h1 s').toArray) (results_cell_row rfl _ _ R _ _ _ _ rfl HFI.out.1 Try.underlying32 rfl (by kernel_rfl)) rfl ?_
  rw [HPQ.out, HE.out]
  obtain ⟨I, hI⟩ := HFI.out.2.1
  exact ⟨h1, I, rfl, hI, HFI.out.2.2⟩
theorem r13has_any (n m : Int) (r : Bool) (hr : decide (1 ≤ n ∧ n ≤ m) = r) (w : World) : Calls Try.prog 56 #[.int .i64 n, .int .i64 m] w fun e w' => e = .returned (.bool r) ∧ w' = w := by
  have HR := Lib.hid hr
  clear hr
  by_cases a1 : 1 ≤ n
  · by_cases a2 : n ≤ m
    · have HQ : Hid (r = true) := Lib.hid (by rw [← HR.out]; simp; omega)
      go_enter Try.func56, Try.ntmps56
      go_wp2
      go_ret
      exact ⟨by rw [HQ.out] <;> rfl, rfl⟩
    · have HQ : Hid (r = false) := Lib.hid (by rw [← HR.out]; simp; omega)
      go_enter Try.func56, Try.ntmps56
      go_wp2
      go_ret
      exact ⟨by rw [HQ.out] <;> rfl, rfl⟩
  · have HQ : Hid (r = false) := Lib.hid (by rw [← HR.out]; simp; omega)
    go_enter Try.func56, Try.ntmps56
    go_wp2
    go_ret
    exact ⟨by rw [HQ.out] <;> rfl, rfl⟩
theorem there_at {w : World} {b o n : Nat} {T : TypeId} {cs : Array Value} (h : w.heap[b]? = some (.cells cs T (0, 0))) (hn : o + n ≤ cs.size) : w.there b o n := fun j hj => ⟨by rw [blk_cell h (o + j) _ (Array.getElem?_eq_getElem (by omega))]; rfl, frozen_of_row _ _ _ _ _ h⟩
theorem box_ring {w : World} {b : Nat} {T : TypeId} {x : Pr} {r : Ri} (hx : x.ring.buf.length = 8) (hr : r.buf.length = 8) (h : w.heap[b]? = some (.cells (pL x).toArray T (0, 0))) : (w.setCells b 2 (rL r)).heap[b]? = some (.cells (pL { x with ring := r }).toArray T (0, 0)) := by
  obtain ⟨cs', h1, h2, h3⟩ := setCells_mid (rL r) w (pL x).toArray 2 h (by rw [List.size_toArray, pL_len, rL_len hr]; decide)
  have e : cs' = (pL { x with ring := r }).toArray := by
    apply Array.ext_getElem?
    intro j
    rw [h3 j, List.getElem?_toArray, List.getElem?_toArray]
    by_cases hj : j < 13
    · rw [pL_ring hx hr j hj]
    · rw [if_neg (by rw [rL_len hr]; omega), List.getElem?_eq_none (by rw [pL_len]; omega), List.getElem?_eq_none (by rw [pL_len]; omega)]
  rw [h1, e]
set_option maxRecDepth 100000 in
set_option maxHeartbeats 16000000 in
theorem r13Drain_any (h : StH) (s : St) (p : Int) (r : St × Int) (hrr : s.drain p = r) (w : World) (hk : StOk w h s) (hf : StFew s) : Calls Try.prog 23 #[stV h s, .int .i64 p] w (StRes w r) := by
  have HRS := Lib.hid hrr
  clear hrr
  have HF := Lib.hid hf
  have HK := Lib.hid hk
  obtain ⟨W0, hW0⟩ : ∃ W0, w.heap.size = W0 := ⟨_, rfl⟩
  obtain ⟨R, hR⟩ : ∃ R, W0 + 1 = R := ⟨_, rfl⟩
  obtain ⟨w2, hw2⟩ : ∃ w2, (w.alloc (.cells #[.slice h.pa s.prog.length h.pc, .slice h.ga s.gs.length h.gc, .slice h.qa s.ps.length h.qc, .slice h.ma s.ms.length h.mc, .slice h.la s.glob.length h.lc, .int .i64 s.c0, .int .i64 s.c1, .int .i64 s.c2, .int .i64 s.c3, .slice h.a0 s.w0.length h.k0, .slice h.a1 s.w1.length h.k1, .slice h.a2 s.w2.length h.k2, .slice h.a3 s.w3.length h.k3, .slice h.ta s.timers.length h.tc, .int .i64 s.clock, .int .i64 s.procs] 32)).alloc (.cells #[.slice none 0 0, .slice none 0 0, .slice none 0 0, .slice none 0 0, .slice none 0 0, .int .i64 0, .int .i64 0, .int .i64 0, .int .i64 0, .slice none 0 0, .slice none 0 0, .slice none 0 0, .slice none 0 0, .slice none 0 0, .int .i64 0, .int .i64 0] 32) = w2 := ⟨_, rfl⟩
  have HX1 : Hid (Ext w w2) := Lib.hid (by rw [← hw2]; exact ((Ext.refl w).alloc _).alloc _)
  have HB1 : Hid (w2.heap[W0]? = some (.cells (stC h s) 32 (0, 0))) := Lib.hid (by rw [← hw2, ← hW0]; exact blk_alloc (blk_new w _) _)
  have HR1 : Hid (w2.heap[R]? = some (.cells #[.slice none 0 0, .slice none 0 0, .slice none 0 0, .slice none 0 0, .slice none 0 0, .int .i64 0, .int .i64 0, .int .i64 0, .int .i64 0, .slice none 0 0, .slice none 0 0, .slice none 0 0, .slice none 0 0, .slice none 0 0, .int .i64 0, .int .i64 0] 32 (0, 0))) := Lib.hid (by
    have := blk_new (w.alloc (.cells #[.slice h.pa s.prog.length h.pc, .slice h.ga s.gs.length h.gc, .slice h.qa s.ps.length h.qc, .slice h.ma s.ms.length h.mc, .slice h.la s.glob.length h.lc, .int .i64 s.c0, .int .i64 s.c1, .int .i64 s.c2, .int .i64 s.c3, .slice h.a0 s.w0.length h.k0, .slice h.a1 s.w1.length h.k1, .slice h.a2 s.w2.length h.k2, .slice h.a3 s.w3.length h.k3, .slice h.ta s.timers.length h.tc, .int .i64 s.clock, .int .i64 s.procs] 32)) (.cells #[.slice none 0 0, .slice none 0 0, .slice none 0 0, .slice none 0 0, .slice none 0 0, .int .i64 0, .int .i64 0, .int .i64 0, .int .i64 0, .slice none 0 0, .slice none 0 0, .slice none 0 0, .slice none 0 0, .slice none 0 0, .int .i64 0, .int .i64 0] 32)
    rw [hw2, World.size_alloc, hW0, hR] at this
    exact this)
  have HRR := Lib.hid hR
  have HW0 := Lib.hid hW0
  have HW2 := Lib.hid hw2
  have HK1 := Lib.hid (hk.ext HX1.out)
  clear hk hf hw2 hW0 hR
  obtain ⟨PQ, hPQ⟩ : ∃ PQ : Ending → World → Prop, PQ = StRes w r := ⟨_, rfl⟩
  rw [← hPQ]
  have HPQ := Lib.hid hPQ
  clear hPQ
  unfold stV
  go_enter Try.func23, Try.ntmps23
  go_upto_region 1 with fail
  rw [HW2.out, HW0.out, HRR.out]
  generalize Value.agg #[.slice h.pa s.prog.length h.pc, .slice h.ga s.gs.length h.gc, .slice h.qa s.ps.length h.qc, .slice h.ma s.ms.length h.mc, .slice h.la s.glob.length h.lc, .int .i64 s.c0, .int .i64 s.c1, .int .i64 s.c2, .int .i64 s.c3, .slice h.a0 s.w0.length h.k0, .slice h.a1 s.w1.length h.k1, .slice h.a2 s.w2.length h.k2, .slice h.a3 s.w3.length h.k3, .slice h.ta s.timers.length h.tc, .int .i64 s.clock, .int .i64 s.procs] = sv0
  go_wp2_with (refine wpList_load_rowW (by rfl) 32 _ rfl W0 (by go_simp) (stL h s) (stV h s) rfl _ (range_row HB1.out) Try.underlying32 rfl (by kernel_rfl) ?_)
  refine (rstmay_any h s _ rfl _ HK1.out HF.out).mono ?_
  rintro e wa ⟨rfl, hxa⟩
  have HXA := Lib.hid (HX1.out.trans hxa)
  have HBA := Lib.hid (hxa.blk HB1.out)
  have HRA := Lib.hid (hxa.blk HR1.out)
  clear hxa
  cases bm : s.may with
  | false =>
    have HN : Hid (r = (St.nil, 1)) := Lib.hid (by rw [← HRS.out]; exact St.drain_no (by rw [bm]; simp))
    go_upto_if 17 with fail
    obtain ⟨wf, hwf⟩ : ∃ wf, wa.setCells R 0 (stL StH.nil St.nil) = wf := ⟨_, rfl⟩
    have hfn := fin_nil HRA.out HXA.out (show w.heap.size ≤ R by have := HRR.out; have := HW0.out; omega)
    rw [hwf] at hfn
    have HFN := Lib.hid hfn
    have HWF := Lib.hid hwf
    clear hfn hwf
    go_wp2_with (refine wpList_store_row rfl 32 _ _ rfl R (stL StH.nil St.nil) (stV StH.nil St.nil) rfl rfl rfl HFN.out.2.1 (by kernel_rfl) (stL_one _ _) HWF.out ?_)
    refine bodyPost_cell_tmp rfl R _ _ _ _ rfl HFN.out.1 Try.underlying32 rfl (by kernel_rfl) (.int .i64 1) rfl rfl ?_
    rw [HPQ.out]
    show StRes w _ _ _
    rw [HN.out]
    exact StRes.nil HFN.out.2.2
  | true =>
  have HM := Lib.hid bm
  clear bm
  have q15 := st15 HBA.out
  go_wp2_with fail
  refine (r13has_any p s.procs _ rfl wa).mono ?_
  rintro e wb ⟨rfl, rfl⟩
  clear q15
  cases bi : decide (1 ≤ p ∧ p ≤ s.procs) with
  | false =>
    have HN : Hid (r = (St.nil, 1)) := Lib.hid (by rw [← HRS.out]; exact St.drain_no (by intro h; have := of_decide_eq_false bi; exact this h.2))
    go_upto_if 17 with fail
    obtain ⟨wf, hwf⟩ : ∃ wf, wb.setCells R 0 (stL StH.nil St.nil) = wf := ⟨_, rfl⟩
    have hfn := fin_nil HRA.out HXA.out (show w.heap.size ≤ R by have := HRR.out; have := HW0.out; omega)
    rw [hwf] at hfn
    have HFN := Lib.hid hfn
    have HWF := Lib.hid hwf
    clear hfn hwf
    go_wp2_with (refine wpList_store_row rfl 32 _ _ rfl R (stL StH.nil St.nil) (stV StH.nil St.nil) rfl rfl rfl HFN.out.2.1 (by kernel_rfl) (stL_one _ _) HWF.out ?_)
    refine bodyPost_cell_tmp rfl R _ _ _ _ rfl HFN.out.1 Try.underlying32 rfl (by kernel_rfl) (.int .i64 1) rfl rfl ?_
    rw [HPQ.out]
    show StRes w _ _ _
    rw [HN.out]
    exact StRes.nil HFN.out.2.2
  | true =>
  have hpp := of_decide_eq_true bi
  clear bi
  have hps := St.may_procs HM.out
  obtain ⟨i, rfl⟩ : ∃ i : Nat, p = (i : Int) + 1 := ⟨(p - 1).toNat, by omega⟩
  obtain ⟨x, hp⟩ : ∃ x, s.ps[i]? = some x := ⟨_, List.getElem?_eq_getElem (by omega)⟩
  have hb8 := HK.out.buf _ (List.mem_of_getElem? hp)
  obtain ⟨m, nx, r0, sq⟩ := x
  obtain ⟨b0, b1, b2, b3, b4, b5, b6, b7, hd, nn, rfl⟩ := Ri.open8 hb8
  have HP := Lib.hid hp
  have HPP := Lib.hid hpp
  have HIL : Hid (i < s.ps.length) := Lib.hid (by omega)
  have e1 : (i : Int) + 1 - 1 = (i : Int) := by omega
  have e4 : (i : Int) < (s.ps.length : Int) := by omega
  have e5 : (i : Int) < 100000 := by have := HF.out.ps; omega
  obtain ⟨bq, oq, hqa, hqb, hqc⟩ := ((HK.out.ext HXA.out).ps).get hp
  have q2 : wb.cell? ⟨W0, 2, none⟩ = some (.slice (some ⟨bq, oq, none⟩) s.ps.length h.qc) := by rw [← hqa]; exact st2 HBA.out
  have HRG : Hid (wb.rangeAt bq (oq + i * 13) (pL ⟨m, nx, ⟨[b0, b1, b2, b3, b4, b5, b6, b7], hd, nn⟩, sq⟩)) := Lib.hid (fun j u hu => hqc j u hu)
  obtain ⟨pv, hpv⟩ : ∃ pv, Value.agg #[.int .i64 m, .int .i64 nx, .int .i64 b0, .int .i64 b1, .int .i64 b2, .int .i64 b3, .int .i64 b4, .int .i64 b5, .int .i64 b6, .int .i64 b7, .int .i64 hd, .int .i64 nn, .int .i64 sq] = pv := ⟨_, rfl⟩
  obtain ⟨wc, hwc⟩ : ∃ wc, wb.alloc (.cells #[.int .i64 0, .int .i64 0, .int .i64 0, .int .i64 0, .int .i64 0, .int .i64 0, .int .i64 0, .int .i64 0, .int .i64 0, .int .i64 0, .int .i64 0, .int .i64 0, .int .i64 0] 40) = wc := ⟨_, rfl⟩
  obtain ⟨BP, hBP⟩ : ∃ BP, wb.heap.size = BP := ⟨_, rfl⟩
  obtain ⟨wd, hwd⟩ : ∃ wd, wc.setCells BP 0 (pL ⟨m, nx, ⟨[b0, b1, b2, b3, b4, b5, b6, b7], hd, nn⟩, sq⟩) = wd := ⟨_, rfl⟩
  have hbc : wc.heap[BP]? = some (.cells #[.int .i64 0, .int .i64 0, .int .i64 0, .int .i64 0, .int .i64 0, .int .i64 0, .int .i64 0, .int .i64 0, .int .i64 0, .int .i64 0, .int .i64 0, .int .i64 0, .int .i64 0] 40 (0, 0)) := by rw [← hwc, ← hBP]; exact blk_new wb _
  have HTP : Hid (wc.there BP 0 (pL ⟨m, nx, ⟨[b0, b1, b2, b3, b4, b5, b6, b7], hd, nn⟩, sq⟩).length) := Lib.hid (there_row hbc (by rw [pL_len]; exact Nat.le_refl 13))
  have HBD : Hid (wd.heap[BP]? = some (.cells (pL ⟨m, nx, ⟨[b0, b1, b2, b3, b4, b5, b6, b7], hd, nn⟩, sq⟩).toArray 40 (0, 0))) := Lib.hid (by rw [← hwd]; exact setCells_at [.int .i64 0, .int .i64 0, .int .i64 0, .int .i64 0, .int .i64 0, .int .i64 0, .int .i64 0, .int .i64 0, .int .i64 0, .int .i64 0, .int .i64 0, .int .i64 0, .int .i64 0] (pL ⟨m, nx, ⟨[b0, b1, b2, b3, b4, b5, b6, b7], hd, nn⟩, sq⟩) (by rw [pL_len]; rfl) hbc)
  have HXD : Hid (Ext wb wd) := Lib.hid (by rw [← hwd]; exact Ext.upd (a := wb) (by rw [← hwc]; exact (Ext.refl _).alloc _) (setCells_upd _ _ _ _) (by omega))
  have HPV := Lib.hid hpv
  have HWC := Lib.hid hwc
  have HBPP := Lib.hid hBP
  have HWD := Lib.hid hwd
  clear hb8 hp hpp hps hqa hqb hqc hpv hwc hBP hwd hbc
  go_upto_if 17 with fail
  go_upto_region 4 with (first | rw [HWC.out, HBPP.out] | (refine wpList_load_rowM (by rfl) 40 _ rfl bq (oq + i * 13) (by go_simp) (pL ⟨m, nx, ⟨[b0, b1, b2, b3, b4, b5, b6, b7], hd, nn⟩, sq⟩) pv HPV.out.symm _ HRG.out Try.underlying40 rfl (by rw [pL_len]; kernel_rfl) ?_) | (refine wpList_store_rowM rfl 40 _ _ rfl BP 0 (pL ⟨m, nx, ⟨[b0, b1, b2, b3, b4, b5, b6, b7], hd, nn⟩, sq⟩) pv (by go_simp) (by go_simp) HPV.out.symm HTP.out (by rw [pL_len]; kernel_rfl) (pL_one _) HWD.out ?_))
  clear q2 e1 e4 e5
  go_wp2_with (refine wpList_load_rowM (by rfl) 40 _ rfl BP 0 (by go_simp) (pL ⟨m, nx, ⟨[b0, b1, b2, b3, b4, b5, b6, b7], hd, nn⟩, sq⟩) pv HPV.out.symm _ (range_row HBD.out) Try.underlying40 rfl (by rw [pL_len]; kernel_rfl) ?_)
  rw [← HPV.out]
  refine (rqueueOf_any m nx b0 b1 b2 b3 b4 b5 b6 b7 hd nn sq wd).mono ?_
  rintro e we ⟨Aq, cq, rfl, hoq, hxe⟩
  have HOQ := Lib.hid hoq
  have HQL := Lib.hid (queueOf_len ⟨m, nx, ⟨[b0, b1, b2, b3, b4, b5, b6, b7], hd, nn⟩, sq⟩)
  have HXE := Lib.hid ((HXA.out.trans HXD.out).trans hxe)
  have hbe := hxe.blk HBD.out
  have r1 := blk_cell hbe 1 _ rfl
  have f1 := frozen_of_row _ _ 1 _ _ hbe
  obtain ⟨wf5, hwf5⟩ : ∃ wf5, we.setCell ⟨BP, 1, none⟩ (.int .i64 0) = wf5 := ⟨_, rfl⟩
  have hbf : wf5.heap[BP]? = some (.cells (pL ⟨m, 0, ⟨[b0, b1, b2, b3, b4, b5, b6, b7], hd, nn⟩, sq⟩).toArray 40 (0, 0)) := by rw [← hwf5]; exact blk_set hbe 1 _
  obtain ⟨wg, hwg⟩ : ∃ wg, wf5.setCells BP 2 (rL Ri.zero) = wg := ⟨_, rfl⟩
  have HTR5 : Hid (wf5.there BP 2 (rL Ri.zero).length) := Lib.hid (there_at hbf (by rw [List.size_toArray, pL_len]; decide))
  have HBG : Hid (wg.heap[BP]? = some (.cells (pL ⟨m, 0, ⟨[0, 0, 0, 0, 0, 0, 0, 0], 0, 0⟩, sq⟩).toArray 40 (0, 0))) := Lib.hid (by rw [← hwg]; exact box_ring (x := ⟨m, 0, ⟨[b0, b1, b2, b3, b4, b5, b6, b7], hd, nn⟩, sq⟩) (r := Ri.zero) rfl rfl hbf)
  have HXG : Hid (Ext wb wg) := Lib.hid (by
    rw [← hwg]
    refine Ext.upd (a := wb) ?_ (setCells_upd _ _ _ _) (by have := HBPP.out; omega)
    rw [← hwf5]
    exact (HXD.out.trans hxe).setCell (p := ⟨BP, 1, none⟩) (by have := HBPP.out; simp only; omega) _)
  have HOG : Hid (OwnInts wg wd.heap.size (.slice Aq (St.queueOf ⟨m, nx, ⟨[b0, b1, b2, b3, b4, b5, b6, b7], hd, nn⟩, sq⟩).length cq) (St.queueOf ⟨m, nx, ⟨[b0, b1, b2, b3, b4, b5, b6, b7], hd, nn⟩, sq⟩)) := Lib.hid (by
    rw [← hwg, ← hwf5]
    exact (hoq.updB ((Upd.refl BP we).set 1 _) (blk_lt HBD.out)).updB (setCells_upd _ _ _ _) (blk_lt HBD.out))
  have HBS := Lib.hid (HXG.out.blk HBA.out)
  have HRS2 := Lib.hid (HXG.out.blk HRA.out)
  have HXW := Lib.hid (HXA.out.trans HXG.out)
  obtain ⟨pv2, hpv2⟩ : ∃ pv2, Value.agg (pL ⟨m, 0, ⟨[0, 0, 0, 0, 0, 0, 0, 0], 0, 0⟩, sq⟩).toArray = pv2 := ⟨_, rfl⟩
  have HPV2 := Lib.hid hpv2
  have HWF5 := Lib.hid hwf5
  have HWG := Lib.hid hwg
  have HSET := Lib.hid (rSetP_in h s i m 0 0 0 0 0 0 0 0 0 0 0 sq wg (HK.out.ext HXW.out) HF.out HIL.out)
  have hpv3 : Value.agg #[.int .i64 m, .int .i64 0, .int .i64 0, .int .i64 0, .int .i64 0, .int .i64 0, .int .i64 0, .int .i64 0, .int .i64 0, .int .i64 0, .int .i64 0, .int .i64 0, .int .i64 sq] = pv2 := hpv2
  rw [hpv3] at HSET
  clear hoq hxe hbe hwf5 hbf hwg hpv2 hpv3
  go_wp2_with (first | rw [HWF5.out] | (refine wpList_store_rowM rfl 38 _ _ rfl BP 2 (rL Ri.zero) (.agg #[.int .i64 0, .int .i64 0, .int .i64 0, .int .i64 0, .int .i64 0, .int .i64 0, .int .i64 0, .int .i64 0, .int .i64 0, .int .i64 0]) (by go_simp) (by go_simp) rfl HTR5.out (by kernel_rfl) (rL_one _) HWG.out ?_) | (refine wpList_load_rowW (by rfl) 32 _ rfl W0 (by go_simp) (stL h s) (stV h s) rfl _ (range_row HBS.out) Try.underlying32 rfl (by kernel_rfl) ?_) | (refine wpList_load_rowM (by rfl) 40 _ rfl BP 0 (by go_simp) (pL ⟨m, 0, ⟨[0, 0, 0, 0, 0, 0, 0, 0], 0, 0⟩, sq⟩) pv2 HPV2.out.symm _ (range_row HBG.out) Try.underlying40 rfl (by rw [pL_len]; kernel_rfl) ?_))
  refine HSET.out.mono ?_
  rintro e w3 ⟨h1, I, rfl, ho, hx⟩
  obtain ⟨s1, hs1⟩ : ∃ s1 : St, { s with ps := s.ps.set i ⟨m, 0, ⟨[0, 0, 0, 0, 0, 0, 0, 0], 0, 0⟩, sq⟩ } = s1 := ⟨_, rfl⟩
  rw [show ({ s with ps := s.ps.set i ⟨m, 0, ⟨[0, 0, 0, 0, 0, 0, 0, 0], 0, 0⟩, sq⟩ } : St) = s1 from hs1] at ho ⊢
  have HG1 : Hid (s1.glob = s.glob) := Lib.hid (by rw [← hs1])
  obtain ⟨w4, hw4⟩ : ∃ w4, w3.setCells W0 0 (stL h1 s1) = w4 := ⟨_, rfl⟩
  have hst := Sit.start (w := w) rfl HXW.out HBS.out HRS2.out hx ho (by have := HRR.out; omega) (by have := HW0.out; omega) (by have := HW0.out; have := HRR.out; omega)
  rw [hw4] at hst
  have HTH := Lib.hid hst.1
  have S4 := Lib.hid hst.2
  have HW4 := Lib.hid hw4
  have HIO : Hid (OwnInts w4 wd.heap.size (.slice Aq (St.queueOf ⟨m, nx, ⟨[b0, b1, b2, b3, b4, b5, b6, b7], hd, nn⟩, sq⟩).length cq) (St.queueOf ⟨m, nx, ⟨[b0, b1, b2, b3, b4, b5, b6, b7], hd, nn⟩, sq⟩)) := Lib.hid (by
    rw [← hw4]
    exact (HOG.out.ext hx).updB (setCells_upd _ _ _ _) (by have := blk_lt HBA.out; have := HXD.out.size; omega))
  clear ho hx hst hw4
  go_upto_region 8 with (refine wpList_store_row rfl 32 _ _ rfl W0 (stL h1 s1) (stV h1 s1) (by go_simp) (by go_simp) rfl HTH.out (by kernel_rfl) (stL_one _ _) HW4.out ?_)
  obtain ⟨I4, ha4⟩ := S4.out.ap
  have q4 : w4.cell? ⟨W0, 4, none⟩ = some (.slice h1.la s.glob.length h1.lc) := by have := st4 S4.out.box; rw [HG1.out] at this; exact this
  have hlo4 := ha4.low 4 (by omega)
  have hgf := HF.out.glob
  have hol := HQL.out
  have hgo : OwnInts w4 (I4 4).1 (.slice h1.la s.glob.length h1.lc) s.glob := by have := ha4.glob.1; rw [HG1.out] at this; exact this
  obtain ⟨A5, c5, w5, hr5, hq5⟩ := GlobQ.more (n := s.glob.length) (GlobQ.start hgo) rfl rfl HIO.out.at.2 (by omega) (by omega)
  have hq5' : GlobQ (I4 4).1 w4 (.slice h1.la s1.glob.length h1.lc) w5 (.slice A5 (s.glob.length + (St.queueOf ⟨m, nx, ⟨[b0, b1, b2, b3, b4, b5, b6, b7], hd, nn⟩, sq⟩).length) c5) (s.glob ++ St.queueOf ⟨m, nx, ⟨[b0, b1, b2, b3, b4, b5, b6, b7], hd, nn⟩, sq⟩) := by rw [HG1.out]; exact hq5
  have hsg := S4.out.globQ ha4 hq5' (by rw [List.length_append])
  obtain ⟨w6, hw6⟩ : ∃ w6, w5.setCell ⟨W0, 4, none⟩ (.slice A5 (s.glob.length + (St.queueOf ⟨m, nx, ⟨[b0, b1, b2, b3, b4, b5, b6, b7], hd, nn⟩, sq⟩).length) c5) = w6 := ⟨_, rfl⟩
  obtain ⟨h2, hh2⟩ : ∃ h2 : StH, { h1 with la := A5, lc := c5 } = h2 := ⟨_, rfl⟩
  obtain ⟨s', hs'⟩ : ∃ s' : St, { s1 with glob := s.glob ++ St.queueOf ⟨m, nx, ⟨[b0, b1, b2, b3, b4, b5, b6, b7], hd, nn⟩, sq⟩ } = s' := ⟨_, rfl⟩
  have hsit := hsg.2.2
  rw [hw6, hh2, hs'] at hsit
  have S6 := Lib.hid hsit
  have HE : Hid (r = (s', 0)) := Lib.hid (by rw [← HRS.out, ← hs', ← hs1]; exact St.drain_yes HM.out HPP.out HP.out)
  have HW6 := Lib.hid hw6
  have HR5 := Lib.hid hr5
  have q5 : w5.cell? ⟨W0, 4, none⟩ = some (.slice h1.la s.glob.length h1.lc) := by have := hsg.1; rw [HG1.out] at this; exact this
  have q6 := hsg.2.1
  clear hsg hsit hh2 hw6 ha4 hq5 hq5' hlo4 hgf hol hr5 hgo hs' hs1
  go_upto_region 9 with (first | (at_builtin; refine wpList_append_run rfl _ _ 27 rfl _ _ (by go_simp) (by go_simp) HR5.out ?_) | rw [HW6.out])
  clear q4 q5 q6 r1 f1
  obtain ⟨wf, hwf⟩ : ∃ wf, w6.setCells R 0 (stL h2 s') = wf := ⟨_, rfl⟩
  have HWF := Lib.hid hwf
  have hfi := S6.out.fin
  rw [hwf] at hfi
  have HFI := Lib.hid hfi
  have HTR := Lib.hid (S6.out.there (h' := h2) (s' := s'))
  clear hwf hfi
  go_wp2_with (first | (refine wpList_load_rowW (by rfl) 32 _ rfl W0 (by go_simp) (stL h2 s') (stV h2 s') rfl _ (range_row S6.out.box) Try.underlying32 rfl (by kernel_rfl) ?_) | (refine wpList_store_row rfl 32 _ _ rfl R (stL h2 s') (stV h2 s') (by go_simp) (by go_simp) rfl HTR.out (by kernel_rfl) (stL_one _ _) HWF.out ?_))
  refine bodyPost_cell_tmp rfl R _ _ _ _ rfl HFI.out.1 Try.underlying32 rfl (by kernel_rfl) (.int .i64 0) rfl rfl ?_
  rw [HPQ.out]
  show StRes w _ _ _
  rw [HE.out]
  exact ⟨h2, rfl, HFI.out.2.1, HFI.out.2.2⟩
theorem OwnInts.uptoO {w : World} {B n c k : Nat} {A : Option Addr} {l : List Int} (h : OwnInts w B (.slice A n c) l) (hk : k ≤ l.length) : OwnInts w B (.slice A k c) (l.take k) := by
  have hlen : (l.take k).length = k := by rw [List.length_take]; omega
  unfold OwnInts at h ⊢
  rw [hlen]
  refine ⟨by unfold intsV; rw [List.length_map, hlen, Nat.mul_one], ?_⟩
  rcases h.2 with ⟨hv, h0⟩ | ⟨g, cap, cur, hv, hb, hg, hn, hm, hs, ht⟩
  · simp only [Value.slice.injEq] at hv
    obtain ⟨rfl, _, rfl⟩ := hv
    exact .inl ⟨by rw [show k = 0 by omega], by omega⟩
  · simp only [Value.slice.injEq] at hv
    obtain ⟨rfl, rfl, rfl⟩ := hv
    refine .inr ⟨g, c, cur, rfl, hb, hg, by omega, hm, hs, ?_⟩
    have : intsV (l.take k) = (intsV l).take k := by unfold intsV; rw [List.map_take]
    rw [this, ← ht, List.take_take, Nat.mul_one, Nat.mul_one, Nat.min_eq_left hk]
theorem OwnInts.cap {w : World} {B n c : Nat} {A : Option Addr} {l : List Int} (h : OwnInts w B (.slice A n c) l) : n = l.length ∧ n ≤ c := by
  rcases h.2 with ⟨hv, h0⟩ | ⟨g, cap, cur, hv, hb, hg, hn, _⟩
  · simp only [Value.slice.injEq] at hv
    omega
  · simp only [Value.slice.injEq] at hv
    omega
theorem OwnInts.append_chgM {w0 w : World} {M : Nat} {gs : List GV} {u : Value} {l m : List Int} {A : Option Addr} {c : Nat} (ty : TypeId) (h0 : Ext w0 w) (hM : w0.heap.size ≤ M) (hMw : M ≤ w.heap.size) (h : OwnInts w M u l) (hin : InB gs u) (hv : IntsAt w (.slice A m.length c) m) (hlen : l.length + m.length ≤ 100000000) :
    ∃ A' c' w', (Builtin.append_ #[27, 27] ty #[u, .slice A m.length c]).run Try.prog w = .ok (.slice A' (l.length + m.length) c') w' ∧ OwnInts w' M (.slice A' (l.length + m.length) c') (l ++ m) ∧ InB (⟨.slice A' (l.length + m.length) c', w.heap.size, w'.heap.size⟩ :: gs) (.slice A' (l.length + m.length) c') ∧ ChgIn w0 l.length gs w w' ∧ LowSame M w w' := by
  obtain ⟨u1, w1, hr1, ⟨A1, c1, rfl⟩, _, hin1, hc1⟩ := OwnInts.append_chg ty h0 (h.lower hM) hin hv hlen
  obtain ⟨u2, w2, hr2, ho2, hg2, _⟩ := OwnInts.append2 ty h hv hlen hMw
  rw [hr1] at hr2
  injection hr2 with e1 e2
  subst e1 e2
  refine ⟨A1, c1, w1, hr1, ho2, hin1, hc1, fun b hb => hg2.block b (by omega) fun e => ?_⟩
  have := (World.ownsRow.lt h b e.symm).1
  omega
theorem Ri.push_nope {r : Ri} {g : Int} (h : ¬ (r.may = true ∧ r.n ≠ 8 ∧ 1 ≤ g)) : r.push g = (Ri.zero, false) := by
  unfold Ri.push
  rw [if_neg (by simpa [and_assoc] using h)]
theorem Ri.half_nope {r : Ri} (h : r.may = false) : r.half = (Ri.zero, []) := by
  unfold Ri.half
  rw [h]
  rfl
theorem OwnInts.raise {w : World} {B M : Nat} {v : Value} {xs : List Int} (h : OwnInts w B v xs) (hb : ∀ b, v.ownBlock = some b → M ≤ b) : OwnInts w M v xs := by
  refine ⟨h.1, ?_⟩
  rcases h.2 with hv | ⟨g, cap, cur, rfl, hg, rest⟩
  · exact .inl hv
  · exact .inr ⟨g, cap, cur, rfl, hb g rfl, rest⟩
structure OwnF (w0 : World) (RB : Nat) (w : World) (v : Value) (xs : List Int) (gs : List GV) : Prop where
  own : OwnG w0 w v xs gs
  far : ∀ b, v.ownBlock = some b → RB < b
namespace OwnF
variable {w0 w w' : World} {RB n : Nat} {v : Value} {xs : List Int} {gs hs : List GV}
theorem ext (h : OwnF w0 RB w v xs gs) (hx : Ext w w') : OwnF w0 RB w' v xs gs := ⟨h.own.ext hx, h.far⟩
theorem chg (h : OwnF w0 RB w v xs gs) (hc : ChgIn w0 n hs w w') (hn : xs.length ≤ n) : OwnF w0 RB w' v xs gs := ⟨h.own.chg hc hn, h.far⟩
theorem away (h : OwnF w0 RB w v xs gs) (hc : ChgIn w0 n hs w w') (hap : ∀ g ∈ hs, ∀ k ∈ gs, g.apart k) : OwnF w0 RB w' v xs gs := ⟨OwnG.far h.own hc hap, h.far⟩
theorem updz (h : OwnF w0 RB w v xs gs) (hu : Upd RB w w') (hb : w0.heap.size ≤ RB + 1) : OwnF w0 RB w' v xs gs := ⟨⟨((h.own.1.raise (M := RB + 1) h.far).updB hu (Nat.lt_succ_self _)).lower hb, h.own.2⟩, h.far⟩
theorem owns (h : OwnF w0 RB w v xs gs) : OwnInts w (RB + 1) v xs := h.own.1.raise h.far
theorem one (h : Ext w0 w) (hR : RB < w.heap.size) (g : Int) (u : Value) : OwnF w0 RB (w.alloc (.cells #[.int .i64 g] 3)) (.slice (some ⟨w.heap.size, 0, none⟩) 1 1) [g] [⟨u, w.heap.size, (w.alloc (.cells #[.int .i64 g] 3)).heap.size⟩] :=
  ⟨⟨⟨rfl, .inr ⟨w.heap.size, 1, _, rfl, h.size, blk_new w _, Nat.le_refl _, by decide, rfl, rfl⟩⟩, InB.made (by simp) u⟩, fun b hb => by cases hb; exact hR⟩
end OwnF
theorem OwnInts.lowM {w w2 : World} {B M : Nat} {v : Value} {xs : List Int} (h : OwnInts w B v xs) (hl : LowSame M w w2) (hv : ∀ b, v.ownBlock = some b → b < M) : OwnInts w2 B v xs := by
  refine ⟨h.1, ?_⟩
  rcases h.2 with h2 | ⟨g', cap, cur, e, hb, hh, rest⟩
  · exact .inl h2
  · exact .inr ⟨g', cap, cur, e, hb, (hl g' (hv g' (by rw [e]; rfl))).trans hh, rest⟩
def RBox (RB : Nat) (w : World) : Prop := ∃ x : { r : Ri // r.buf.length = 8 }, w.heap[RB]? = some (.cells (rL x.1).toArray 38 (0, 0))
structure HalfK (RB M : Nat) (v : Value) (l : List Int) (w : World) : Prop where
  box : RBox RB w
  own : OwnInts w (RB + 1) v l
  und : ∀ b, v.ownBlock = some b → b < M
theorem HalfK.low {RB M : Nat} {v : Value} {l : List Int} {w w2 : World} (k : HalfK RB M v l w) (hl : LowSame M w w2) (h : RB + 1 ≤ M) : HalfK RB M v l w2 :=
  ⟨by obtain ⟨x, hx⟩ := k.box; exact ⟨x, (hl _ (by omega)).trans hx⟩, k.own.lowM hl k.und, k.und⟩
set_option maxRecDepth 100000 in
set_option maxHeartbeats 8000000 in
theorem r9push_any (b0 b1 b2 b3 b4 b5 b6 b7 hd nn g : Int) (r1 : Ri) (ok : Bool) (hp : Ri.push ⟨[b0, b1, b2, b3, b4, b5, b6, b7], hd, nn⟩ g = (r1, ok)) (w : World) : Calls Try.prog 71 #[.agg #[.int .i64 b0, .int .i64 b1, .int .i64 b2, .int .i64 b3, .int .i64 b4, .int .i64 b5, .int .i64 b6, .int .i64 b7, .int .i64 hd, .int .i64 nn], .int .i64 g] w fun e w' => e = .returned (.tuple #[.agg (rL r1).toArray, .bool ok]) ∧ Ext w w' := by
  have HP := Lib.hid hp
  clear hp
  obtain ⟨B, hB⟩ : ∃ B, w.heap.size = B := ⟨_, rfl⟩
  obtain ⟨RB, hR⟩ : ∃ RB, B + 1 = RB := ⟨_, rfl⟩
  obtain ⟨w1, hw1⟩ : ∃ w1, w.alloc (.cells #[.int .i64 b0, .int .i64 b1, .int .i64 b2, .int .i64 b3, .int .i64 b4, .int .i64 b5, .int .i64 b6, .int .i64 b7, .int .i64 hd, .int .i64 nn] 38) = w1 := ⟨_, rfl⟩
  obtain ⟨w2, hw2⟩ : ∃ w2, w1.alloc (.cells #[.int .i64 0, .int .i64 0, .int .i64 0, .int .i64 0, .int .i64 0, .int .i64 0, .int .i64 0, .int .i64 0, .int .i64 0, .int .i64 0] 38) = w2 := ⟨_, rfl⟩
  have HX2 : Hid (Ext w w2) := Lib.hid (by rw [← hw2, ← hw1]; exact ((Ext.refl w).alloc _).alloc _)
  have HX12 : Hid (Ext w1 w2) := Lib.hid (by rw [← hw2]; exact (Ext.refl w1).alloc _)
  have HS1 : Hid (w1.heap.size = RB) := Lib.hid (by rw [← hw1, World.size_alloc, hB, hR])
  have HB1 : Hid (w1.heap[B]? = some (.cells (rL ⟨[b0, b1, b2, b3, b4, b5, b6, b7], hd, nn⟩).toArray 38 (0, 0))) := Lib.hid (by rw [← hw1, ← hB]; exact blk_new w _)
  have HR2 : Hid (w2.heap[RB]? = some (.cells (rL Ri.zero).toArray 38 (0, 0))) := Lib.hid (by
    have := blk_new w1 (.cells #[.int .i64 0, .int .i64 0, .int .i64 0, .int .i64 0, .int .i64 0, .int .i64 0, .int .i64 0, .int .i64 0, .int .i64 0, .int .i64 0] 38)
    rw [hw2, HS1.out] at this
    exact this)
  have HS2 : Hid (w2.heap.size = RB + 1) := Lib.hid (by rw [← hw2, World.size_alloc, HS1.out])
  obtain ⟨rv, hrv⟩ : ∃ rv, Value.agg #[.int .i64 b0, .int .i64 b1, .int .i64 b2, .int .i64 b3, .int .i64 b4, .int .i64 b5, .int .i64 b6, .int .i64 b7, .int .i64 hd, .int .i64 nn] = rv := ⟨_, rfl⟩
  have HRV := Lib.hid hrv
  have HW12 : Hid ((w.alloc (.cells #[.int .i64 b0, .int .i64 b1, .int .i64 b2, .int .i64 b3, .int .i64 b4, .int .i64 b5, .int .i64 b6, .int .i64 b7, .int .i64 hd, .int .i64 nn] 38)).alloc (.cells #[.int .i64 0, .int .i64 0, .int .i64 0, .int .i64 0, .int .i64 0, .int .i64 0, .int .i64 0, .int .i64 0, .int .i64 0, .int .i64 0] 38) = w2) := Lib.hid (by rw [hw1, hw2])
  have HW1 := Lib.hid hw1
  have HBB := Lib.hid hB
  have HRR := Lib.hid hR
  clear hB hR hw1 hw2 hrv
  go_enter Try.func71, Try.ntmps71
  go_upto_region 1 with fail
  rw [HW12.out, HBB.out, HRR.out]
  go_wp2_with (refine wpList_load_rowM (by rfl) 38 _ rfl B 0 (by go_simp) (rL ⟨[b0, b1, b2, b3, b4, b5, b6, b7], hd, nn⟩) rv HRV.out.symm _ (range_row (HX12.out.blk HB1.out)) Try.underlying38 rfl (by kernel_rfl) ?_)
  rw [← HRV.out]
  refine (rrmay_k b0 b1 b2 b3 b4 b5 b6 b7 hd nn _ rfl w2).mono ?_
  rintro e w3 ⟨rfl, hx3⟩
  have HX3 := Lib.hid hx3
  have HXX := Lib.hid (HX2.out.trans hx3)
  have HR3 := Lib.hid (hx3.blk HR2.out)
  clear hx3
  cases bm : Ri.may ⟨[b0, b1, b2, b3, b4, b5, b6, b7], hd, nn⟩ with
  | false =>
    have HPN : Hid (r1 = Ri.zero ∧ ok = false) := Lib.hid (by have := HP.out; rw [Ri.push_nope (by rw [bm]; simp)] at this; injection this with a b; exact ⟨a.symm, b.symm⟩)
    clear bm
    obtain ⟨wf, hwf⟩ : ∃ wf, w3.setCells RB 0 (rL Ri.zero) = wf := ⟨_, rfl⟩
    have HWF := Lib.hid hwf
    have HRZ : Hid (wf.heap[RB]? = some (.cells (rL Ri.zero).toArray 38 (0, 0))) := Lib.hid (by rw [← hwf]; exact setCells_at [.int .i64 0, .int .i64 0, .int .i64 0, .int .i64 0, .int .i64 0, .int .i64 0, .int .i64 0, .int .i64 0, .int .i64 0, .int .i64 0] (rL Ri.zero) rfl HR3.out)
    have HTH : Hid (w3.there RB 0 (rL Ri.zero).length) := Lib.hid (there_row HR3.out (Nat.le_refl 10))
    have HXF : Hid (Ext w wf) := Lib.hid (by rw [← hwf]; exact (HXX.out).upd (setCells_upd _ _ _ _) (by have := HRR.out; have := HBB.out; omega))
    clear hwf
    go_wp2_with (refine wpList_store_rowM rfl 38 _ _ rfl RB 0 (rL Ri.zero) (.agg #[.int .i64 0, .int .i64 0, .int .i64 0, .int .i64 0, .int .i64 0, .int .i64 0, .int .i64 0, .int .i64 0, .int .i64 0, .int .i64 0]) (by go_simp) (by go_simp) rfl HTH.out (by kernel_rfl) (rL_one _) HWF.out ?_)
    refine bodyPost_cell_tmp rfl RB _ _ _ _ rfl HRZ.out Try.underlying38 rfl (by kernel_rfl) (.bool false) rfl rfl ?_
    rw [HPN.out.1, HPN.out.2]
    exact ⟨rfl, HXF.out⟩
  | true =>
  have p9 : w3.cell? ⟨B, 9, none⟩ = some (.int .i64 nn) := blk_cell ((HX12.out.trans HX3.out).blk HB1.out) 9 _ rfl
  by_cases h8 : nn = 8
  · have HPN : Hid (r1 = Ri.zero ∧ ok = false) := Lib.hid (by have := HP.out; rw [Ri.push_nope (by intro h; exact h.2.1 h8)] at this; injection this with a b; exact ⟨a.symm, b.symm⟩)
    subst h8
    clear bm
    obtain ⟨wf, hwf⟩ : ∃ wf, w3.setCells RB 0 (rL Ri.zero) = wf := ⟨_, rfl⟩
    have HWF := Lib.hid hwf
    have HRZ : Hid (wf.heap[RB]? = some (.cells (rL Ri.zero).toArray 38 (0, 0))) := Lib.hid (by rw [← hwf]; exact setCells_at [.int .i64 0, .int .i64 0, .int .i64 0, .int .i64 0, .int .i64 0, .int .i64 0, .int .i64 0, .int .i64 0, .int .i64 0, .int .i64 0] (rL Ri.zero) rfl HR3.out)
    have HTH : Hid (w3.there RB 0 (rL Ri.zero).length) := Lib.hid (there_row HR3.out (Nat.le_refl 10))
    have HXF : Hid (Ext w wf) := Lib.hid (by rw [← hwf]; exact (HXX.out).upd (setCells_upd _ _ _ _) (by have := HRR.out; have := HBB.out; omega))
    clear hwf
    go_wp2_with (refine wpList_store_rowM rfl 38 _ _ rfl RB 0 (rL Ri.zero) (.agg #[.int .i64 0, .int .i64 0, .int .i64 0, .int .i64 0, .int .i64 0, .int .i64 0, .int .i64 0, .int .i64 0, .int .i64 0, .int .i64 0]) (by go_simp) (by go_simp) rfl HTH.out (by kernel_rfl) (rL_one _) HWF.out ?_)
    refine bodyPost_cell_tmp rfl RB _ _ _ _ rfl HRZ.out Try.underlying38 rfl (by kernel_rfl) (.bool false) rfl rfl ?_
    rw [HPN.out.1, HPN.out.2]
    exact ⟨rfl, HXF.out⟩
  by_cases hg : g < 1
  · have HPN : Hid (r1 = Ri.zero ∧ ok = false) := Lib.hid (by have := HP.out; rw [Ri.push_nope (by omega)] at this; injection this with a b; exact ⟨a.symm, b.symm⟩)
    have h8' : (nn == 8) = false := by simpa using h8
    clear bm h8
    obtain ⟨wf, hwf⟩ : ∃ wf, w3.setCells RB 0 (rL Ri.zero) = wf := ⟨_, rfl⟩
    have HWF := Lib.hid hwf
    have HRZ : Hid (wf.heap[RB]? = some (.cells (rL Ri.zero).toArray 38 (0, 0))) := Lib.hid (by rw [← hwf]; exact setCells_at [.int .i64 0, .int .i64 0, .int .i64 0, .int .i64 0, .int .i64 0, .int .i64 0, .int .i64 0, .int .i64 0, .int .i64 0, .int .i64 0] (rL Ri.zero) rfl HR3.out)
    have HTH : Hid (w3.there RB 0 (rL Ri.zero).length) := Lib.hid (there_row HR3.out (Nat.le_refl 10))
    have HXF : Hid (Ext w wf) := Lib.hid (by rw [← hwf]; exact (HXX.out).upd (setCells_upd _ _ _ _) (by have := HRR.out; have := HBB.out; omega))
    clear hwf
    go_wp2_with (refine wpList_store_rowM rfl 38 _ _ rfl RB 0 (rL Ri.zero) (.agg #[.int .i64 0, .int .i64 0, .int .i64 0, .int .i64 0, .int .i64 0, .int .i64 0, .int .i64 0, .int .i64 0, .int .i64 0, .int .i64 0]) (by go_simp) (by go_simp) rfl HTH.out (by kernel_rfl) (rL_one _) HWF.out ?_)
    refine bodyPost_cell_tmp rfl RB _ _ _ _ rfl HRZ.out Try.underlying38 rfl (by kernel_rfl) (.bool false) rfl rfl ?_
    rw [HPN.out.1, HPN.out.2]
    exact ⟨rfl, HXF.out⟩
  obtain ⟨l, hl⟩ : ∃ l, Ri.list ⟨[b0, b1, b2, b3, b4, b5, b6, b7], hd, nn⟩ = l := ⟨_, rfl⟩
  have hh : Ri.Holds ⟨[b0, b1, b2, b3, b4, b5, b6, b7], hd, nn⟩ l := by rw [← hl]; exact Ri.holds_may rfl bm
  have hn8 := Ri.holds_n hh
  simp only at hn8
  have hpa := Ri.push_at hh (g := g) (by omega) (by omega)
  obtain ⟨hdn, hd1, hd3⟩ : ∃ k : Nat, hd = (k : Int) ∧ k < 8 := by obtain ⟨a, b, d1, d2, d3, _⟩ := hh; exact ⟨a, d1, d3⟩
  rw [HP.out, hd1] at hpa
  simp only [Int.toNat_natCast] at hpa
  have HPA : Hid (r1 = Ri.at' hdn (l ++ [g]) ∧ ok = true) := Lib.hid (by injection hpa with a b; exact ⟨a, b⟩)
  have HL := Lib.hid hl
  have HDN : Hid (hd = (hdn : Int) ∧ hdn < 8 ∧ l.length ≤ 8 ∧ l.length < 8) := Lib.hid ⟨hd1, hd3, hn8.2, by omega⟩
  have h8' : (nn == 8) = false := by simpa using h8
  have hg' : ¬ g < 1 := hg
  clear hl hpa hd1 hd3 hn8 bm h8 hh
  have HRL8 : Hid (r1.buf.length = 8) := Lib.hid (by rw [HPA.out.1]; exact Ri.laid_len _ _ _)
  obtain ⟨rv1, hrv1⟩ : ∃ rv1, Value.agg (rL r1).toArray = rv1 := ⟨_, rfl⟩
  have HRV1 := Lib.hid hrv1
  have HK3 : Hid (RBox RB w3) := Lib.hid ⟨⟨Ri.zero, rfl⟩, HR3.out⟩
  have HMS : Hid (RB + 1 ≤ w3.heap.size ∧ w1.heap.size = RB) := Lib.hid ⟨by have := HX3.out.size; have := HS2.out; omega, HS1.out⟩
  have HHD := Lib.hid (HX12.out.trans HX3.out)
  have hK := HK3.out
  have hS1 := HMS.out.1
  have hS2 := HMS.out.2
  clear hrv1
  go_upto_region 3 with fail
  clear p9 h8' hg' hg
  have hB13 : Ext w1 w3 := HHD.out
  refine region_rgz ([(3, (fun u => ∃ A c, u = .slice A l.length c : Value → Prop), (fun u w => OwnF w1 RB w (u 3).v l [u 3] : (Nat → GV) → World → Prop)), (5, (fun u => ∃ A, u = .slice A 1 1 : Value → Prop), (fun u w => OwnF w1 RB w (u 5).v [g] [u 5] : (Nat → GV) → World → Prop)), (6, (fun u => ∃ A c, u = .slice A (l.length + 1) c : Value → Prop), (fun u w => OwnF w1 RB w (u 6).v (l ++ [g]) [u 6, u 3] : (Nat → GV) → World → Prop)), (7, (fun u => u = rv1 : Value → Prop), (fun _ _ => True : (Nat → GV) → World → Prop)), (8, (fun u => u = undef : Value → Prop), (fun u w => w.heap[RB]? = some (.cells (rL r1).toArray 38 (0, 0)) : (Nat → GV) → World → Prop))]) (w1) (RB + 1) (RB) (8) (RBox RB) ([(6, l.length, [3])]) (by kernel_rfl) (by kernel_rfl) ?_ ?_ (by omega) (fun w w2 hl hk => by first | (obtain ⟨x, hx⟩ := hk; exact ⟨x, (hl _ (by omega)).trans hx⟩) | exact hk.low hl (by assumption)) ?_ ?_ ?_ ?_
  · exact List.forall_mem_cons.2 ⟨List.forall_mem_cons.2 ⟨by kernel_rfl, List.forall_mem_nil _⟩, List.forall_mem_nil _⟩
  · exact List.forall_mem_cons.2 ⟨⟨⟨_, none, 0, rfl⟩, fun u v w h ht => by show (fun u w => OwnF w1 RB w (u 3).v l [u 3] : (Nat → GV) → World → Prop) v w; dsimp only; rw [← h 3 (.inl rfl) (by kernel_rfl)]; exact ht, fun u w w2 hx ht => ht.ext hx, List.forall_mem_cons.2 ⟨fun _ hp => by first | (intro u w w2 hap hc ht; refine ht.chg hc ?_; simp; done) | exact rg_vac hp (by kernel_rfl), List.forall_mem_nil _⟩, fun _ u w w2 hz ht => ht.updz hz (by omega)⟩, List.forall_mem_cons.2 ⟨⟨⟨_, none, rfl⟩, fun u v w h ht => by show (fun u w => OwnF w1 RB w (u 5).v [g] [u 5] : (Nat → GV) → World → Prop) v w; dsimp only; rw [← h 5 (.inl rfl) (by kernel_rfl)]; exact ht, fun u w w2 hx ht => ht.ext hx, List.forall_mem_cons.2 ⟨fun _ hp => by first | (intro u w w2 hap hc ht; exact OwnF.away ht hc (fun a ha b hb => by (simp at ha hb; subst ha hb; exact hap 3 (by simp) (show (5 : Nat) ≠ 3 by decide))); done) | exact rg_vac hp (by kernel_rfl), List.forall_mem_nil _⟩, fun _ u w w2 hz ht => ht.updz hz (by omega)⟩, List.forall_mem_cons.2 ⟨⟨⟨_, none, 0, rfl⟩, fun u v w h ht => by show (fun u w => OwnF w1 RB w (u 6).v (l ++ [g]) [u 6, u 3] : (Nat → GV) → World → Prop) v w; dsimp only; rw [← h 6 (.inl rfl) (by kernel_rfl), ← h 3 (.inr (by kernel_rfl)) (by kernel_rfl)]; exact ht, fun u w w2 hx ht => ht.ext hx, List.forall_mem_cons.2 ⟨fun hne => absurd rfl hne, List.forall_mem_nil _⟩, fun _ u w w2 hz ht => ht.updz hz (by omega)⟩, List.forall_mem_cons.2 ⟨⟨⟨_, rfl⟩, fun _ _ _ _ _ => trivial, fun _ _ _ _ _ => trivial, List.forall_mem_cons.2 ⟨fun _ _ _ _ _ _ _ _ => trivial, List.forall_mem_nil _⟩, fun _ _ _ _ _ _ => trivial⟩, List.forall_mem_cons.2 ⟨⟨⟨_, rfl⟩, fun _ _ _ _ ht => ht, fun u w w2 hx ht => hx.blk ht, List.forall_mem_cons.2 ⟨fun _ hp => by first | (intro u w w2 hap hc ht; refine ht.chg hc ?_; simp; done) | exact rg_vac hp (by kernel_rfl), List.forall_mem_nil _⟩, fun hne => absurd rfl hne⟩, List.forall_mem_nil _⟩⟩⟩⟩⟩
  · first | assumption | exact Ext.refl _
  · first | assumption | omega
  · assumption
  refine rg_pure (v := ?_) rfl (by kernel_rfl) (by kernel_rfl) (fun w hS hN => ?_) ?_
  rotate_left 1
  · obtain ⟨hS, hM, hK⟩ := hS
    clear hN
    go_simp
    refine givesP_mk ?_
    with_reducible rfl
  refine rg_pure (v := ?_) rfl (by kernel_rfl) (by kernel_rfl) (fun w hS hN => ?_) ?_
  rotate_left 1
  · obtain ⟨hS, hM, hK⟩ := hS
    have p8 : w.cell? ⟨B, 8, none⟩ = some (.int .i64 hd) := blk_cell (hS.blk HB1.out) 8 _ rfl
    clear hN
    go_simp
    refine givesP_mk ?_
    with_reducible rfl
  refine rg_pure (v := .agg #[.int .i64 b0, .int .i64 b1, .int .i64 b2, .int .i64 b3, .int .i64 b4, .int .i64 b5, .int .i64 b6, .int .i64 b7, .int .i64 hd, .int .i64 nn]) rfl (by kernel_rfl) (by kernel_rfl) (fun w hS hN => ?_) ?_
  · obtain ⟨hS, hM, hK⟩ := hS
    clear hN
    exact givesP_load 38 _ rfl _ (by go_simp) (rL ⟨[b0, b1, b2, b3, b4, b5, b6, b7], hd, nn⟩) _ rfl _ (range_row (hS.blk HB1.out)) Try.underlying38 rfl (by kernel_rfl)
  refine rg_mem (fun u => ∃ A c, u = .slice A l.length c : Value → Prop) (fun u w => OwnF w1 RB w (u 3).v l [u 3] : (Nat → GV) → World → Prop) (fun _ => Ext) rfl rfl rfl rfl (by kernel_rfl) (by kernel_rfl) (fun w hS hN R hR => ?_) ?_
  · obtain ⟨hS, hM, hK⟩ := hS
    have HR := Lib.hid hR
    clear hR
    (try clear hN)
    go_simp
    refine givesM_call ((rrlist_k b0 b1 b2 b3 b4 b5 b6 b7 hd nn l HL.out w).mono ?_)
    rintro e w' ⟨v, rfl, ho, hx⟩
    obtain ⟨A', c', rfl⟩ := OwnInts.form ho
    exact ⟨_, rfl, HR.out _ _ ⟨_, _, rfl⟩ ⟨⟨OwnInts.lower ho hS.size, InB.of_lt fun k hk => World.ownsRow.lt ho k hk⟩, fun b hb => by have := (World.ownsRow.lt ho b hb).1; omega⟩ hx⟩
  rintro u3 s3 t3 ⟨A3, c3, rfl⟩
  refine rg_pure (v := ?_) rfl (by kernel_rfl) (by kernel_rfl) (fun w hS hN => ?_) ?_
  rotate_left 1
  · obtain ⟨hS, hM, hK⟩ := hS
    clear hN
    go_simp
    refine givesP_mk ?_
    with_reducible rfl
  refine rg_mem (fun u => ∃ A, u = .slice A 1 1 : Value → Prop) (fun u w => OwnF w1 RB w (u 5).v [g] [u 5] : (Nat → GV) → World → Prop) (fun _ => Ext) rfl rfl rfl rfl (by kernel_rfl) (by kernel_rfl) (fun w hS hN R hR => ?_) ?_
  · obtain ⟨hS, hM, hK⟩ := hS
    have HR := Lib.hid hR
    clear hR
    (try clear hN)
    go_simp
    exact givesM_val (HR.out _ _ ⟨_, rfl⟩ (OwnF.one hS hM g _) ((Ext.refl w).alloc _))
  rintro u5 s5 t5 ⟨A5, rfl⟩
  refine rg_mem (fun u => ∃ A c, u = .slice A (l.length + 1) c : Value → Prop) (fun u w => OwnF w1 RB w (u 6).v (l ++ [g]) [u 6, u 3] : (Nat → GV) → World → Prop) (fun u w w2 => (ChgIn (w1) (l.length) ([3].map u)) w w2 ∧ LowSame (RB + 1) w w2) rfl rfl rfl rfl (by kernel_rfl) (by kernel_rfl) (fun w hS hN R hR => ?_) ?_
  · obtain ⟨hS, hM, hK⟩ := hS
    have HR := Lib.hid hR
    clear hR
    have h3 : OwnF w1 RB w (.slice A3 l.length c3) l _ := hN.get 3 rfl (by kernel_rfl)
    have h5 : OwnF w1 RB w (.slice A5 1 1) [g] _ := hN.get 5 rfl (by kernel_rfl)
    clear hN
    obtain ⟨A', c', w', hr, ho, hin, hc, hl⟩ := OwnInts.append_chgM 27 hS (show w1.heap.size ≤ RB + 1 by omega) hM h3.owns h3.own.2 (m := [g]) h5.owns.at.2 (by have := HDN.out; simp; omega)
    refine givesM_append _ _ 27 rfl _ _ (by go_simp) (by go_simp) hr ?_
    exact HR.out _ _ ⟨_, _, rfl⟩ ⟨⟨ho.lower (by omega), hin⟩, fun b hb => (World.ownsRow.lt ho b hb).1⟩ ⟨hc, hl⟩
  rintro u6 s6 t6 ⟨A6, c6, rfl⟩
  refine rg_mem (fun u => u = rv1 : Value → Prop) (fun _ _ => True : (Nat → GV) → World → Prop) (fun _ => Ext) rfl rfl rfl rfl (by kernel_rfl) (by kernel_rfl) (fun w hS hN R hR => ?_) ?_
  · obtain ⟨hS, hM, hK⟩ := hS
    have HR := Lib.hid hR
    clear hR
    have h6 : OwnF w1 RB w (.slice A6 (l.length + 1) c6) (l ++ [g]) _ := hN.get 6 rfl (by kernel_rfl)
    (try clear hN)
    go_simp
    refine givesM_call ((rat_any _ hdn (l ++ [g]) hd HDN.out.1 HDN.out.2.1 w h6.owns.at.2 (by have := HDN.out; simp; omega)).mono ?_)
    rintro e w' ⟨rfl, hx⟩
    exact ⟨_, rfl, HR.out _ _ (by rw [← HPA.out.1]; exact HRV1.out) trivial hx⟩
  rintro u7 s7 t7 rfl
  refine rg_mem (fun u => u = undef : Value → Prop) (fun u w => w.heap[RB]? = some (.cells (rL r1).toArray 38 (0, 0)) : (Nat → GV) → World → Prop) (fun _ w w2 => Upd (RB) w w2 ∧ (RBox RB : World → Prop) w2) rfl rfl rfl rfl (by kernel_rfl) (by kernel_rfl) (fun w hS hN R hR => ?_) ?_
  · obtain ⟨hS, hM, hK⟩ := hS
    have HR := Lib.hid hR
    clear hR
    clear hN
    obtain ⟨x, hx⟩ := hK
    have e10 : (rL r1).length = 10 := rL_len HRL8.out
    have hq : (setCells_at (rL x.1) (rL r1) (by rw [e10, rL_len x.2]) hx) = (setCells_at (rL x.1) (rL r1) (by rw [e10, rL_len x.2]) hx) := rfl
    have h2 := setCells_at (rL x.1) (rL r1) (by rw [e10, rL_len x.2]) hx
    clear hq
    refine givesM_store 38 _ _ rfl RB 0 (by go_simp) (rL r1) (by go_simp; exact HRV1.out.symm) (there_row hx (by rw [e10, List.size_toArray, rL_len x.2]; exact Nat.le_refl 10)) (by rw [e10]; kernel_rfl) (rL_one _) ?_
    exact HR.out _ _ rfl h2 ⟨setCells_upd _ _ _ _, ⟨⟨r1, HRL8.out⟩, h2⟩⟩
  rintro u8 s8 t8 rfl
  refine rg_pure (v := ?_) rfl (by kernel_rfl) (by kernel_rfl) (fun w hS hN => ?_) ?_
  rotate_left 1
  · obtain ⟨hS, hM, hK⟩ := hS
    clear hN
    go_simp
    refine givesP_mk ?_
    with_reducible rfl
  refine rg_done rfl (Nat.le_of_ble_eq_true (by kernel_rfl)) ?_
  intro w9 hS hT
  have h9 : w9.heap[RB]? = some (.cells (rL r1).toArray 38 (0, 0)) := hT (8, ⟨undef, s8, t8⟩) (by simp)
  have HR9 := Lib.hid h9
  have HX9 : Hid (Ext w w9) := Lib.hid ((show Ext w w1 by rw [← HW1.out]; exact (Ext.refl w).alloc _).trans hS.1)
  have HSZ : Hid ((Try.prog.info? 38).map (·.size) = some (rL r1).toArray.size) := Lib.hid (by rw [List.size_toArray, rL_len HRL8.out]; kernel_rfl)
  clear hT hS h9
  go_simp
  go_wp2
  refine bodyPost_cell_tmp rfl RB _ _ _ _ rfl HR9.out Try.underlying38 rfl HSZ.out (.bool true) rfl rfl ?_
  rw [HPA.out.2]
  exact ⟨rfl, HX9.out⟩
set_option maxRecDepth 100000 in
set_option maxHeartbeats 8000000 in
theorem r9half_any (b0 b1 b2 b3 b4 b5 b6 b7 hd nn : Int) (r1 : Ri) (o : List Int) (hp : Ri.half ⟨[b0, b1, b2, b3, b4, b5, b6, b7], hd, nn⟩ = (r1, o)) (w : World) : Calls Try.prog 72 #[.agg #[.int .i64 b0, .int .i64 b1, .int .i64 b2, .int .i64 b3, .int .i64 b4, .int .i64 b5, .int .i64 b6, .int .i64 b7, .int .i64 hd, .int .i64 nn]] w fun e w' => ∃ A c, e = .returned (.tuple #[.agg (rL r1).toArray, .slice A o.length c]) ∧ OwnInts w' w.heap.size (.slice A o.length c) o ∧ Ext w w' := by
  have HP := Lib.hid hp
  clear hp
  obtain ⟨B, hB⟩ : ∃ B, w.heap.size = B := ⟨_, rfl⟩
  obtain ⟨RB, hR⟩ : ∃ RB, B + 1 = RB := ⟨_, rfl⟩
  obtain ⟨w1, hw1⟩ : ∃ w1, w.alloc (.cells #[.int .i64 b0, .int .i64 b1, .int .i64 b2, .int .i64 b3, .int .i64 b4, .int .i64 b5, .int .i64 b6, .int .i64 b7, .int .i64 hd, .int .i64 nn] 38) = w1 := ⟨_, rfl⟩
  obtain ⟨w2, hw2⟩ : ∃ w2, w1.alloc (.cells #[.int .i64 0, .int .i64 0, .int .i64 0, .int .i64 0, .int .i64 0, .int .i64 0, .int .i64 0, .int .i64 0, .int .i64 0, .int .i64 0] 38) = w2 := ⟨_, rfl⟩
  have HX2 : Hid (Ext w w2) := Lib.hid (by rw [← hw2, ← hw1]; exact ((Ext.refl w).alloc _).alloc _)
  have HX12 : Hid (Ext w1 w2) := Lib.hid (by rw [← hw2]; exact (Ext.refl w1).alloc _)
  have HS1 : Hid (w1.heap.size = RB) := Lib.hid (by rw [← hw1, World.size_alloc, hB, hR])
  have HB1 : Hid (w1.heap[B]? = some (.cells (rL ⟨[b0, b1, b2, b3, b4, b5, b6, b7], hd, nn⟩).toArray 38 (0, 0))) := Lib.hid (by rw [← hw1, ← hB]; exact blk_new w _)
  have HR2 : Hid (w2.heap[RB]? = some (.cells (rL Ri.zero).toArray 38 (0, 0))) := Lib.hid (by
    have := blk_new w1 (.cells #[.int .i64 0, .int .i64 0, .int .i64 0, .int .i64 0, .int .i64 0, .int .i64 0, .int .i64 0, .int .i64 0, .int .i64 0, .int .i64 0] 38)
    rw [hw2, HS1.out] at this
    exact this)
  have HS2 : Hid (w2.heap.size = RB + 1) := Lib.hid (by rw [← hw2, World.size_alloc, HS1.out])
  obtain ⟨rv, hrv⟩ : ∃ rv, Value.agg #[.int .i64 b0, .int .i64 b1, .int .i64 b2, .int .i64 b3, .int .i64 b4, .int .i64 b5, .int .i64 b6, .int .i64 b7, .int .i64 hd, .int .i64 nn] = rv := ⟨_, rfl⟩
  have HRV := Lib.hid hrv
  have HW12 : Hid ((w.alloc (.cells #[.int .i64 b0, .int .i64 b1, .int .i64 b2, .int .i64 b3, .int .i64 b4, .int .i64 b5, .int .i64 b6, .int .i64 b7, .int .i64 hd, .int .i64 nn] 38)).alloc (.cells #[.int .i64 0, .int .i64 0, .int .i64 0, .int .i64 0, .int .i64 0, .int .i64 0, .int .i64 0, .int .i64 0, .int .i64 0, .int .i64 0] 38) = w2) := Lib.hid (by rw [hw1, hw2])
  have HW1 := Lib.hid hw1
  have HBB := Lib.hid hB
  have HRR := Lib.hid hR
  clear hB hR hw1 hw2 hrv
  go_enter Try.func72, Try.ntmps72
  go_upto_region 1 with fail
  rw [HW12.out, HBB.out, HRR.out]
  go_wp2_with (refine wpList_load_rowM (by rfl) 38 _ rfl B 0 (by go_simp) (rL ⟨[b0, b1, b2, b3, b4, b5, b6, b7], hd, nn⟩) rv HRV.out.symm _ (range_row (HX12.out.blk HB1.out)) Try.underlying38 rfl (by kernel_rfl) ?_)
  rw [← HRV.out]
  refine (rrmay_k b0 b1 b2 b3 b4 b5 b6 b7 hd nn _ rfl w2).mono ?_
  rintro e w3 ⟨rfl, hx3⟩
  have HX3 := Lib.hid hx3
  have HXX := Lib.hid (HX2.out.trans hx3)
  have HR3 := Lib.hid (hx3.blk HR2.out)
  clear hx3
  cases bm : Ri.may ⟨[b0, b1, b2, b3, b4, b5, b6, b7], hd, nn⟩ with
  | false =>
    have HPN : Hid (r1 = Ri.zero ∧ o = []) := Lib.hid (by have := HP.out; rw [Ri.half_nope bm] at this; injection this with a b; exact ⟨a.symm, b.symm⟩)
    clear bm
    obtain ⟨wf, hwf⟩ : ∃ wf, w3.setCells RB 0 (rL Ri.zero) = wf := ⟨_, rfl⟩
    have HWF := Lib.hid hwf
    have HRZ : Hid (wf.heap[RB]? = some (.cells (rL Ri.zero).toArray 38 (0, 0))) := Lib.hid (by rw [← hwf]; exact setCells_at [.int .i64 0, .int .i64 0, .int .i64 0, .int .i64 0, .int .i64 0, .int .i64 0, .int .i64 0, .int .i64 0, .int .i64 0, .int .i64 0] (rL Ri.zero) rfl HR3.out)
    have HTH : Hid (w3.there RB 0 (rL Ri.zero).length) := Lib.hid (there_row HR3.out (Nat.le_refl 10))
    have HXF : Hid (Ext w wf) := Lib.hid (by rw [← hwf]; exact (HXX.out).upd (setCells_upd _ _ _ _) (by have := HRR.out; have := HBB.out; omega))
    clear hwf
    go_wp2_with (refine wpList_store_rowM rfl 38 _ _ rfl RB 0 (rL Ri.zero) (.agg #[.int .i64 0, .int .i64 0, .int .i64 0, .int .i64 0, .int .i64 0, .int .i64 0, .int .i64 0, .int .i64 0, .int .i64 0, .int .i64 0]) (by go_simp) (by go_simp) rfl HTH.out (by kernel_rfl) (rL_one _) HWF.out ?_)
    refine bodyPost_cell_tmp rfl RB _ _ _ _ rfl HRZ.out Try.underlying38 rfl (by kernel_rfl) (.slice none 0 0) rfl rfl ?_
    obtain ⟨e1, e2⟩ := HPN.out
    subst e1 e2
    exact ⟨none, 0, rfl, OwnInts.nil _ _, HXF.out⟩
  | true =>
  obtain ⟨l, hl⟩ : ∃ l, Ri.list ⟨[b0, b1, b2, b3, b4, b5, b6, b7], hd, nn⟩ = l := ⟨_, rfl⟩
  have hh : Ri.Holds ⟨[b0, b1, b2, b3, b4, b5, b6, b7], hd, nn⟩ l := by rw [← hl]; exact Ri.holds_may rfl bm
  have hn8 := (Ri.holds_n hh).2
  have hpa := Ri.half_at hh
  obtain ⟨hdn, hd1, hd3⟩ : ∃ k : Nat, hd = (k : Int) ∧ k < 8 := by obtain ⟨a, b, d1, d2, d3, _⟩ := hh; exact ⟨a, d1, d3⟩
  obtain ⟨k, hk⟩ : ∃ k, (l.length + 1) / 2 = k := ⟨_, rfl⟩
  rw [HP.out, hk] at hpa
  simp only at hpa
  rw [hd1, Int.toNat_natCast] at hpa
  have HPA : Hid (r1 = Ri.at' ((hdn + k) % 8) (l.drop k) ∧ o = l.take k) := Lib.hid (by injection hpa with a b; exact ⟨a, b⟩)
  have HL := Lib.hid hl
  have HDN : Hid (hd = (hdn : Int) ∧ hdn < 8 ∧ l.length ≤ 8 ∧ k ≤ l.length) := Lib.hid ⟨hd1, hd3, hn8, by omega⟩
  have HKK := Lib.hid hk
  have HRL8 : Hid (r1.buf.length = 8) := Lib.hid (by rw [HPA.out.1]; exact Ri.laid_len _ _ _)
  obtain ⟨rv1, hrv1⟩ : ∃ rv1, Value.agg (rL r1).toArray = rv1 := ⟨_, rfl⟩
  have HRV1 := Lib.hid hrv1
  clear hl hpa hd1 hd3 hn8 bm hh hk hrv1
  go_wp2_with (refine wpList_load_rowM (by rfl) 38 _ rfl B 0 (by go_simp) (rL ⟨[b0, b1, b2, b3, b4, b5, b6, b7], hd, nn⟩) rv HRV.out.symm _ (range_row ((HX12.out.trans HX3.out).blk HB1.out)) Try.underlying38 rfl (by kernel_rfl) ?_)
  rw [← HRV.out]
  refine (rrlist_k b0 b1 b2 b3 b4 b5 b6 b7 hd nn l HL.out w3).mono ?_
  rintro e w4 ⟨v, rfl, ho, hx4⟩
  obtain ⟨A, c, rfl⟩ := ho.form
  have HO4 : Hid (OwnInts w4 (RB + 1) (.slice A l.length c) l) := Lib.hid (ho.lower (by have := HX3.out.size; have := HS2.out; omega))
  have HOW4 : Hid (OwnInts w4 w.heap.size (.slice A l.length c) l) := Lib.hid (ho.lower HXX.out.size)
  have HCAP := Lib.hid ho.cap.2
  have HK4 : Hid (HalfK RB w4.heap.size (.slice A l.length c) l w4) := Lib.hid ⟨⟨⟨Ri.zero, rfl⟩, hx4.blk HR3.out⟩, HO4.out, fun b hb => (World.ownsRow.lt HO4.out b hb).2⟩
  have HMS : Hid (RB + 1 ≤ w4.heap.size ∧ w1.heap.size = RB) := Lib.hid ⟨by have := hx4.size; have := HX3.out.size; have := HS2.out; omega, HS1.out⟩
  have HHD := Lib.hid (HX12.out.trans (HX3.out.trans hx4))
  have hK := HK4.out
  have hS1 := HMS.out.1
  have hS2 := HMS.out.2
  have hB14 : Ext w1 w4 := HHD.out
  have f1 : IntKind.i64.wrap ((l.length : Int) + 1) = (l.length : Int) + 1 := IntWalk.i64_in _ (by have := HDN.out; omega)
  have f6 : (l.length : Int) ≤ 8 := by have := HDN.out; omega
  have f7 : (k : Int) ≤ 8 := by have := HDN.out; omega
  have f2 : ((l.length : Int) + 1).tdiv 2 = (k : Int) := by rw [Int.tdiv_eq_ediv_of_nonneg (by omega)]; have := HKK.out; omega
  have f3 : IntKind.i64.wrap (k : Int) = (k : Int) := IntWalk.i64_in _ (by have := HDN.out; omega)
  have f4 : IntKind.i64.wrap (hd + (k : Int)) = ((hdn + k : Nat) : Int) := by rw [IntWalk.i64_in _ (by have := HDN.out; omega)]; have := HDN.out.1; omega
  have f5 : ((hdn : Int) + (k : Int)).tmod 8 = (((hdn + k) % 8 : Nat) : Int) := by rw [Int.tmod_eq_emod_of_nonneg (by omega)]; omega
  have S1 : ∀ v, (Instr.slice 27 (.slice A l.length c) none (some (.int .i64 (k : Int))) none).run Try.prog v = .ok (.slice A k c) v := fun v => irun_to _ _ _ _ HDN.out.2.2.2 HCAP.out v
  have S2 : ∀ v, (Instr.slice 27 (.slice A l.length c) (some (.int .i64 (k : Int))) none none).run Try.prog v = .ok (.slice (advK A k c) (l.length - k) (c - k)) v := fun v => irun_from _ _ _ _ HDN.out.2.2.2 HCAP.out v
  clear ho hx4
  go_upto_region 5 with fail
  refine region_rgz ([(8, (fun u => u = rv1 : Value → Prop), (fun _ _ => True : (Nat → GV) → World → Prop)), (12, (fun u => u = undef : Value → Prop), (fun u w => w.heap[RB]? = some (.cells (rL r1).toArray 38 (0, 0)) : (Nat → GV) → World → Prop))]) (w1) (w4.heap.size) (RB) (12) (HalfK RB w4.heap.size (.slice A l.length c) l) ([]) (by kernel_rfl) (by kernel_rfl) ?_ ?_ (by omega) (fun w w2 hl hk => by first | (obtain ⟨x, hx⟩ := hk; exact ⟨x, (hl _ (by omega)).trans hx⟩) | exact hk.low hl (by assumption)) ?_ ?_ ?_ ?_
  · exact List.forall_mem_nil _
  · exact List.forall_mem_cons.2 ⟨⟨⟨_, rfl⟩, fun _ _ _ _ _ => trivial, fun _ _ _ _ _ => trivial, List.forall_mem_nil _, fun _ _ _ _ _ _ => trivial⟩, List.forall_mem_cons.2 ⟨⟨⟨_, rfl⟩, fun _ _ _ _ ht => ht, fun u w w2 hx ht => hx.blk ht, List.forall_mem_nil _, fun hne => absurd rfl hne⟩, List.forall_mem_nil _⟩⟩
  · first | assumption | exact Ext.refl _
  · first | assumption | omega
  · assumption
  refine rg_pure (v := ?_) rfl (by kernel_rfl) (by kernel_rfl) (fun w hS hN => ?_) ?_
  rotate_left 1
  · obtain ⟨hS, hM, hK⟩ := hS
    clear hN
    go_simp
    try simp only [f4, S1, S2]
    refine givesP_mk ?_
    with_reducible rfl
  refine rg_pure (v := ?_) rfl (by kernel_rfl) (by kernel_rfl) (fun w hS hN => ?_) ?_
  rotate_left 1
  · obtain ⟨hS, hM, hK⟩ := hS
    have p8 : w.cell? ⟨B, 8, none⟩ = some (.int .i64 hd) := blk_cell (hS.blk HB1.out) 8 _ rfl
    clear hN
    go_simp
    try simp only [f4, S1, S2]
    refine givesP_mk ?_
    with_reducible rfl
  refine rg_pure (v := ?_) rfl (by kernel_rfl) (by kernel_rfl) (fun w hS hN => ?_) ?_
  rotate_left 1
  · obtain ⟨hS, hM, hK⟩ := hS
    clear hN
    go_simp
    try simp only [f4, S1, S2]
    refine givesP_mk ?_
    with_reducible rfl
  refine rg_pure (v := ?_) rfl (by kernel_rfl) (by kernel_rfl) (fun w hS hN => ?_) ?_
  rotate_left 1
  · obtain ⟨hS, hM, hK⟩ := hS
    clear hN
    go_simp
    try simp only [f4, S1, S2]
    refine givesP_mk ?_
    with_reducible rfl
  refine rg_pure (v := ?_) rfl (by kernel_rfl) (by kernel_rfl) (fun w hS hN => ?_) ?_
  rotate_left 1
  · obtain ⟨hS, hM, hK⟩ := hS
    clear hN
    go_simp
    try simp only [f4, S1, S2]
    refine givesP_mk ?_
    with_reducible rfl
  refine rg_pure (v := ?_) rfl (by kernel_rfl) (by kernel_rfl) (fun w hS hN => ?_) ?_
  rotate_left 1
  · obtain ⟨hS, hM, hK⟩ := hS
    clear hN
    go_simp
    try simp only [f4, S1, S2]
    refine givesP_mk ?_
    with_reducible rfl
  refine rg_pure (v := ?_) rfl (by kernel_rfl) (by kernel_rfl) (fun w hS hN => ?_) ?_
  rotate_left 1
  · obtain ⟨hS, hM, hK⟩ := hS
    clear hN
    go_simp
    try simp only [f4, S1, S2]
    refine givesP_mk ?_
    with_reducible rfl
  refine rg_pure (v := ?_) rfl (by kernel_rfl) (by kernel_rfl) (fun w hS hN => ?_) ?_
  rotate_left 1
  · obtain ⟨hS, hM, hK⟩ := hS
    clear hN
    go_simp
    try simp only [f4, S1, S2]
    refine givesP_mk ?_
    with_reducible rfl
  refine rg_mem (fun u => u = rv1 : Value → Prop) (fun _ _ => True : (Nat → GV) → World → Prop) (fun _ => Ext) rfl rfl rfl rfl (by kernel_rfl) (by kernel_rfl) (fun w hS hN R hR => ?_) ?_
  · obtain ⟨hS, hM, hK⟩ := hS
    have HR := Lib.hid hR
    clear hR
    have h4 := hK.own
    (try clear hN)
    go_simp
    refine givesM_call ((rat_any _ ((hdn + k) % 8) (l.drop k) _ f5 (Nat.mod_lt _ (by omega)) w (h4.at.2.behind HDN.out.2.2.2 HCAP.out) (by have := HDN.out; rw [List.length_drop]; omega)).mono ?_)
    rintro e w' ⟨rfl, hx⟩
    exact ⟨_, rfl, HR.out _ _ (by rw [← HPA.out.1]; exact HRV1.out) trivial hx⟩
  rintro u8 s8 t8 rfl
  refine rg_pure (v := ?_) rfl (by kernel_rfl) (by kernel_rfl) (fun w hS hN => ?_) ?_
  rotate_left 1
  · obtain ⟨hS, hM, hK⟩ := hS
    clear hN
    go_simp
    try simp only [f4, S1, S2]
    refine givesP_mk ?_
    with_reducible rfl
  refine rg_pure (v := ?_) rfl (by kernel_rfl) (by kernel_rfl) (fun w hS hN => ?_) ?_
  rotate_left 1
  · obtain ⟨hS, hM, hK⟩ := hS
    clear hN
    go_simp
    try simp only [f4, S1, S2]
    refine givesP_mk ?_
    with_reducible rfl
  refine rg_pure (v := ?_) rfl (by kernel_rfl) (by kernel_rfl) (fun w hS hN => ?_) ?_
  rotate_left 1
  · obtain ⟨hS, hM, hK⟩ := hS
    clear hN
    go_simp
    try simp only [f4, S1, S2]
    refine givesP_mk ?_
    with_reducible rfl
  refine rg_mem (fun u => u = undef : Value → Prop) (fun u w => w.heap[RB]? = some (.cells (rL r1).toArray 38 (0, 0)) : (Nat → GV) → World → Prop) (fun _ w w2 => Upd (RB) w w2 ∧ (HalfK RB w4.heap.size (.slice A l.length c) l : World → Prop) w2) rfl rfl rfl rfl (by kernel_rfl) (by kernel_rfl) (fun w hS hN R hR => ?_) ?_
  · obtain ⟨hS, hM, hK⟩ := hS
    have HR := Lib.hid hR
    clear hR
    clear hN
    obtain ⟨x, hx⟩ := hK.box
    have e10 : (rL r1).length = 10 := rL_len HRL8.out
    have h2 := setCells_at (rL x.1) (rL r1) (by rw [e10, rL_len x.2]) hx
    refine givesM_store 38 _ _ rfl RB 0 (by go_simp) (rL r1) (by go_simp; exact HRV1.out.symm) (there_row hx (by rw [e10, List.size_toArray, rL_len x.2]; exact Nat.le_refl 10)) (by rw [e10]; kernel_rfl) (rL_one _) ?_
    exact HR.out _ _ rfl h2 ⟨setCells_upd _ _ _ _, ⟨⟨⟨r1, HRL8.out⟩, h2⟩, hK.own.updB (setCells_upd _ _ _ _) (Nat.lt_succ_self _), hK.und⟩⟩
  rintro u12 s12 t12 rfl
  refine rg_pure (v := ?_) rfl (by kernel_rfl) (by kernel_rfl) (fun w hS hN => ?_) ?_
  rotate_left 1
  · obtain ⟨hS, hM, hK⟩ := hS
    clear hN
    go_simp
    try simp only [f4, S1, S2]
    refine givesP_mk ?_
    with_reducible rfl
  refine rg_done rfl (Nat.le_of_ble_eq_true (by kernel_rfl)) ?_
  intro w9 hS hT
  have h9 : w9.heap[RB]? = some (.cells (rL r1).toArray 38 (0, 0)) := hT (12, ⟨undef, s12, t12⟩) (by simp)
  have HR9 := Lib.hid h9
  have HX9 : Hid (Ext w w9) := Lib.hid ((show Ext w w1 by rw [← HW1.out]; exact (Ext.refl w).alloc _).trans hS.1)
  have HSZ : Hid ((Try.prog.info? 38).map (·.size) = some (rL r1).toArray.size) := Lib.hid (by rw [List.size_toArray, rL_len HRL8.out]; kernel_rfl)
  have HO9 : Hid (OwnInts w9 w.heap.size (.slice A o.length c) o) := Lib.hid (by
    have hl : o.length = k := by rw [HPA.out.2, List.length_take]; have := HDN.out; omega
    rw [hl, HPA.out.2]
    exact (hS.2.2.own.uptoO HDN.out.2.2.2).lower (by have := HBB.out; have := HRR.out; omega))
  have HOL : Hid (k = o.length) := Lib.hid (by rw [HPA.out.2, List.length_take]; have := HDN.out; omega)
  clear hT hS h9 f1 f2 f3 f4 f5 f6 f7 S1 S2
  go_simp
  go_wp2
  refine bodyPost_cell_tmp rfl RB _ _ _ _ rfl HR9.out Try.underlying38 rfl HSZ.out (.slice A k c) rfl rfl ?_
  rw [HOL.out]
  exact ⟨A, c, rfl, HO9.out, HX9.out⟩
end Go.Proofs.Ytogcfndhcphpaaa
