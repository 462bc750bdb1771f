/-
  Several texts in one: Ye, Yf, Yg, Yh.
-/
import Derived.Test.YtogcfndhcphpaaaC14
import Derived.Test.YtogcfndhcphpaaaC02
import Derived.Test.YtogcfndhcphpaaaC13
set_option linter.unusedVariables false
set_option linter.unusedSimpArgs false
namespace Go.Proofs.Ytogcfndhcphpaaa
open Go.RowKit
theorem stL_run (h : StH) (s : St) (p g : Int) : stL h (s.runG p g) = stL h s := by
  unfold stL St.runG
  simp only [List.length_set]
theorem SitC.fin {w v : World} {W0 R B : Nat} {C : List Value} {h : StH} {s : St} (k : SitC w W0 R B v C h s) (hc : C.length = 16) : (v.setCells R 0 C).heap[R]? = some (.cells C.toArray 32 (0, 0)) ∧ v.there R 0 C.length ∧ (∃ I, StApart w.heap.size (v.setCells R 0 C) I h s) ∧ Ext w (v.setCells R 0 C) := by
  have hu := setCells_upd R C v 0
  have l := k.lo
  obtain ⟨I, a⟩ := k.ap
  exact ⟨setCells_at [.slice none 0 0, .slice none 0 0, .slice none 0 0, .slice none 0 0, .slice none 0 0, .int .i64 0, .int .i64 0, .int .i64 0, .int .i64 0, .slice none 0 0, .slice none 0 0, .slice none 0 0, .slice none 0 0, .slice none 0 0, .int .i64 0, .int .i64 0] C (by rw [hc]; rfl) k.res, there_row k.res (by rw [hc]; exact Nat.le_refl 16),
    ⟨I, (a.far (But.upd (S := fun b => b = R) hu rfl) (fun b hb => by omega)).lower (by omega)⟩, k.ext.upd hu (by omega)⟩
def PickR (w : World) (s : St) (p vc : Int) (e : Ending) (w' : World) : Prop :=
  (s.looks p = false ∧ e = .returned (.tuple #[stV StH.nil St.nil, .int .i64 0, .int .i64 1]) ∧ Ext w w') ∨
  ∃ (i j : Nat) (x : Pr) (t : St) (g : Int) (h' : StH), p = (i : Int) + 1 ∧ St.Idle s i j x ∧ St.PickC s i x vc t g ∧ e = .returned (.tuple #[stV h' (t.after p g), .int .i64 g, .int .i64 0]) ∧ StOk w' h' (t.after p g) ∧ Ext w w'
theorem results_cell_tmp2 {fn : Func} {p u v : Tmp} {ty : TypeId} (h : fn.results = #[.cell p ty, .tmp u, .tmp v]) (tmps : Array Value) (P : Program) (w : World) :
    (results fn tmps).run P w = ((asAddr (tmps.getD p undef)).run P w).andThen fun a w₁ => ((loadVar ty a).run P w₁).andThen fun x w₂ => .ok (.tuple #[x, tmps.getD u undef, tmps.getD v undef]) w₂ := by
  simp only [results, h]
  simp [Sem.run_bind, Result.andThen]
theorem bodyPost_cell_tmp2 {P : Program} {fn : Func} {p u v : Tmp} {ty : TypeId} {a : Act} {w : World} {Q : Ending → World → Prop} (h : fn.results = #[.cell p ty, .tmp u, .tmp v]) (g : Nat) (t : TypeId) (cs : Array Value) (fr : Nat × Nat) (d : TypeDesc)
    (hp : a.tmps.getD p undef = .pointer (some ⟨g, 0, none⟩)) (hg : w.heap[g]? = some (.cells cs t fr)) (hu : P.underlying ty = some d) (hd : (match d with | .struct _ | .array _ _ => true | _ => false) = true) (hi : (P.info? ty).map (·.size) = some cs.size) (x y : Value) (hx : a.tmps.getD u undef = x) (hy : a.tmps.getD v undef = y) (hdf : a.defers = [])
    (hQ : Q (.returned (.tuple #[.agg cs, x, y])) w) : bodyPost P fn Q .ret a w := by
  subst hx hy
  refine bodyPost_ret (v := .tuple #[.agg cs, a.tmps.getD u undef, a.tmps.getD v undef]) ?_ hdf hQ
  rw [results_cell_tmp2 h, hp]
  simp only [asAddr, Sem.run_pure, Result.andThen_ok, run_loadVar_row w g t ty cs fr d hg hu hd hi]
theorem glob_ok {B : Nat} {w : World} {I : Nat → Nat × Nat} {h : StH} {s : St} {g : Int} {l : List Int} (ha : StApart B w I h s) (hg : s.glob = g :: l) (hb : ∀ p ∈ s.ps, p.ring.buf.length = 8) : StOk w { h with la := advK h.la 1 h.lc, lc := h.lc - 1 } { s with glob := l } := by
  have k := ha.ok hb
  have hgl := ha.glob.1.at.2.behind (k := 1) (by rw [hg]; simp) ha.glob.1.capY.2
  have e : s.glob.drop 1 = l := by rw [hg]; rfl
  have e2 : s.glob.length - 1 = l.length := by rw [hg]; rfl
  rw [e, e2] at hgl
  exact ⟨k.prog, k.gs, k.ps, k.ms, hgl, k.w0, k.w1, k.w2, k.w3, k.timers, k.buf⟩
set_option maxRecDepth 100000 in
set_option maxHeartbeats 32000000 in
theorem fPick_any (h : StH) (s : St) (p vc : Int) (w : World) (hk : StOk w h s) (hg : StGood s) (hgl : s.glob.length ≤ 80) : Calls Try.prog 36 #[stV h s, .int .i64 p, .int .i64 vc] w (PickR w s p vc) := by
  have hf := hg.few
  have HG := Lib.hid hg
  have HGL := Lib.hid hgl
  clear hg hgl
  have HF := Lib.hid hf
  have HK := Lib.hid hk
  obtain ⟨W0, hW0⟩ : ∃ W0, w.heap.size = W0 := ⟨_, rfl⟩
  obtain ⟨R, hR⟩ : ∃ R, W0 + 1 = R := ⟨_, rfl⟩
  obtain ⟨w2, hw2⟩ : ∃ w2, (w.alloc (.cells #[.slice h.pa s.prog.length h.pc, .slice h.ga s.gs.length h.gc, .slice h.qa s.ps.length h.qc, .slice h.ma s.ms.length h.mc, .slice h.la s.glob.length h.lc, .int .i64 s.c0, .int .i64 s.c1, .int .i64 s.c2, .int .i64 s.c3, .slice h.a0 s.w0.length h.k0, .slice h.a1 s.w1.length h.k1, .slice h.a2 s.w2.length h.k2, .slice h.a3 s.w3.length h.k3, .slice h.ta s.timers.length h.tc, .int .i64 s.clock, .int .i64 s.procs] 32)).alloc (.cells #[.slice none 0 0, .slice none 0 0, .slice none 0 0, .slice none 0 0, .slice none 0 0, .int .i64 0, .int .i64 0, .int .i64 0, .int .i64 0, .slice none 0 0, .slice none 0 0, .slice none 0 0, .slice none 0 0, .slice none 0 0, .int .i64 0, .int .i64 0] 32) = w2 := ⟨_, rfl⟩
  have HX1 : Hid (Ext w w2) := Lib.hid (by rw [← hw2]; exact ((Ext.refl w).alloc _).alloc _)
  have HB1 : Hid (w2.heap[W0]? = some (.cells (stC h s) 32 (0, 0))) := Lib.hid (by rw [← hw2, ← hW0]; exact blk_alloc (blk_new w _) _)
  have HR1 : Hid (w2.heap[R]? = some (.cells #[.slice none 0 0, .slice none 0 0, .slice none 0 0, .slice none 0 0, .slice none 0 0, .int .i64 0, .int .i64 0, .int .i64 0, .int .i64 0, .slice none 0 0, .slice none 0 0, .slice none 0 0, .slice none 0 0, .slice none 0 0, .int .i64 0, .int .i64 0] 32 (0, 0))) := Lib.hid (by
    have := blk_new (w.alloc (.cells #[.slice h.pa s.prog.length h.pc, .slice h.ga s.gs.length h.gc, .slice h.qa s.ps.length h.qc, .slice h.ma s.ms.length h.mc, .slice h.la s.glob.length h.lc, .int .i64 s.c0, .int .i64 s.c1, .int .i64 s.c2, .int .i64 s.c3, .slice h.a0 s.w0.length h.k0, .slice h.a1 s.w1.length h.k1, .slice h.a2 s.w2.length h.k2, .slice h.a3 s.w3.length h.k3, .slice h.ta s.timers.length h.tc, .int .i64 s.clock, .int .i64 s.procs] 32)) (.cells #[.slice none 0 0, .slice none 0 0, .slice none 0 0, .slice none 0 0, .slice none 0 0, .int .i64 0, .int .i64 0, .int .i64 0, .int .i64 0, .slice none 0 0, .slice none 0 0, .slice none 0 0, .slice none 0 0, .slice none 0 0, .int .i64 0, .int .i64 0] 32)
    rw [hw2, World.size_alloc, hW0, hR] at this
    exact this)
  have HRR := Lib.hid hR
  have HW0 := Lib.hid hW0
  have HW2 := Lib.hid hw2
  have HK1 := Lib.hid (hk.ext HX1.out)
  clear hk hf hw2 hW0 hR
  obtain ⟨PQ, hPQ⟩ : ∃ PQ : Ending → World → Prop, PQ = PickR w s p vc := ⟨_, rfl⟩
  rw [← hPQ]
  have HPQ := Lib.hid hPQ
  clear hPQ
  unfold stV
  go_enter Try.func36, Try.ntmps36
  go_upto_region 1 with fail
  rw [HW2.out, HW0.out, HRR.out]
  generalize Value.agg #[.slice h.pa s.prog.length h.pc, .slice h.ga s.gs.length h.gc, .slice h.qa s.ps.length h.qc, .slice h.ma s.ms.length h.mc, .slice h.la s.glob.length h.lc, .int .i64 s.c0, .int .i64 s.c1, .int .i64 s.c2, .int .i64 s.c3, .slice h.a0 s.w0.length h.k0, .slice h.a1 s.w1.length h.k1, .slice h.a2 s.w2.length h.k2, .slice h.a3 s.w3.length h.k3, .slice h.ta s.timers.length h.tc, .int .i64 s.clock, .int .i64 s.procs] = sv0
  go_wp2_with (refine wpList_load_rowW (by rfl) 32 _ rfl W0 (by go_simp) (stL h s) (stV h s) rfl _ (range_row HB1.out) Try.underlying32 rfl (by kernel_rfl) ?_)
  refine (flooks_any h s p _ rfl w2 HK1.out HF.out).mono ?_
  rintro e wa ⟨rfl, hxa⟩
  have HXA := Lib.hid (HX1.out.trans hxa)
  have HBA := Lib.hid (hxa.blk HB1.out)
  have HRA := Lib.hid (hxa.blk HR1.out)
  clear hxa
  cases bl : s.looks p with
  | false =>
    have HN := Lib.hid bl
    obtain ⟨wf, hwf⟩ : ∃ wf, wa.setCells R 0 (stL StH.nil St.nil) = wf := ⟨_, rfl⟩
    have hfn := fin_nil HRA.out HXA.out (show w.heap.size ≤ R by have := HRR.out; have := HW0.out; omega)
    rw [hwf] at hfn
    have HFN := Lib.hid hfn
    have HWF := Lib.hid hwf
    clear hfn hwf bl
    go_wp2_with (refine wpList_store_row rfl 32 _ _ rfl R (stL StH.nil St.nil) (stV StH.nil St.nil) rfl rfl rfl HFN.out.2.1 (by kernel_rfl) (stL_one _ _) HWF.out ?_)
    refine bodyPost_cell_tmp2 rfl R _ _ _ _ rfl HFN.out.1 Try.underlying32 rfl (by kernel_rfl) (.int .i64 0) (.int .i64 1) rfl rfl rfl ?_
    rw [HPQ.out]
    exact .inl ⟨HN.out, rfl, HFN.out.2.2⟩
  | true =>
  obtain ⟨i, j, x, rfl, hi⟩ := St.looks_iff.1 bl
  have HI := Lib.hid hi
  clear hi bl
  go_wp2_with (refine wpList_load_rowW (by rfl) 32 _ rfl W0 (by go_simp) (stL h s) (stV h s) rfl _ (range_row HBA.out) Try.underlying32 rfl (by kernel_rfl) ?_)
  refine (sCopy_any h s wa (HK.out.ext HXA.out) HF.out).mono ?_
  rintro e w3 ⟨h1, L, rfl, ho, hL, hx⟩
  obtain ⟨w4, hw4⟩ : ∃ w4, w3.setCells W0 0 (stL h1 s) = w4 := ⟨_, rfl⟩
  have hst := Sit.start (w := w) rfl HXA.out HBA.out HRA.out hx (ho.apart hL) (by have := HRR.out; omega) (by have := HW0.out; omega) (by have := HW0.out; have := HRR.out; omega)
  rw [hw4] at hst
  have HTH := Lib.hid hst.1
  have S4 := Lib.hid hst.2
  have HW4 := Lib.hid hw4
  have HB8 := Lib.hid (HG.out.buf x (List.mem_of_getElem? HI.out.at_))
  have HRM := Lib.hid (St.may_ring HI.out.may HI.out.at_)
  clear ho hL hx hst hw4
  go_upto_region 4 with (refine wpList_store_row rfl 32 _ _ rfl W0 (stL h1 s) (stV h1 s) (by go_simp) (by go_simp) rfl HTH.out (by kernel_rfl) (stL_one _ _) HW4.out ?_)
  go_wp2_with fail
  refine (fown_any W0 R wa.heap.size i h1 s x _ w w4 S4.out HI.out.at_ HB8.out HF.out rfl).mono ?_
  rintro e w5 ⟨rfl, hs5⟩
  by_cases h0 : x.next = 0
  case neg =>
    rw [St.own_next h0] at hs5 ⊢
    obtain ⟨g, hg⟩ : ∃ g, x.next = g := ⟨_, rfl⟩
    obtain ⟨t, ht⟩ : ∃ t : St, { s with ps := s.ps.set i { x with next := 0 } } = t := ⟨_, rfl⟩
    have HPC : Hid (St.PickC s i x vc t g) := Lib.hid (by rw [← ht, ← hg]; exact .next h0)
    simp only [ht, hg] at hs5 ⊢
    have HG0 : Hid (g ≠ 0) := Lib.hid (by rw [← hg]; exact h0)
    obtain ⟨C, hC⟩ : ∃ C, stL h1 t = C := ⟨_, rfl⟩
    have HCC := Lib.hid hC
    have S5 : Hid (SitC w W0 R wa.heap.size w5 C h1 t) := Lib.hid (by rw [← hC]; exact SitC.of hs5)
    clear hg ht hs5 hC h0
    have HL5 : Hid (StGood t ∧ t.gs = s.gs ∧ t.ms = s.ms ∧ ∃ x', t.ps[i]? = some x' ∧ x'.m = x.m) := Lib.hid (by
      have hl := HPC.out.like HI.out.at_
      exact ⟨HPC.out.good HI.out.at_ HG.out, hl.1, hl.2.1, hl.2.2.2.1⟩)
    obtain ⟨k, y, hk, hy⟩ := St.in_runs HI.out.may ((HPC.out.runs HI.out.at_).resolve_left HG0.out)
    have HPC := Lib.hid HPC.out
    subst hk
    have HY := Lib.hid hy
    have HSQ : Hid (0 ≤ y.seq ∧ y.seq < 4611686018427387904) := Lib.hid (by have := St.may_seq HI.out.may hy; omega)
    obtain ⟨x', hx', hm'⟩ := HL5.out.2.2.2
    have HX' := Lib.hid hx'
    have HM' : Hid (x'.m = (j : Int) + 1) := Lib.hid (hm'.trans HI.out.m)
    have b0 : ((k : Int) + 1 == 0) = false := by simp; omega
    have b1 : ((k : Int) + 1 != 0) = true := by simp; omega
    clear hy hx' hm'
    go_upto_region 10 with fail
    clear b0 b1
    go_wp2_with fail
    refine (frun_any W0 R wa.heap.size i j k C h1 t x' y ((i : Int) + 1, 0) w w5 S5.out (by rw [← HCC.out]; exact ⟨rfl, rfl, rfl⟩) HX'.out HM'.out (by first | (rw [HL5.out.2.2.1]; exact HI.out.hm) | exact HI.out.hm) (by first | (rw [HL5.out.2.1]; exact HY.out) | exact HY.out) HSQ.out HL5.out.1.few).mono ?_
    rintro e w6 ⟨rfl, hs6⟩
    have S6 := Lib.hid hs6
    clear hs6
    have HCL : Hid (C.length = 16) := Lib.hid (by rw [← HCC.out]; rfl)
    have HSZ : Hid ((Try.prog.info? 32).map (·.size) = some C.length) := Lib.hid (by rw [HCL.out]; kernel_rfl)
    have HC1 : Hid (∀ u ∈ C, u.oneCell' = true) := Lib.hid (by rw [← HCC.out]; exact stL_one _ _)
    obtain ⟨cv, hcv⟩ : ∃ cv, Value.agg C.toArray = cv := ⟨_, rfl⟩
    have HCV := Lib.hid hcv
    obtain ⟨wf, hwf⟩ : ∃ wf, w6.setCells R 0 C = wf := ⟨_, rfl⟩
    have hfi := S6.out.fin HCL.out
    rw [hwf] at hfi
    have HFI := Lib.hid hfi
    have HWF := Lib.hid hwf
    have HAF : Hid ((t).after ((i : Int) + 1) ((k : Int) + 1) = (t).runG ((i : Int) + 1) ((k : Int) + 1)) := Lib.hid (by unfold St.after; rw [if_neg (by omega)])
    clear hcv hwf hfi
    go_wp2_with (first | (refine wpList_load_rowM (by rfl) 32 _ rfl W0 0 (by go_simp) C cv HCV.out.symm _ (range_row S6.out.box) Try.underlying32 rfl HSZ.out ?_) | (refine wpList_store_rowM rfl 32 _ _ rfl R 0 C cv (by go_simp) (by go_simp) HCV.out.symm HFI.out.2.1 HSZ.out HC1.out HWF.out ?_))
    refine bodyPost_cell_tmp2 rfl R _ _ _ _ rfl HFI.out.1 Try.underlying32 rfl (by rw [List.size_toArray]; exact HSZ.out) (.int .i64 ((k : Int) + 1)) (.int .i64 0) rfl rfl rfl ?_
    rw [HPQ.out]
    refine .inr ⟨i, j, x, t, ((k : Int) + 1), h1, rfl, HI.out, HPC.out, ?_, ?_, HFI.out.2.2.2⟩
    · rw [HAF.out, ← HCC.out, ← stL_run h1 (t) ((i : Int) + 1) ((k : Int) + 1)]
      rfl
    · obtain ⟨I, hI⟩ := HFI.out.2.2.1
      rw [HAF.out]
      exact hI.ok (HL5.out.1.buf)
  have HN0 := Lib.hid h0
  rcases St.own_spec s i HB8.out HRM.out h0 with ⟨g, l, r, hl, hg1, hr, e⟩ | ⟨hl, e⟩
  · rw [e] at hs5 ⊢
    obtain ⟨t, ht⟩ : ∃ t : St, { s with ps := s.ps.set i { x with ring := r } } = t := ⟨_, rfl⟩
    have HPC : Hid (St.PickC s i x vc t g) := Lib.hid (by rw [← ht]; exact .ring h0 hl hr)
    simp only [ht] at hs5 ⊢
    have HG0 : Hid (g ≠ 0) := Lib.hid (by omega)
    obtain ⟨C, hC⟩ : ∃ C, stL h1 t = C := ⟨_, rfl⟩
    have HCC := Lib.hid hC
    have S5 : Hid (SitC w W0 R wa.heap.size w5 C h1 t) := Lib.hid (by rw [← hC]; exact SitC.of hs5)
    clear hl hg1 hr e ht hs5 hC h0
    have HL5 : Hid (StGood t ∧ t.gs = s.gs ∧ t.ms = s.ms ∧ ∃ x', t.ps[i]? = some x' ∧ x'.m = x.m) := Lib.hid (by
      have hl := HPC.out.like HI.out.at_
      exact ⟨HPC.out.good HI.out.at_ HG.out, hl.1, hl.2.1, hl.2.2.2.1⟩)
    obtain ⟨k, y, hk, hy⟩ := St.in_runs HI.out.may ((HPC.out.runs HI.out.at_).resolve_left HG0.out)
    have HPC := Lib.hid HPC.out
    subst hk
    have HY := Lib.hid hy
    have HSQ : Hid (0 ≤ y.seq ∧ y.seq < 4611686018427387904) := Lib.hid (by have := St.may_seq HI.out.may hy; omega)
    obtain ⟨x', hx', hm'⟩ := HL5.out.2.2.2
    have HX' := Lib.hid hx'
    have HM' : Hid (x'.m = (j : Int) + 1) := Lib.hid (hm'.trans HI.out.m)
    have b0 : ((k : Int) + 1 == 0) = false := by simp; omega
    have b1 : ((k : Int) + 1 != 0) = true := by simp; omega
    clear hy hx' hm'
    go_upto_region 10 with fail
    clear b0 b1
    go_wp2_with fail
    refine (frun_any W0 R wa.heap.size i j k C h1 t x' y ((i : Int) + 1, 0) w w5 S5.out (by rw [← HCC.out]; exact ⟨rfl, rfl, rfl⟩) HX'.out HM'.out (by first | (rw [HL5.out.2.2.1]; exact HI.out.hm) | exact HI.out.hm) (by first | (rw [HL5.out.2.1]; exact HY.out) | exact HY.out) HSQ.out HL5.out.1.few).mono ?_
    rintro e w6 ⟨rfl, hs6⟩
    have S6 := Lib.hid hs6
    clear hs6
    have HCL : Hid (C.length = 16) := Lib.hid (by rw [← HCC.out]; rfl)
    have HSZ : Hid ((Try.prog.info? 32).map (·.size) = some C.length) := Lib.hid (by rw [HCL.out]; kernel_rfl)
    have HC1 : Hid (∀ u ∈ C, u.oneCell' = true) := Lib.hid (by rw [← HCC.out]; exact stL_one _ _)
    obtain ⟨cv, hcv⟩ : ∃ cv, Value.agg C.toArray = cv := ⟨_, rfl⟩
    have HCV := Lib.hid hcv
    obtain ⟨wf, hwf⟩ : ∃ wf, w6.setCells R 0 C = wf := ⟨_, rfl⟩
    have hfi := S6.out.fin HCL.out
    rw [hwf] at hfi
    have HFI := Lib.hid hfi
    have HWF := Lib.hid hwf
    have HAF : Hid ((t).after ((i : Int) + 1) ((k : Int) + 1) = (t).runG ((i : Int) + 1) ((k : Int) + 1)) := Lib.hid (by unfold St.after; rw [if_neg (by omega)])
    clear hcv hwf hfi
    go_wp2_with (first | (refine wpList_load_rowM (by rfl) 32 _ rfl W0 0 (by go_simp) C cv HCV.out.symm _ (range_row S6.out.box) Try.underlying32 rfl HSZ.out ?_) | (refine wpList_store_rowM rfl 32 _ _ rfl R 0 C cv (by go_simp) (by go_simp) HCV.out.symm HFI.out.2.1 HSZ.out HC1.out HWF.out ?_))
    refine bodyPost_cell_tmp2 rfl R _ _ _ _ rfl HFI.out.1 Try.underlying32 rfl (by rw [List.size_toArray]; exact HSZ.out) (.int .i64 ((k : Int) + 1)) (.int .i64 0) rfl rfl rfl ?_
    rw [HPQ.out]
    refine .inr ⟨i, j, x, t, ((k : Int) + 1), h1, rfl, HI.out, HPC.out, ?_, ?_, HFI.out.2.2.2⟩
    · rw [HAF.out, ← HCC.out, ← stL_run h1 (t) ((i : Int) + 1) ((k : Int) + 1)]
      rfl
    · obtain ⟨I, hI⟩ := HFI.out.2.2.1
      rw [HAF.out]
      exact hI.ok (HL5.out.1.buf)
  rw [e] at hs5 ⊢
  have SS5 : Hid (Sit w W0 R wa.heap.size w5 h1 s) := Lib.hid hs5
  have HQ0 := Lib.hid (St.queue_nil h0 hl)
  clear e hs5 hl h0
  simp only
  cases hgl : s.glob with
  | cons g l =>
    have HGC := Lib.hid hgl
    go_upto_region 6 with fail
    go_wp2_with fail
    refine (fglobal_cons W0 R wa.heap.size h1 s g l w w5 SS5.out hgl HF.out).mono ?_
    rintro e w7 ⟨rfl, hs7⟩
    obtain ⟨t, ht⟩ : ∃ t : St, { s with glob := l } = t := ⟨_, rfl⟩
    have HPC : Hid (St.PickC s i x vc { s with glob := l } g) := Lib.hid (.glob HQ0.out hgl)
    have HG0 : Hid (g ≠ 0) := Lib.hid (fun e => by
      obtain ⟨k, y, hk, _⟩ := St.in_runs HI.out.may (show g ∈ s.runs from List.mem_append_right _ (by rw [hgl]; simp))
      omega)
    obtain ⟨C, hC⟩ : ∃ C, stL { h1 with la := advK h1.la 1 h1.lc, lc := h1.lc - 1 } { s with glob := l } = C := ⟨_, rfl⟩
    have HCC := Lib.hid hC
    have S5 : Hid (SitC w W0 R wa.heap.size w7 C h1 s) := Lib.hid (by rw [← hC]; exact hs7)
    clear ht hs7 hC hgl
    have HL5 : Hid (StGood s ∧ s.gs = s.gs ∧ s.ms = s.ms ∧ ∃ x', s.ps[i]? = some x' ∧ x'.m = x.m) := Lib.hid (by
      exact ⟨HG.out, rfl, rfl, x, HI.out.at_, rfl⟩)
    obtain ⟨k, y, hk, hy⟩ := St.in_runs HI.out.may ((HPC.out.runs HI.out.at_).resolve_left HG0.out)
    have HPC := Lib.hid HPC.out
    subst hk
    have HY := Lib.hid hy
    have HSQ : Hid (0 ≤ y.seq ∧ y.seq < 4611686018427387904) := Lib.hid (by have := St.may_seq HI.out.may hy; omega)
    obtain ⟨x', hx', hm'⟩ := HL5.out.2.2.2
    have HX' := Lib.hid hx'
    have HM' : Hid (x'.m = (j : Int) + 1) := Lib.hid (hm'.trans HI.out.m)
    have b0 : ((k : Int) + 1 == 0) = false := by simp; omega
    have b1 : ((k : Int) + 1 != 0) = true := by simp; omega
    clear hy hx' hm'
    go_upto_region 10 with fail
    clear b0 b1
    go_wp2_with fail
    refine (frun_any W0 R wa.heap.size i j k C h1 s x' y ((i : Int) + 1, 0) w w7 S5.out (by rw [← HCC.out]; exact ⟨rfl, rfl, rfl⟩) HX'.out HM'.out (by first | (rw [HL5.out.2.2.1]; exact HI.out.hm) | exact HI.out.hm) (by first | (rw [HL5.out.2.1]; exact HY.out) | exact HY.out) HSQ.out HL5.out.1.few).mono ?_
    rintro e w6 ⟨rfl, hs6⟩
    have S6 := Lib.hid hs6
    clear hs6
    have HCL : Hid (C.length = 16) := Lib.hid (by rw [← HCC.out]; rfl)
    have HSZ : Hid ((Try.prog.info? 32).map (·.size) = some C.length) := Lib.hid (by rw [HCL.out]; kernel_rfl)
    have HC1 : Hid (∀ u ∈ C, u.oneCell' = true) := Lib.hid (by rw [← HCC.out]; exact stL_one _ _)
    obtain ⟨cv, hcv⟩ : ∃ cv, Value.agg C.toArray = cv := ⟨_, rfl⟩
    have HCV := Lib.hid hcv
    obtain ⟨wf, hwf⟩ : ∃ wf, w6.setCells R 0 C = wf := ⟨_, rfl⟩
    have hfi := S6.out.fin HCL.out
    rw [hwf] at hfi
    have HFI := Lib.hid hfi
    have HWF := Lib.hid hwf
    have HAF : Hid (({ s with glob := l }).after ((i : Int) + 1) ((k : Int) + 1) = ({ s with glob := l }).runG ((i : Int) + 1) ((k : Int) + 1)) := Lib.hid (by unfold St.after; rw [if_neg (by omega)])
    clear hcv hwf hfi
    go_wp2_with (first | (refine wpList_load_rowM (by rfl) 32 _ rfl W0 0 (by go_simp) C cv HCV.out.symm _ (range_row S6.out.box) Try.underlying32 rfl HSZ.out ?_) | (refine wpList_store_rowM rfl 32 _ _ rfl R 0 C cv (by go_simp) (by go_simp) HCV.out.symm HFI.out.2.1 HSZ.out HC1.out HWF.out ?_))
    refine bodyPost_cell_tmp2 rfl R _ _ _ _ rfl HFI.out.1 Try.underlying32 rfl (by rw [List.size_toArray]; exact HSZ.out) (.int .i64 ((k : Int) + 1)) (.int .i64 0) rfl rfl rfl ?_
    rw [HPQ.out]
    refine .inr ⟨i, j, x, { s with glob := l }, ((k : Int) + 1), { h1 with la := advK h1.la 1 h1.lc, lc := h1.lc - 1 }, rfl, HI.out, HPC.out, ?_, ?_, HFI.out.2.2.2⟩
    · rw [HAF.out, ← HCC.out, ← stL_run { h1 with la := advK h1.la 1 h1.lc, lc := h1.lc - 1 } ({ s with glob := l }) ((i : Int) + 1) ((k : Int) + 1)]
      rfl
    · obtain ⟨I, hI⟩ := HFI.out.2.2.1
      rw [HAF.out]
      exact glob_ok hI HGC.out HG.out.buf
  | nil =>
    go_upto_region 6 with fail
    go_wp2_with fail
    refine (fglobal_nil W0 R wa.heap.size h1 s w w5 SS5.out hgl).mono ?_
    rintro e w7 ⟨rfl, rfl⟩
    have HGN := Lib.hid hgl
    have HBT := Lib.hid HG.out.buf
    clear hgl
    obtain ⟨wz, hwz⟩ : ∃ wz, w7 = wz := ⟨_, rfl⟩
    subst hwz
    by_cases hvp : vc = (i : Int) + 1
    · have hv' : (vc != (i : Int) + 1) = false := by simpa using hvp
      have HPC : Hid (St.PickC s i x vc s 0) := Lib.hid (.none HQ0.out HGN.out (fun h => h.1 hvp))
      obtain ⟨C, hC⟩ : ∃ C, stL h1 s = C := ⟨_, rfl⟩
      have HCC := Lib.hid hC
      have S5 : Hid (SitC w W0 R wa.heap.size w7 C h1 s) := Lib.hid (by rw [← hC]; exact SitC.of SS5.out)
      clear hC hvp
      go_upto_region 11 with fail
      clear hv'
      have HCL : Hid (C.length = 16) := Lib.hid (by rw [← HCC.out]; rfl)
      have HSZ : Hid ((Try.prog.info? 32).map (·.size) = some C.length) := Lib.hid (by rw [HCL.out]; kernel_rfl)
      have HC1 : Hid (∀ u ∈ C, u.oneCell' = true) := Lib.hid (by rw [← HCC.out]; exact stL_one _ _)
      obtain ⟨cv, hcv⟩ : ∃ cv, Value.agg C.toArray = cv := ⟨_, rfl⟩
      have HCV := Lib.hid hcv
      obtain ⟨wf, hwf⟩ : ∃ wf, w7.setCells R 0 C = wf := ⟨_, rfl⟩
      have hfi := S5.out.fin HCL.out
      rw [hwf] at hfi
      have HFI := Lib.hid hfi
      have HWF := Lib.hid hwf
      have HAF : Hid ((s).after ((i : Int) + 1) 0 = s) := Lib.hid (by unfold St.after; rw [if_pos rfl])
      clear hcv hwf hfi
      go_wp2_with (first | (refine wpList_load_rowM (by rfl) 32 _ rfl W0 0 (by go_simp) C cv HCV.out.symm _ (range_row S5.out.box) Try.underlying32 rfl HSZ.out ?_) | (refine wpList_store_rowM rfl 32 _ _ rfl R 0 C cv (by go_simp) (by go_simp) HCV.out.symm HFI.out.2.1 HSZ.out HC1.out HWF.out ?_))
      refine bodyPost_cell_tmp2 rfl R _ _ _ _ rfl HFI.out.1 Try.underlying32 rfl (by rw [List.size_toArray]; exact HSZ.out) (.int .i64 0) (.int .i64 0) rfl rfl rfl ?_
      rw [HPQ.out]
      refine .inr ⟨i, j, x, s, 0, h1, rfl, HI.out, HPC.out, ?_, ?_, HFI.out.2.2.2⟩
      · rw [HAF.out, ← HCC.out]
        rfl
      · obtain ⟨I, hI⟩ := HFI.out.2.2.1
        rw [HAF.out]
        exact hI.ok (HBT.out)
    · have hv' : (vc != (i : Int) + 1) = true := by simpa using hvp
      have HVP := Lib.hid hvp
      clear hvp
      go_wp2_with (refine wpList_load_rowW (by rfl) 32 _ rfl W0 (by go_simp) (stL h1 s) (stV h1 s) rfl _ (range_row SS5.out.box) Try.underlying32 rfl (by kernel_rfl) ?_)
      refine (finuse_any h1 s vc _ rfl w7 (by obtain ⟨I, hI⟩ := SS5.out.ap; exact hI.ok HBT.out)).mono ?_
      rintro e w8 ⟨rfl, hx8⟩
      have S8 := Lib.hid (SS5.out.more hx8)
      clear hx8
      cases bu : decide (1 ≤ vc ∧ vc ≤ s.procs) with
      | false =>
        have HPC : Hid (St.PickC s i x vc s 0) := Lib.hid (.none HQ0.out HGN.out (fun h => of_decide_eq_false bu h.2))
        obtain ⟨C, hC⟩ : ∃ C, stL h1 s = C := ⟨_, rfl⟩
        have HCC := Lib.hid hC
        have S5 : Hid (SitC w W0 R wa.heap.size w8 C h1 s) := Lib.hid (by rw [← hC]; exact SitC.of S8.out)
        clear hC bu
        go_upto_region 11 with fail
        clear hv'
        have HCL : Hid (C.length = 16) := Lib.hid (by rw [← HCC.out]; rfl)
        have HSZ : Hid ((Try.prog.info? 32).map (·.size) = some C.length) := Lib.hid (by rw [HCL.out]; kernel_rfl)
        have HC1 : Hid (∀ u ∈ C, u.oneCell' = true) := Lib.hid (by rw [← HCC.out]; exact stL_one _ _)
        obtain ⟨cv, hcv⟩ : ∃ cv, Value.agg C.toArray = cv := ⟨_, rfl⟩
        have HCV := Lib.hid hcv
        obtain ⟨wf, hwf⟩ : ∃ wf, w8.setCells R 0 C = wf := ⟨_, rfl⟩
        have hfi := S5.out.fin HCL.out
        rw [hwf] at hfi
        have HFI := Lib.hid hfi
        have HWF := Lib.hid hwf
        have HAF : Hid ((s).after ((i : Int) + 1) 0 = s) := Lib.hid (by unfold St.after; rw [if_pos rfl])
        clear hcv hwf hfi
        go_wp2_with (first | (refine wpList_load_rowM (by rfl) 32 _ rfl W0 0 (by go_simp) C cv HCV.out.symm _ (range_row S5.out.box) Try.underlying32 rfl HSZ.out ?_) | (refine wpList_store_rowM rfl 32 _ _ rfl R 0 C cv (by go_simp) (by go_simp) HCV.out.symm HFI.out.2.1 HSZ.out HC1.out HWF.out ?_))
        refine bodyPost_cell_tmp2 rfl R _ _ _ _ rfl HFI.out.1 Try.underlying32 rfl (by rw [List.size_toArray]; exact HSZ.out) (.int .i64 0) (.int .i64 0) rfl rfl rfl ?_
        rw [HPQ.out]
        refine .inr ⟨i, j, x, s, 0, h1, rfl, HI.out, HPC.out, ?_, ?_, HFI.out.2.2.2⟩
        · rw [HAF.out, ← HCC.out]
          rfl
        · obtain ⟨I, hI⟩ := HFI.out.2.2.1
          rw [HAF.out]
          exact hI.ok (HBT.out)
      | true =>
        have hvu := of_decide_eq_true bu
        clear bu
        have hps := St.may_procs HI.out.may
        obtain ⟨vi, rfl⟩ : ∃ vi : Nat, vc = (vi : Int) + 1 := ⟨(vc - 1).toNat, by omega⟩
        obtain ⟨v, hv⟩ : ∃ v, s.ps[vi]? = some v := ⟨_, List.getElem?_eq_getElem (by omega)⟩
        have HV := Lib.hid hv
        have HVU := Lib.hid hvu.2
        have HVI : Hid (vi ≠ i) := Lib.hid (fun e => HVP.out (by rw [e]))
        have HVM := Lib.hid (St.may_ring HI.out.may hv)
        clear hps hv hvu
        go_upto_region 8 with fail
        clear hv'
        go_wp2_with fail
        obtain ⟨⟨t, g⟩, hz⟩ : ∃ z, s.steal ((i : Int) + 1) vi v = z := ⟨_, rfl⟩
        have HPC : Hid (St.PickC s i x ((vi : Int) + 1) t g) := Lib.hid (by have := St.steal_pick HI.out HBT.out HQ0.out HGN.out HVI.out HVU.out HV.out; rw [hz] at this; exact this)
        refine (fsteal_any W0 R wa.heap.size vi ((i : Int) + 1) h1 s v (t, g) w w8 S8.out HV.out HG.out HGL.out HVM.out hz).mono ?_
        rintro e w9 ⟨rfl, h2, hs9⟩
        simp only at hs9 ⊢
        obtain ⟨C, hC⟩ : ∃ C, stL h2 t = C := ⟨_, rfl⟩
        have HCC := Lib.hid hC
        have S5 : Hid (SitC w W0 R wa.heap.size w9 C h2 t) := Lib.hid (by rw [← hC]; exact SitC.of hs9)
        have HBT2 := Lib.hid (HPC.out.buf HI.out.at_ HG.out.buf)
        clear hz hs9 hC
        by_cases hg0 : g = 0
        · subst hg0
          have HBT := Lib.hid HBT2.out
          go_upto_region 11 with fail
          have HCL : Hid (C.length = 16) := Lib.hid (by rw [← HCC.out]; rfl)
          have HSZ : Hid ((Try.prog.info? 32).map (·.size) = some C.length) := Lib.hid (by rw [HCL.out]; kernel_rfl)
          have HC1 : Hid (∀ u ∈ C, u.oneCell' = true) := Lib.hid (by rw [← HCC.out]; exact stL_one _ _)
          obtain ⟨cv, hcv⟩ : ∃ cv, Value.agg C.toArray = cv := ⟨_, rfl⟩
          have HCV := Lib.hid hcv
          obtain ⟨wf, hwf⟩ : ∃ wf, w9.setCells R 0 C = wf := ⟨_, rfl⟩
          have hfi := S5.out.fin HCL.out
          rw [hwf] at hfi
          have HFI := Lib.hid hfi
          have HWF := Lib.hid hwf
          have HAF : Hid ((t).after ((i : Int) + 1) 0 = t) := Lib.hid (by unfold St.after; rw [if_pos rfl])
          clear hcv hwf hfi
          go_wp2_with (first | (refine wpList_load_rowM (by rfl) 32 _ rfl W0 0 (by go_simp) C cv HCV.out.symm _ (range_row S5.out.box) Try.underlying32 rfl HSZ.out ?_) | (refine wpList_store_rowM rfl 32 _ _ rfl R 0 C cv (by go_simp) (by go_simp) HCV.out.symm HFI.out.2.1 HSZ.out HC1.out HWF.out ?_))
          refine bodyPost_cell_tmp2 rfl R _ _ _ _ rfl HFI.out.1 Try.underlying32 rfl (by rw [List.size_toArray]; exact HSZ.out) (.int .i64 0) (.int .i64 0) rfl rfl rfl ?_
          rw [HPQ.out]
          refine .inr ⟨i, j, x, t, 0, h2, rfl, HI.out, HPC.out, ?_, ?_, HFI.out.2.2.2⟩
          · rw [HAF.out, ← HCC.out]
            rfl
          · obtain ⟨I, hI⟩ := HFI.out.2.2.1
            rw [HAF.out]
            exact hI.ok (HBT.out)
        · have HG0 := Lib.hid hg0
          clear hg0
          have HL5 : Hid (StGood t ∧ t.gs = s.gs ∧ t.ms = s.ms ∧ ∃ x', t.ps[i]? = some x' ∧ x'.m = x.m) := Lib.hid (by
            have hl := HPC.out.like HI.out.at_
            exact ⟨HPC.out.good HI.out.at_ HG.out, hl.1, hl.2.1, hl.2.2.2.1⟩)
          obtain ⟨k, y, hk, hy⟩ := St.in_runs HI.out.may ((HPC.out.runs HI.out.at_).resolve_left HG0.out)
          have HPC := Lib.hid HPC.out
          subst hk
          have HY := Lib.hid hy
          have HSQ : Hid (0 ≤ y.seq ∧ y.seq < 4611686018427387904) := Lib.hid (by have := St.may_seq HI.out.may hy; omega)
          obtain ⟨x', hx', hm'⟩ := HL5.out.2.2.2
          have HX' := Lib.hid hx'
          have HM' : Hid (x'.m = (j : Int) + 1) := Lib.hid (hm'.trans HI.out.m)
          have b0 : ((k : Int) + 1 == 0) = false := by simp; omega
          have b1 : ((k : Int) + 1 != 0) = true := by simp; omega
          clear hy hx' hm'
          go_upto_region 10 with fail
          clear b0 b1
          go_wp2_with fail
          refine (frun_any W0 R wa.heap.size i j k C h2 t x' y ((i : Int) + 1, 0) w w9 S5.out (by rw [← HCC.out]; exact ⟨rfl, rfl, rfl⟩) HX'.out HM'.out (by first | (rw [HL5.out.2.2.1]; exact HI.out.hm) | exact HI.out.hm) (by first | (rw [HL5.out.2.1]; exact HY.out) | exact HY.out) HSQ.out HL5.out.1.few).mono ?_
          rintro e w6 ⟨rfl, hs6⟩
          have S6 := Lib.hid hs6
          clear hs6
          have HCL : Hid (C.length = 16) := Lib.hid (by rw [← HCC.out]; rfl)
          have HSZ : Hid ((Try.prog.info? 32).map (·.size) = some C.length) := Lib.hid (by rw [HCL.out]; kernel_rfl)
          have HC1 : Hid (∀ u ∈ C, u.oneCell' = true) := Lib.hid (by rw [← HCC.out]; exact stL_one _ _)
          obtain ⟨cv, hcv⟩ : ∃ cv, Value.agg C.toArray = cv := ⟨_, rfl⟩
          have HCV := Lib.hid hcv
          obtain ⟨wf, hwf⟩ : ∃ wf, w6.setCells R 0 C = wf := ⟨_, rfl⟩
          have hfi := S6.out.fin HCL.out
          rw [hwf] at hfi
          have HFI := Lib.hid hfi
          have HWF := Lib.hid hwf
          have HAF : Hid ((t).after ((i : Int) + 1) ((k : Int) + 1) = (t).runG ((i : Int) + 1) ((k : Int) + 1)) := Lib.hid (by unfold St.after; rw [if_neg (by omega)])
          clear hcv hwf hfi
          go_wp2_with (first | (refine wpList_load_rowM (by rfl) 32 _ rfl W0 0 (by go_simp) C cv HCV.out.symm _ (range_row S6.out.box) Try.underlying32 rfl HSZ.out ?_) | (refine wpList_store_rowM rfl 32 _ _ rfl R 0 C cv (by go_simp) (by go_simp) HCV.out.symm HFI.out.2.1 HSZ.out HC1.out HWF.out ?_))
          refine bodyPost_cell_tmp2 rfl R _ _ _ _ rfl HFI.out.1 Try.underlying32 rfl (by rw [List.size_toArray]; exact HSZ.out) (.int .i64 ((k : Int) + 1)) (.int .i64 0) rfl rfl rfl ?_
          rw [HPQ.out]
          refine .inr ⟨i, j, x, t, ((k : Int) + 1), h2, rfl, HI.out, HPC.out, ?_, ?_, HFI.out.2.2.2⟩
          · rw [HAF.out, ← HCC.out, ← stL_run h2 (t) ((i : Int) + 1) ((k : Int) + 1)]
            rfl
          · obtain ⟨I, hI⟩ := HFI.out.2.2.1
            rw [HAF.out]
            exact hI.ok (HL5.out.1.buf)
open Go.RowKit Go.Shelf
attribute [local go_sem] Oper.semAt_some
set_option maxRecDepth 100000 in
set_option maxHeartbeats 2000000 in
theorem rlist_in_own (b0 b1 b2 b3 b4 b5 b6 b7 : Int) (hd nn : Nat) (hhd : hd < 8) (hnn : nn ≤ 8) (hm : Ri.may ⟨[b0, b1, b2, b3, b4, b5, b6, b7], hd, nn⟩ = true) (w : World) :
    Calls Try.prog 118 #[.agg #[.int .i64 b0, .int .i64 b1, .int .i64 b2, .int .i64 b3, .int .i64 b4, .int .i64 b5, .int .i64 b6, .int .i64 b7, .int .i64 (hd : Int), .int .i64 (nn : Int)]] w fun e w' => ∃ v, e = .returned v ∧ OwnInts w' w.heap.size v (seconds (upto (Ri.pair hd [b0, b1, b2, b3, b4, b5, b6, b7]) nn)) ∧ Ext w w' := by
  have HM := Lib.hid hm
  clear hm
  obtain ⟨i0, hi, hz0, hz1, hz2⟩ := info_parts Try.infoRint
  refine (callsIn_wide (n := 3)).1 ?_
  have h1 : 1 ≤ 3 := by omega
  refine callsIn_of_wp_marks Try.func118 rfl trivial ?_ rfl
  simp only [Try.ntmps118, List.size_toArray, List.length_cons, List.length_nil, Nat.reduceAdd, Nat.reduceSub, Array.replicate_succ, Array.replicate_zero, List.push_toArray, List.append_toArray, List.nil_append, List.cons_append]
  gi_wp2_with fail
  refine ⟨trivial, callsIn_wide.2 ((rmay_eq b0 b1 b2 b3 b4 b5 b6 b7 hd nn _ HM.out _).mono ?_)⟩
  rintro r w1 ⟨rfl, hx1⟩
  obtain ⟨⟨q0, q1, q2, q3, q4⟩, q5, q6, q7, q8, q9⟩ := cells10 (blk_alloc (hx1.blk (blk_new w (.cells #[.int .i64 b0, .int .i64 b1, .int .i64 b2, .int .i64 b3, .int .i64 b4, .int .i64 b5, .int .i64 b6, .int .i64 b7, .int .i64 (hd : Int), .int .i64 (nn : Int)] 38))) (.cells #[.slice none 0 0] 27))
  have HX1 : Hid (Ext w w1) := Lib.hid (((Ext.refl w).alloc _).trans hx1)
  clear hx1
  gi_wp2_with fail
  refine ⟨trivial, (elements_in Fence.wide (3 - 1) trivial rfl _ _ _ _ _ _ _ _ _ _ _).mono ?_⟩
  rintro e w' ⟨rfl, rfl⟩
  clear q0 q1 q2 q3 q4 q5 q6 q7 q8 q9
  gi_wp2_with fail
  have bO := (Boxed.new w1 27 (.slice none 0 0)).alloc (.cells #[.int .i64 b0, .int .i64 b1, .int .i64 b2, .int .i64 b3, .int .i64 b4, .int .i64 b5, .int .i64 b6, .int .i64 b7, .int .i64 (hd : Int), .int .i64 (nn : Int)] 38)
  have hA3 : RingIn (w1.heap.size + 1) ⟨[b0, b1, b2, b3, b4, b5, b6, b7], hd, nn⟩ ((w1.alloc (.cells #[.slice none 0 0] 27)).alloc (.cells #[.int .i64 b0, .int .i64 b1, .int .i64 b2, .int .i64 b3, .int .i64 b4, .int .i64 b5, .int .i64 b6, .int .i64 b7, .int .i64 (hd : Int), .int .i64 (nn : Int)] 38)) := by
    have := blk_new (w1.alloc (.cells #[.slice none 0 0] 27)) (.cells #[.int .i64 b0, .int .i64 b1, .int .i64 b2, .int .i64 b3, .int .i64 b4, .int .i64 b5, .int .i64 b6, .int .i64 b7, .int .i64 (hd : Int), .int .i64 (nn : Int)] 38)
    rwa [World.size_alloc] at this
  have hX0 : Ext w ((w1.alloc (.cells #[.slice none 0 0] 27)).alloc (.cells #[.int .i64 b0, .int .i64 b1, .int .i64 b2, .int .i64 b3, .int .i64 b4, .int .i64 b5, .int .i64 b6, .int .i64 b7, .int .i64 (hd : Int), .int .i64 (nn : Int)] 38)) := (HX1.out.alloc _).alloc _
  have hS3 : ((w1.alloc (.cells #[.slice none 0 0] 27)).alloc (.cells #[.int .i64 b0, .int .i64 b1, .int .i64 b2, .int .i64 b3, .int .i64 b4, .int .i64 b5, .int .i64 b6, .int .i64 b7, .int .i64 (hd : Int), .int .i64 (nn : Int)] 38)).heap.size = w1.heap.size + 2 := by simp [World.size_alloc]
  have hsz := HX1.out.size
  generalize hW3 : (w1.alloc (.cells #[.slice none 0 0] 27)).alloc (.cells #[.int .i64 b0, .int .i64 b1, .int .i64 b2, .int .i64 b3, .int .i64 b4, .int .i64 b5, .int .i64 b6, .int .i64 b7, .int .i64 (hd : Int), .int .i64 (nn : Int)] 38) = W3 at *
  clear hW3
  apply wpIn_rangeFunc_ownG rfl h1 (gf := 126) (lb := #[.pointer (some ⟨w1.heap.size + 1, 0, none⟩)]) rfl trivial (enters_of Try.func126 (by kernel_rfl) rfl)
    (elements_stops Fence.wide (3 - 1) trivial rfl (by omega) (w1.heap.size + 1) hd nn [b0, b1, b2, b3, b4, b5, b6, b7] rfl hhd hnn W3 (by omega) hA3) (keepsAt_t (w1.heap.size + 1)) (keepsAt_b (by omega)) (Below.refl _ _) (fun _ => rfl)
    (fun pre W => ((∃ v, Boxed W w1.heap.size 27 v ∧ W.ownsRow w.heap.size 3 1 v (seconds pre).length (intsV (seconds pre)) ∧ True) ∧ RingIn (w1.heap.size + 1) ⟨[b0, b1, b2, b3, b4, b5, b6, b7], hd, nn⟩ W) ∧ Ext w W)
    (fun _ _ _ => False)
    (OwnFrom.and (OwnFrom.and (Own.from (holdsRow_own w.heap.size w1.heap.size 27 3 1 (fun pre => (seconds pre).length) (fun pre => intsV (seconds pre)) (fun _ _ => True)) _) (Own.from (fun s A B row hs hg hr => blk_own (w1.heap.size + 1) (fun (_ : Unit) => .cells (⟨[b0, b1, b2, b3, b4, b5, b6, b7], hd, nn⟩ : Ri).cells 38 (0, 0)) (fun _ => rfl) () A B row hs hg hr) _)) (ownFrom_below (Nat.le_refl _) (by omega)))
    (fun _ _ _ _ _ hs _ _ => hs)
    ⟨⟨⟨_, bO, World.ownsRow_nil _ _ _ _, trivial⟩, hA3⟩, hX0⟩ _ ?assign ?body ?done ?stop
  case assign =>
    intro l x W K hK
    gi_wp2
    exact hK
  case body =>
    rintro l pre ⟨⟨x1, x2⟩, hx0, hx8⟩ W ⟨⟨⟨v, hv, hrow, _⟩, hA⟩, hB⟩ hlt
    have hc := hv.cell
    have hpl := seconds_len pre
    have hne := ring_not_row hA hrow
    gi_wp2_with (gi_at_builtin; refine wpListIn_append_own _ rfl _ _ 27 rfl w.heap.size 3 i0 (.int .i64 0) 1 8 Try.underlying27 hi hz0 hz1 hz2 rfl (by decide) _ _ _ rfl (hrow.alloc _) ⟨W.heap.size, 0, none⟩ 1 1 [.int .i64 x2] rfl rfl (cell_one_new _ _ _) (by simp [Value.oneCell']) (by unfold maxLen; omega) (by omega) (by have := hB.size; simp; omega) ?_; intro v' w2 hown' hgrow _; obtain ⟨g', cap', rfl⟩ := ownsRow_succ hown'; obtain ⟨hv1, hv2, hr2, hk2, hb2⟩ := hv.appended (by decide) hrow hB.size hsz hown' hgrow; have hc1 := hv1.cell; have hf1 := hv1.frozen)
    have hA2 : RingIn (w1.heap.size + 1) ⟨[b0, b1, b2, b3, b4, b5, b6, b7], hd, nn⟩ w2 := (hgrow.block (w1.heap.size + 1) (by have := blk_lt hA; simp; omega) hne).trans (blk_alloc hA _)
    have hA3' := blk_set_other hA2 ⟨w1.heap.size, 0, none⟩ (by simp only; omega) (.slice (some ⟨g', 0, none⟩) ((seconds pre).length + 1) cap')
    (try simp only [hpl] at hA3')
    (try simp only [hpl] at hv2)
    (try simp only [hpl] at hr2)
    (try simp only [hpl] at hk2)
    (try simp only [hpl] at hb2)
    refine ⟨hk2.from _, fun o ho => ?_, ⟨⟨_, hv2, ?_⟩, hA3'⟩, Below.trans (show Below w.heap.size w W from hB) hb2⟩
    · rw [show W.heap[w1.heap.size + 1]? = _ from hA] at ho
      cases ho
      exact hA3'
    · rw [seconds_snoc]
      simpa [intsV, hpl] using hr2
  case done =>
    rintro D ys W hD rfl ⟨⟨⟨v, hv, hrow, _⟩, hA⟩, hB⟩ hK
    have hc := hv.cell
    gi_wp2
    refine ⟨by simp, .inl ⟨_, _, rfl, run_takeDeferred hK, ?_⟩⟩
    exact ⟨_, results_tmp rfl _ _ _, v, rfl, ownsRow_putObj hrow (.deferred none) hK rfl, Below.trans (show Below w.heap.size w W from hB) (belowK_b (w := w) (Nat.le_refl _) W D _ _ (by omega) hK rfl rfl)⟩
  case stop =>
    rintro D c pre W _ _ h _
    exact h.elim
theorem rlist_own (b0 b1 b2 b3 b4 b5 b6 b7 hd nn : Int) (l : List Int) (h : Ri.list ⟨[b0, b1, b2, b3, b4, b5, b6, b7], hd, nn⟩ = l) (w : World) :
    Calls Try.prog 118 #[.agg #[.int .i64 b0, .int .i64 b1, .int .i64 b2, .int .i64 b3, .int .i64 b4, .int .i64 b5, .int .i64 b6, .int .i64 b7, .int .i64 hd, .int .i64 nn]] w fun e w' => ∃ v, e = .returned v ∧ OwnInts w' w.heap.size v l ∧ Ext w w' := by
  subst h
  cases hm : Ri.may ⟨[b0, b1, b2, b3, b4, b5, b6, b7], hd, nn⟩ with
  | false =>
    refine (rlist_no b0 b1 b2 b3 b4 b5 b6 b7 hd nn hm w).mono ?_
    rintro e w' ⟨rfl, hx⟩
    refine ⟨_, rfl, ?_, hx⟩
    unfold Ri.list
    rw [hm]
    exact OwnInts.nil _ _
  | true =>
    have hi : Ri.inside ⟨[b0, b1, b2, b3, b4, b5, b6, b7], hd, nn⟩ = true := by have := hm; unfold Ri.may at this; rw [Bool.and_eq_true] at this; exact this.1
    obtain ⟨a, n, rfl, rfl, h1, h2⟩ := Ri.inside_nat hi
    rw [Ri.list_upto hm]
    exact rlist_in_own b0 b1 b2 b3 b4 b5 b6 b7 a n h1 h2 hm w
theorem fclo_any (x g : Int) (G : Nat) (r : Bool) (hr : (x == g) = r) (w : World) (hG : w.cell? ⟨G, 0, none⟩ = some (.int .i64 g)) : Calls Try.prog 91 #[.int .i64 x, .pointer (some ⟨G, 0, none⟩)] w fun e w' => e = .returned (.bool r) ∧ Ext w w' := by
  go_enter Try.func91, Try.ntmps91
  go_wp2
  go_ret
  exact ⟨by rw [← hr] <;> rfl, Ext.refl _⟩
set_option maxRecDepth 100000 in
set_option maxHeartbeats 2000000 in
theorem fidx_any (A : Option Addr) (c : Nat) (l : List Int) (g : Int) (G : Nat) (w : World) (h : IntsAt w (.slice A l.length c) l) (hl : l.length ≤ 100000000) (hG : w.cell? ⟨G, 0, none⟩ = some (.int .i64 g)) (hGl : G < w.heap.size) :
    Calls Try.prog 110 #[.slice A l.length c, .func (.func 91) #[] #[.pointer (some ⟨G, 0, none⟩)]] w fun e w' => ∃ i : Int, e = .returned (.int .i64 i) ∧ ((i = -1 ∧ ∀ (j : Nat) x, l[j]? = some x → x ≠ g) ∨ ∃ k : Nat, i = (k : Int) ∧ (∃ x, l[k]? = some x ∧ x = g) ∧ ∀ (j : Nat) x, l[j]? = some x → j < k → x ≠ g) ∧ Ext w w' := by
  have H := Lib.hid h
  have HG := Lib.hid hG
  have HGL := Lib.hid hGl
  have hl' : (l.length : Int) ≤ 100000000 := by omega
  clear h hG hGl
  go_enter Try.func110, Try.ntmps110
  go_wp2_with fail
  go_loopw [8] (fun iv wr => ∃ k : Nat, k ≤ l.length ∧ iv = .int .i64 k ∧ (∀ (j : Nat) x, l[j]? = some x → j < k → x ≠ g) ∧ Ext w wr) (fun iv _ => l.length - (intOf iv).toNat)
  case atStart => exact ⟨0, Nat.zero_le _, rfl, fun j x _ h => by omega, Ext.refl _⟩
  case round =>
    obtain ⟨k, hk, rfl, hall, hx⟩ := hrel
    have HA := Lib.hid hall
    have HX := Lib.hid hx
    clear hall hx
    by_cases hlt : k < l.length
    · obtain ⟨x, hx⟩ : ∃ x, l[k]? = some x := ⟨_, List.getElem?_eq_getElem hlt⟩
      have HXK := Lib.hid hx
      have hcl := fclo_any x g G _ rfl wr (by rw [Below.cell (p := ⟨G, 0, none⟩) HX.out HGL.out]; exact HG.out)
      have HCL := Lib.hid hcl
      obtain ⟨b, o, rfl, hb, hc⟩ := ints_get (H.out.ext HX.out) hx
      clear hx hb hcl
      go_wp2_with fail
      refine HCL.out.mono ?_
      rintro e wa ⟨rfl, hxa⟩
      have HXA := Lib.hid (HX.out.trans hxa)
      clear hxa hc
      by_cases h1 : x = g
      · have HN := Lib.hid h1
        have h1' : (x == g) = true := by simpa using h1
        clear h1
        go_wp2
        go_ret
        exact ⟨k, rfl, .inr ⟨k, rfl, ⟨x, HXK.out, HN.out⟩, HA.out⟩, HXA.out⟩
      · have h1' : (x == g) = false := by simpa using h1
        have HN := Lib.hid h1
        clear h1
        go_wp2
        go_roundw
        case rel =>
          refine ⟨k + 1, by omega, by go_num, fun j y hy hj => ?_, HXA.out⟩
          by_cases hjk : j < k
          · exact HA.out j y hy hjk
          · obtain rfl : j = k := by omega
            have := HXK.out
            rw [hy] at this
            injection this with this
            rw [this]
            exact HN.out
        case measure => simp [intOf]; omega
    · obtain rfl : k = l.length := by omega
      go_wp2
      go_ret
      exact ⟨-1, rfl, .inl ⟨rfl, fun j x hj => HA.out j x hj (List.getElem?_eq_some_iff.1 hj).1⟩, HX.out⟩
set_option maxRecDepth 100000 in
set_option maxHeartbeats 4000000 in
theorem fdel_any (A : Option Addr) (c : Nat) (l : List Int) (g : Int) (G B : Nat) (w : World) (ho : OwnRows 3 1 numL w B (.slice A l.length c) l) (hl : l.length ≤ 1000000) (hG : w.cell? ⟨G, 0, none⟩ = some (.int .i64 g)) (hGB : G < B) (hB : B ≤ w.heap.size) :
    Calls Try.prog 51 #[.slice A l.length c, .func (.func 91) #[] #[.pointer (some ⟨G, 0, none⟩)]] w fun e w' => e = .returned (.slice A (l.filter (fun x => x != g)).length c) ∧ OwnRows 3 1 numL w' B (.slice A (l.filter (fun x => x != g)).length c) (l.filter (fun x => x != g)) ∧ But (fun b => (Value.slice A l.length c).ownBlock = some b) w w' := by
  have HO := Lib.hid ho
  have HG := Lib.hid hG
  have HGB := Lib.hid hGB
  have HBB := Lib.hid hB
  have HIX := Lib.hid (fidx_any A c l g G w (ints_rows.2 ho).at.2 (by omega) hG (by omega))
  clear ho hG hGB hB
  go_enter Try.func51, Try.ntmps51
  go_wp2_with fail
  refine HIX.out.mono ?_
  rintro e w1 ⟨i0, rfl, hcase, hx1⟩
  clear HIX
  have HX1 := Lib.hid hx1
  clear hx1
  rcases hcase with ⟨rfl, hno⟩ | ⟨k, rfl, ⟨x, hxk, hxg⟩, hbef⟩
  · have HF : Hid (l.filter (fun x => x != g) = l) := Lib.hid (filter_none fun j x hj => by simpa using hno j x hj)
    clear hno
    go_wp2
    go_ret
    rw [HF.out]
    exact ⟨rfl, HO.out.ext HX1.out, But.ext HX1.out⟩
  · have hkl := (List.getElem?_eq_some_iff.1 hxk).1
    obtain ⟨b, rfl, hbB, hbw, _, hlc⟩ := own_block HO.out (by omega)
    have HBL : Hid (B ≤ b ∧ b < w.heap.size ∧ l.length ≤ c) := Lib.hid ⟨hbB, hbw, hlc⟩
    have HST : Hid (l.take k = (l.take (k + 1)).filter (fun x => x != g)) := Lib.hid (filter_first hxk (by simp [hxg]) fun j y hj hjk => by simpa using hbef j y hj hjk)
    have hb1 : (k : Int) < 1000000 := by omega
    have hneg : ((k : Int) == -1) = false := by rw [beq_eq_false_iff_ne]; omega
    clear hxk hxg hbef hbB hbw hlc
    go_wp2_with fail
    clear hneg
    go_loopw [5, 6] (fun iv jv wr => ∃ (i j : Nat) (ys : List Int), iv = .int .i64 i ∧ jv = .int .i64 j ∧ i < j ∧ j ≤ l.length ∧ OwnRows 3 1 numL wr B (.slice (some ⟨b, 0, none⟩) l.length c) ys ∧ ys.take i = (l.take j).filter (fun x => x != g) ∧ ys.drop j = l.drop j ∧ ys.length = l.length ∧ But (fun x => x = b) w wr) (fun _ jv _ => l.length - (intOf jv).toNat)
    case atStart => exact ⟨k, k + 1, l, rfl, by go_num, by omega, by omega, HO.out.ext HX1.out, HST.out, rfl, rfl, But.ext HX1.out⟩
    case round =>
      obtain ⟨i, j, ys, rfl, rfl, hij, hj, hown, htk, hdr, hyl, hbt⟩ := hrel
      have HOW := Lib.hid hown
      have HTK := Lib.hid htk
      have HDR := Lib.hid hdr
      have HYL := Lib.hid hyl
      have HBT := Lib.hid hbt
      clear hown htk hdr hyl hbt
      by_cases hlt : j < l.length
      · obtain ⟨x, hx⟩ : ∃ x, l[j]? = some x := ⟨_, List.getElem?_eq_getElem hlt⟩
        have hyx : ys[j]? = some x := by
          have h1 : (ys.drop j)[0]? = (l.drop j)[0]? := by rw [HDR.out]
          rw [List.getElem?_drop, List.getElem?_drop, Nat.add_zero] at h1
          rw [h1]; exact hx
        have hyl := HYL.out
        obtain ⟨b', o', hbo, _, hgt⟩ := (OwnRows.rows numL_len HOW.out).get hyx
        simp only [Option.some.injEq, Addr.mk.injEq, and_true] at hbo
        obtain ⟨rfl, rfl⟩ := hbo
        have hGw : wr.cell? ⟨G, 0, none⟩ = some (.int .i64 g) := by rw [HBT.out.cell (by have := HGB.out; have := HBB.out; omega) (by have := HGB.out; have := HBL.out; omega)]; exact HG.out
        have hc : wr.cell? ⟨b, j, none⟩ = some (.int .i64 x) := by have := hgt 0 _ rfl; rwa [Nat.mul_one, Nat.zero_add, Nat.add_zero] at this
        have HCL := Lib.hid (fclo_any x g G _ rfl wr hGw)
        have HX := Lib.hid hx
        have HYX := Lib.hid hyx
        clear hx hyx hgt hGw hyl
        go_wp2_with fail
        refine HCL.out.mono ?_
        rintro e wa ⟨rfl, hxa⟩
        have HXA := Lib.hid hxa
        clear hxa hc HCL
        by_cases h1 : x = g
        · have h1' : (x == g) = true := by simpa using h1
          have HS := Lib.hid (del_skip (p := (fun x => x != g)) HTK.out HDR.out HX.out (by simp [h1]))
          clear h1
          go_wp2
          go_roundw
          case rel => exact ⟨i, j + 1, ys, rfl, by go_num, by omega, by omega, HOW.out.ext HXA.out, HS.out.1, HS.out.2, HYL.out, HBT.out.trans (But.ext HXA.out)⟩
          case measure => simp [intOf]; omega
        · have h1' : (x == g) = false := by simpa using h1
          have hS := del_keep (p := (fun x => x != g)) HTK.out HDR.out hij HYL.out HX.out (by simpa using h1)
          have hyl := HYL.out
          obtain ⟨g', c', e1, _, _, _, hth, hown', hu⟩ := OwnRows.setCells (m := 1) numL_len (HOW.out.ext HXA.out) (i := i) (x' := x) (List.getElem?_eq_getElem (by omega)) (j := 0) (ds := [.int .i64 x]) (Nat.le_refl 1) (fun t ht => by match t, ht with | 0, _ => rfl)
          simp only [Value.slice.injEq, Option.some.injEq, Addr.mk.injEq, and_true] at e1
          have e2 := e1.1
          clear e1
          subst e2
          have r0 := (hth 0 (Nat.lt_succ_self 0)).1
          have r1 := (hth 0 (Nat.lt_succ_self 0)).2
          simp only [Nat.mul_one, Nat.add_zero] at r0 r1
          obtain ⟨ov, r0⟩ := Option.isSome_iff_exists.1 r0
          obtain ⟨wn, hwn⟩ : ∃ wn, wa.setCell ⟨b, i, none⟩ (.int .i64 x) = wn := ⟨_, rfl⟩
          have ewn : wa.setCells b (i * 1 + 0) [.int .i64 x] = wn := by rw [← hwn, Nat.mul_one, Nat.add_zero]; rfl
          rw [ewn] at hown' hu
          have HS := Lib.hid hS
          have HON := Lib.hid hown'
          have HUN := Lib.hid hu
          have HWN := Lib.hid hwn
          have hb2 : (i : Int) < (l.length : Int) := by omega
          have hb3 : (i : Int) < 1000000 := by omega
          have hb4 : (j : Int) < 1000000 := by omega
          clear h1 hS hth hown' hu hwn ewn hyl
          go_wp2_with (rw [HWN.out])
          go_roundw
          case rel => exact ⟨i + 1, j + 1, ys.set i x, by go_num, by go_num, by omega, by omega, HON.out, HS.out.1, HS.out.2.1, HS.out.2.2, (HBT.out.trans (But.ext HXA.out)).trans (But.upd HUN.out rfl)⟩
          case measure => simp [intOf]; omega
      · obtain rfl : j = l.length := by omega
        have hyl := HYL.out
        have hlc := HBL.out.2.2
        have htk := HTK.out
        rw [List.take_length] at htk
        have hfl : (l.filter (fun x => x != g)).length = i := by rw [← htk, List.length_take]; omega
        have S1 : ∀ v, _ := cut1_from b l.length c i hij hlc
        have S2 : ∀ v, _ := cut1_to (some ⟨b, 0, none⟩) l.length c i (Nat.le_of_lt hij) hlc
        obtain ⟨zs, hzl, hclr⟩ := run_clear_rows (P := Try.prog) wr 27 3 (.int .i64 0) 1 Try.underlying27 (fun _ => by kernel_rfl) (by kernel_rfl) (by simp [Value.cells, Value.oneCell']) b (i * 1) (l.length - i) (c - i) (by omega) (there_own HOW.out (by rw [hyl, Nat.sub_mul]; have : i * 1 ≤ l.length * 1 := Nat.mul_le_mul_right _ (Nat.le_of_lt hij); omega))
        have hct := OwnRows.cutTo numL_len HOW.out (i := i) (by omega) (zs := zs) (by rw [hzl, hyl])
        rw [htk] at hct
        have HCT := Lib.hid hct
        have HFL := Lib.hid hfl
        clear hyl htk hfl hct hzl
        simp only [Nat.mul_one] at hclr HCT
        go_wp2
        go_ret
        rw [HFL.out]
        exact ⟨rfl, HCT.out.1, (HBT.out.trans (But.upd HCT.out.2 rfl)).wide fun y _ e => by subst e; rfl⟩
theorem Ri.empty_holds (hd : Nat) (h : hd < 8) : (⟨[0, 0, 0, 0, 0, 0, 0, 0], hd, 0⟩ : Ri).Holds [] := by
  refine ⟨hd, 0, rfl, rfl, h, by omega, rfl, fun j hj => ?_, rfl⟩
  rw [if_neg (by omega)]
  obtain rfl | rfl | rfl | rfl | rfl | rfl | rfl | rfl : j = 0 ∨ j = 1 ∨ j = 2 ∨ j = 3 ∨ j = 4 ∨ j = 5 ∨ j = 6 ∨ j = 7 := by omega
  all_goals rfl
theorem Ri.push_head {r r' : Ri} {g : Int} (h : r.push g = (r', true)) : r'.head = r.head := by
  unfold Ri.push at h
  split at h
  · have := congrArg (fun q => q.1.head) h
    exact this.symm
  · simp at h
set_option maxRecDepth 100000 in
set_option maxHeartbeats 8000000 in
theorem fwithout_any (b0 b1 b2 b3 b4 b5 b6 b7 hd nn g : Int) (l : List Int) (hh : Ri.Holds ⟨[b0, b1, b2, b3, b4, b5, b6, b7], hd, nn⟩ l) (w : World) : Calls Try.prog 90 #[.agg #[.int .i64 b0, .int .i64 b1, .int .i64 b2, .int .i64 b3, .int .i64 b4, .int .i64 b5, .int .i64 b6, .int .i64 b7, .int .i64 hd, .int .i64 nn], .int .i64 g] w fun e w' => ∃ r' : Ri, e = .returned (.agg (rL r').toArray) ∧ r'.Holds (l.filter (· != g)) ∧ r'.head = hd ∧ Ext w w' := by
  have HH := Lib.hid hh
  obtain ⟨hdn, hd1, hd3⟩ : ∃ k : Nat, hd = (k : Int) ∧ k < 8 := by obtain ⟨a, b, d1, d2, d3, _⟩ := hh; exact ⟨a, d1, d3⟩
  have HDN : Hid (hd = (hdn : Int) ∧ hdn < 8) := Lib.hid ⟨hd1, hd3⟩
  have HN8 := Lib.hid (Ri.holds_n hh).2
  have HL := Lib.hid (Ri.list_of hh)
  have HPOS := Lib.hid (Ri.holds_pos hh)
  clear hh hd1 hd3
  obtain ⟨B, hB⟩ : ∃ B, w.heap.size = B := ⟨_, rfl⟩
  obtain ⟨RB, hR⟩ : ∃ RB, B + 1 = RB := ⟨_, rfl⟩
  obtain ⟨BO, hO⟩ : ∃ BO, RB + 1 = BO := ⟨_, rfl⟩
  obtain ⟨w2, hw2⟩ : ∃ w2, (w.alloc (.cells #[.int .i64 b0, .int .i64 b1, .int .i64 b2, .int .i64 b3, .int .i64 b4, .int .i64 b5, .int .i64 b6, .int .i64 b7, .int .i64 hd, .int .i64 nn] 38)).alloc (.cells #[.int .i64 0, .int .i64 0, .int .i64 0, .int .i64 0, .int .i64 0, .int .i64 0, .int .i64 0, .int .i64 0, .int .i64 0, .int .i64 0] 38) = w2 := ⟨_, rfl⟩
  obtain ⟨w3, hw3⟩ : ∃ w3, w2.alloc (.cells #[.int .i64 0, .int .i64 0, .int .i64 0, .int .i64 0, .int .i64 0, .int .i64 0, .int .i64 0, .int .i64 0, .int .i64 0, .int .i64 0] 38) = w3 := ⟨_, rfl⟩
  obtain ⟨w4, hw4⟩ : ∃ w4, w3.setCells BO 0 (rL ⟨[0, 0, 0, 0, 0, 0, 0, 0], hd, 0⟩) = w4 := ⟨_, rfl⟩
  have hs1 : (w.alloc (.cells #[.int .i64 b0, .int .i64 b1, .int .i64 b2, .int .i64 b3, .int .i64 b4, .int .i64 b5, .int .i64 b6, .int .i64 b7, .int .i64 hd, .int .i64 nn] 38)).heap.size = RB := by rw [World.size_alloc, hB, hR]
  have hs2 : w2.heap.size = BO := by rw [← hw2, World.size_alloc, hs1, hO]
  have hx2 : Ext w w2 := by rw [← hw2]; exact ((Ext.refl w).alloc _).alloc _
  have hb2 : w2.heap[B]? = some (.cells #[.int .i64 b0, .int .i64 b1, .int .i64 b2, .int .i64 b3, .int .i64 b4, .int .i64 b5, .int .i64 b6, .int .i64 b7, .int .i64 hd, .int .i64 nn] 38 (0, 0)) := by rw [← hw2, ← hB]; exact blk_alloc (blk_new w _) _
  have hr2 : w2.heap[RB]? = some (.cells (rL Ri.zero).toArray 38 (0, 0)) := by
    have := blk_new (w.alloc (.cells #[.int .i64 b0, .int .i64 b1, .int .i64 b2, .int .i64 b3, .int .i64 b4, .int .i64 b5, .int .i64 b6, .int .i64 b7, .int .i64 hd, .int .i64 nn] 38)) (.cells #[.int .i64 0, .int .i64 0, .int .i64 0, .int .i64 0, .int .i64 0, .int .i64 0, .int .i64 0, .int .i64 0, .int .i64 0, .int .i64 0] 38)
    rw [hw2, hs1] at this
    exact this
  have hb3 : w3.heap[BO]? = some (.cells (rL Ri.zero).toArray 38 (0, 0)) := by rw [← hw3, ← hs2]; exact blk_new w2 _
  have hx3 : Ext w2 w3 := by rw [← hw3]; exact (Ext.refl w2).alloc _
  have hu4 : Upd BO w3 w4 := by rw [← hw4]; exact setCells_upd _ _ _ _
  have hx4 : Ext w2 w4 := hx3.upd hu4 (by omega)
  have HT3 : Hid (w3.there BO 0 (rL ⟨[0, 0, 0, 0, 0, 0, 0, 0], hd, 0⟩).length) := Lib.hid (there_row hb3 (Nat.le_refl 10))
  have HB4 : Hid (w4.heap[BO]? = some (.cells (rL ⟨[0, 0, 0, 0, 0, 0, 0, 0], hd, 0⟩).toArray 38 (0, 0))) := Lib.hid (by rw [← hw4]; exact setCells_at (rL Ri.zero) (rL ⟨[0, 0, 0, 0, 0, 0, 0, 0], hd, 0⟩) rfl hb3)
  have HA4 := Lib.hid (hx4.blk hb2)
  have HR4 := Lib.hid (hx4.blk hr2)
  have HX4 := Lib.hid (hx2.trans hx4)
  have p8 : w2.cell? ⟨B, 8, none⟩ = some (.int .i64 hd) := blk_cell hb2 8 _ rfl
  have HS4 : Hid (BO < w4.heap.size ∧ w.heap.size = B ∧ B + 1 = RB ∧ RB + 1 = BO) := Lib.hid ⟨blk_lt HB4.out, hB, hR, hO⟩
  have HW2 : Hid ((w.alloc (.cells #[.int .i64 b0, .int .i64 b1, .int .i64 b2, .int .i64 b3, .int .i64 b4, .int .i64 b5, .int .i64 b6, .int .i64 b7, .int .i64 hd, .int .i64 nn] 38)).alloc (.cells #[.int .i64 0, .int .i64 0, .int .i64 0, .int .i64 0, .int .i64 0, .int .i64 0, .int .i64 0, .int .i64 0, .int .i64 0, .int .i64 0] 38) = w2) := Lib.hid hw2
  have HW3 := Lib.hid hw3
  have HW4 := Lib.hid hw4
  have HBB := Lib.hid hB
  have HRR := Lib.hid hR
  have HS2 := Lib.hid hs2
  obtain ⟨rv, hrv⟩ : ∃ rv, Value.agg #[.int .i64 b0, .int .i64 b1, .int .i64 b2, .int .i64 b3, .int .i64 b4, .int .i64 b5, .int .i64 b6, .int .i64 b7, .int .i64 hd, .int .i64 nn] = rv := ⟨_, rfl⟩
  have HRV := Lib.hid hrv
  obtain ⟨zv, hzv⟩ : ∃ zv, Value.agg #[.int .i64 0, .int .i64 0, .int .i64 0, .int .i64 0, .int .i64 0, .int .i64 0, .int .i64 0, .int .i64 0, .int .i64 hd, .int .i64 0] = zv := ⟨_, rfl⟩
  have HZV := Lib.hid hzv
  clear hB hR hO hw2 hw3 hw4 hs1 hs2 hx2 hb2 hr2 hb3 hx3 hu4 hx4 hrv hzv
  go_enter Try.func90, Try.ntmps90
  go_upto_region 1 with fail
  rw [HW2.out, HBB.out, HRR.out]
  go_upto_region 2 with (first | rw [HW3.out, HS2.out] | (refine wpList_store_rowM rfl 38 _ _ rfl BO 0 (rL ⟨[0, 0, 0, 0, 0, 0, 0, 0], hd, 0⟩) zv (by go_simp) (by go_simp; exact HZV.out) HZV.out.symm HT3.out (by kernel_rfl) (rL_one _) HW4.out ?_))
  clear p8
  go_wp2_with (refine wpList_load_rowM (by rfl) 38 _ rfl B 0 (by go_simp) (rL ⟨[b0, b1, b2, b3, b4, b5, b6, b7], hd, nn⟩) rv HRV.out.symm _ (range_row HA4.out) Try.underlying38 rfl (by first | kernel_rfl | (rw [pL_len]; kernel_rfl)) ?_)
  rw [← HRV.out]
  refine (rlist_own b0 b1 b2 b3 b4 b5 b6 b7 hd nn l HL.out w4).mono ?_
  rintro e w5 ⟨v, rfl, ho, hx5⟩
  obtain ⟨A, c, rfl⟩ := ho.form
  have HO5 := Lib.hid ho
  have HX5 := Lib.hid (HX4.out.trans hx5)
  have HB5 := Lib.hid (hx5.blk HB4.out)
  have HR5 := Lib.hid (hx5.blk HR4.out)
  clear ho hx5
  go_wp2_with fail
  go_loopw [14] (fun iv wr => ∃ (k : Nat) (r : Ri), k ≤ l.length ∧ iv = .int .i64 k ∧ r.Holds ((l.take k).filter (fun x => x != g)) ∧ r.head = hd ∧ wr.heap[BO]? = some (.cells (rL r).toArray 38 (0, 0)) ∧ wr.heap[RB]? = some (.cells (rL Ri.zero).toArray 38 (0, 0)) ∧ OwnInts wr w4.heap.size (.slice A l.length c) l ∧ Ext w wr) (fun iv _ => l.length - (intOf iv).toNat)
  case atStart => exact ⟨0, ⟨[0, 0, 0, 0, 0, 0, 0, 0], hd, 0⟩, by omega, rfl, by rw [HDN.out.1]; exact Ri.empty_holds hdn HDN.out.2, rfl, HB5.out, HR5.out, HO5.out, HX5.out⟩
  case round =>
    obtain ⟨k, r, hk, rfl, hr, hrh, hb, hrb, ho, hx⟩ := hrel
    have HRH := Lib.hid hr
    have HRD := Lib.hid hrh
    have HB := Lib.hid hb
    have HRB := Lib.hid hrb
    have HO := Lib.hid ho
    have HX := Lib.hid hx
    clear hr hrh hb hrb ho hx
    by_cases hlt : k < l.length
    · obtain ⟨x, hx⟩ : ∃ x, l[k]? = some x := ⟨_, List.getElem?_eq_getElem hlt⟩
      obtain ⟨bo, oo, rfl, hbo, hcx⟩ := ints_get HO.out.at.2 hx
      have HXK := Lib.hid hx
      have HX1 := Lib.hid (HPOS.out x (List.mem_of_getElem? hx))
      have e2 : (k : Int) < 100000 := by have := HN8.out; omega
      clear hx hbo
      by_cases h1 : x = g
      · have h1' : (x != g) = false := by simpa using h1
        have NH : Hid (r.Holds ((l.take (k + 1)).filter (fun x => x != g))) := Lib.hid (by rw [List.take_add_one, HXK.out, List.filter_append]; simpa [h1] using HRH.out)
        clear h1
        go_wp2
        go_roundw
        case rel => exact ⟨k + 1, r, by omega, by go_num, NH.out, HRD.out, HB.out, HRB.out, HO.out, HX.out⟩
        case measure => simp [intOf]; omega
      · have h1' : (x != g) = true := by simpa using h1
        have hlk : ((l.take k).filter (fun x => x != g)).length < 8 := Nat.lt_of_le_of_lt (List.length_filter_le _ _) (by rw [List.length_take]; have := HN8.out; omega)
        obtain ⟨r', hp, hr'⟩ := Ri.holds_push HRH.out HX1.out hlk
        have NH : Hid (r'.Holds ((l.take (k + 1)).filter (fun x => x != g))) := Lib.hid (by rw [List.take_add_one, HXK.out, List.filter_append]; simpa [h1] using hr')
        have NHD : Hid (r'.head = hd) := Lib.hid ((Ri.push_head hp).trans HRD.out)
        obtain ⟨c0, c1, c2, c3, c4, c5, c6, c7, hd1, nn1, rfl⟩ := Ri.open8 (Ri.holds_len HRH.out)
        obtain ⟨d0, d1, d2, d3, d4, d5, d6, d7, hd2, nn2, rfl⟩ := Ri.open8 (Ri.holds_len hr')
        have HPU := Lib.hid hp
        obtain ⟨cv, hcv⟩ : ∃ cv, Value.agg #[.int .i64 c0, .int .i64 c1, .int .i64 c2, .int .i64 c3, .int .i64 c4, .int .i64 c5, .int .i64 c6, .int .i64 c7, .int .i64 hd1, .int .i64 nn1] = cv := ⟨_, rfl⟩
        have HCV := Lib.hid hcv
        clear h1 hlk hp hr' hcv
        go_wp2_with (refine wpList_load_rowM (by rfl) 38 _ rfl BO 0 (by go_simp) (rL ⟨[c0, c1, c2, c3, c4, c5, c6, c7], hd1, nn1⟩) cv HCV.out.symm _ (range_row HB.out) Try.underlying38 rfl (by first | kernel_rfl | (rw [pL_len]; kernel_rfl)) ?_)
        rw [← HCV.out]
        refine (rpush_k c0 c1 c2 c3 c4 c5 c6 c7 hd1 nn1 x d0 d1 d2 d3 d4 d5 d6 d7 hd2 nn2 true HPU.out wr).mono ?_
        rintro e w7 ⟨rfl, hx7⟩
        obtain ⟨w8, hw8⟩ : ∃ w8, w7.setCells BO 0 (rL ⟨[d0, d1, d2, d3, d4, d5, d6, d7], hd2, nn2⟩) = w8 := ⟨_, rfl⟩
        have hb7 := hx7.blk HB.out
        have hu8 : Upd BO w7 w8 := by rw [← hw8]; exact setCells_upd _ _ _ _
        have HT7 : Hid (w7.there BO 0 (rL ⟨[d0, d1, d2, d3, d4, d5, d6, d7], hd2, nn2⟩).length) := Lib.hid (there_row hb7 (Nat.le_refl 10))
        have NB : Hid (w8.heap[BO]? = some (.cells (rL ⟨[d0, d1, d2, d3, d4, d5, d6, d7], hd2, nn2⟩).toArray 38 (0, 0))) := Lib.hid (by rw [← hw8]; exact setCells_at (rL ⟨[c0, c1, c2, c3, c4, c5, c6, c7], hd1, nn1⟩) (rL ⟨[d0, d1, d2, d3, d4, d5, d6, d7], hd2, nn2⟩) rfl hb7)
        have NRB : Hid (w8.heap[RB]? = some (.cells (rL Ri.zero).toArray 38 (0, 0))) := Lib.hid ((hu8.block RB (by have := hx7.size; have := blk_lt HRB.out; omega) (fun e => by injection e; have := HS4.out; omega)).trans (hx7.blk HRB.out))
        have NO : Hid (OwnInts w8 w4.heap.size (.slice (some ⟨bo, oo, none⟩) l.length c) l) := Lib.hid ((HO.out.ext hx7).updB hu8 HS4.out.1)
        have NX : Hid (Ext w w8) := Lib.hid ((HX.out.trans hx7).upd hu8 (by have := HS4.out; omega))
        have HW8 := Lib.hid hw8
        obtain ⟨dv, hdv⟩ : ∃ dv, Value.agg #[.int .i64 d0, .int .i64 d1, .int .i64 d2, .int .i64 d3, .int .i64 d4, .int .i64 d5, .int .i64 d6, .int .i64 d7, .int .i64 hd2, .int .i64 nn2] = dv := ⟨_, rfl⟩
        have HDV := Lib.hid hdv
        rw [hdv]
        clear hx7 hw8 hb7 hu8 hdv
        go_wp2_with (refine wpList_store_rowM rfl 38 _ _ rfl BO 0 (rL ⟨[d0, d1, d2, d3, d4, d5, d6, d7], hd2, nn2⟩) dv (by go_simp) (by go_simp) HDV.out.symm HT7.out (by first | kernel_rfl | (rw [pL_len]; kernel_rfl)) (rL_one _) HW8.out ?_)
        go_roundw
        case rel => exact ⟨k + 1, _, by omega, by go_num, NH.out, NHD.out, NB.out, NRB.out, NO.out, NX.out⟩
        case measure => simp [intOf]; omega
    · obtain rfl : k = l.length := by omega
      have hrh := HRH.out
      rw [List.take_length] at hrh
      have HRF := Lib.hid hrh
      obtain ⟨c0, c1, c2, c3, c4, c5, c6, c7, hd1, nn1, rfl⟩ := Ri.open8 (Ri.holds_len hrh)
      obtain ⟨cv, hcv⟩ : ∃ cv, Value.agg #[.int .i64 c0, .int .i64 c1, .int .i64 c2, .int .i64 c3, .int .i64 c4, .int .i64 c5, .int .i64 c6, .int .i64 c7, .int .i64 hd1, .int .i64 nn1] = cv := ⟨_, rfl⟩
      have HCV := Lib.hid hcv
      obtain ⟨wf, hwf⟩ : ∃ wf, wr.setCells RB 0 (rL ⟨[c0, c1, c2, c3, c4, c5, c6, c7], hd1, nn1⟩) = wf := ⟨_, rfl⟩
      have HTF : Hid (wr.there RB 0 (rL ⟨[c0, c1, c2, c3, c4, c5, c6, c7], hd1, nn1⟩).length) := Lib.hid (there_row HRB.out (Nat.le_refl 10))
      have HFR : Hid (wf.heap[RB]? = some (.cells (rL ⟨[c0, c1, c2, c3, c4, c5, c6, c7], hd1, nn1⟩).toArray 38 (0, 0))) := Lib.hid (by rw [← hwf]; exact setCells_at (rL Ri.zero) (rL ⟨[c0, c1, c2, c3, c4, c5, c6, c7], hd1, nn1⟩) rfl HRB.out)
      have HXF : Hid (Ext w wf) := Lib.hid (by rw [← hwf]; exact HX.out.upd (setCells_upd _ _ _ _) (by have := HS4.out; omega))
      have HWF := Lib.hid hwf
      clear hrh hcv hwf
      go_wp2_with (first | (refine wpList_load_rowM (by rfl) 38 _ rfl BO 0 (by go_simp) (rL ⟨[c0, c1, c2, c3, c4, c5, c6, c7], hd1, nn1⟩) cv HCV.out.symm _ (range_row HB.out) Try.underlying38 rfl (by first | kernel_rfl | (rw [pL_len]; kernel_rfl)) ?_) | (refine wpList_store_rowM rfl 38 _ _ rfl RB 0 (rL ⟨[c0, c1, c2, c3, c4, c5, c6, c7], hd1, nn1⟩) cv (by go_simp) (by go_simp) HCV.out.symm HTF.out (by first | kernel_rfl | (rw [pL_len]; kernel_rfl)) (rL_one _) HWF.out ?_))
      refine bodyPost_ret (v := .agg (rL ⟨[c0, c1, c2, c3, c4, c5, c6, c7], hd1, nn1⟩).toArray) (results_cell_row rfl _ _ RB _ _ _ _ rfl HFR.out Try.underlying38 rfl (by kernel_rfl)) rfl ⟨_, rfl, HRF.out, HRD.out, HXF.out⟩
end Go.Proofs.Ytogcfndhcphpaaa
