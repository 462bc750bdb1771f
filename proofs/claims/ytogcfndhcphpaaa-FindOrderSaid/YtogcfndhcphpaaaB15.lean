/-
  Several texts in one: Ue, Uf, Gs, Ug, Uh.
-/
import Derived.Test.YtogcfndhcphpaaaB14
import Derived.Test.YtogcfndhcphpaaaB08
import Derived.Test.YtogcfndhcphpaaaB13
import Derived.Lib.SliceRun
set_option linter.unusedVariables false
set_option linter.unusedSimpArgs false
namespace Go.Proofs.Ytogcfndhcphpaaa
open Go.RowKit
theorem StApart.nil (w : World) {B : Nat} (hB : B ≤ w.heap.size) : StApart B w (fun _ => (B, B)) StH.nil St.nil :=
  have u : UnderB (.slice none 0 0) B := fun b hb => by cases hb
  ⟨fun _ _ => ⟨Nat.le_refl _, Nat.le_refl _, hB⟩, fun _ _ _ _ _ => .inl (Nat.le_refl _), ⟨[], rfl, RowsIn.nil w _ _, fun i u xs h => by simp at h⟩, ⟨OwnRows.nil _ _, u⟩, ⟨OwnRows.nil _ _, u⟩, ⟨OwnRows.nil _ _, u⟩, ⟨OwnInts.nil _ _, u⟩, ⟨OwnInts.nil _ _, u⟩, ⟨OwnInts.nil _ _, u⟩, ⟨OwnInts.nil _ _, u⟩, ⟨OwnInts.nil _ _, u⟩, ⟨OwnRows.nil _ _, u⟩⟩
def StRes (w : World) (r : St × Int) (e : Ending) (w' : World) : Prop := ∃ h', e = .returned (.tuple #[stV h' r.1, .int .i64 r.2]) ∧ (∃ I, StApart w.heap.size w' I h' r.1) ∧ Ext w w'
theorem StRes.nil {w w' : World} (hx : Ext w w') : StRes w (St.nil, 1) (.returned (.tuple #[.agg (stL StH.nil St.nil).toArray, .int .i64 1])) w' := ⟨StH.nil, rfl, ⟨_, StApart.nil w' hx.size⟩, hx⟩
theorem fin_nil {w v : World} {R : Nat} (hr : v.heap[R]? = some (.cells #[.slice none 0 0, .slice none 0 0, .slice none 0 0, .slice none 0 0, .slice none 0 0, .int .i64 0, .int .i64 0, .int .i64 0, .int .i64 0, .slice none 0 0, .slice none 0 0, .slice none 0 0, .slice none 0 0, .slice none 0 0, .int .i64 0, .int .i64 0] 32 (0, 0))) (hx : Ext w v) (hR : w.heap.size ≤ R) :
    (v.setCells R 0 (stL StH.nil St.nil)).heap[R]? = some (.cells (stL StH.nil St.nil).toArray 32 (0, 0)) ∧ v.there R 0 (stL StH.nil St.nil).length ∧ Ext w (v.setCells R 0 (stL StH.nil St.nil)) :=
  ⟨setCells_at [.slice none 0 0, .slice none 0 0, .slice none 0 0, .slice none 0 0, .slice none 0 0, .int .i64 0, .int .i64 0, .int .i64 0, .int .i64 0, .slice none 0 0, .slice none 0 0, .slice none 0 0, .slice none 0 0, .slice none 0 0, .int .i64 0, .int .i64 0] (stL StH.nil St.nil) rfl hr, there_row hr (Nat.le_refl 16), hx.upd (setCells_upd R _ v 0) hR⟩
set_option maxRecDepth 100000 in
set_option maxHeartbeats 2000000 in
theorem sinuse_any (h : StH) (s : St) (p : Int) (r : Bool) (hr : decide (1 ≤ p ∧ p ≤ s.procs) = r) (w : World) (hk : StOk w h s) : Calls Try.prog 50 #[stV h s, .int .i64 p] w fun e w' => e = .returned (.bool r) ∧ Ext w w' := by
  have HR := Lib.hid hr
  clear hr
  have HK := Lib.hid hk
  obtain ⟨w1, hw1⟩ : ∃ w1, w.alloc (.cells #[.slice h.pa s.prog.length h.pc, .slice h.ga s.gs.length h.gc, .slice h.qa s.ps.length h.qc, .slice h.ma s.ms.length h.mc, .slice h.la s.glob.length h.lc, .int .i64 s.c0, .int .i64 s.c1, .int .i64 s.c2, .int .i64 s.c3, .slice h.a0 s.w0.length h.k0, .slice h.a1 s.w1.length h.k1, .slice h.a2 s.w2.length h.k2, .slice h.a3 s.w3.length h.k3, .slice h.ta s.timers.length h.tc, .int .i64 s.clock, .int .i64 s.procs] 32) = w1 := ⟨_, rfl⟩
  have HX1 : Hid (Ext w w1) := Lib.hid (by rw [← hw1]; exact (Ext.refl w).alloc _)
  have HB1 : Hid (w1.heap[w.heap.size]? = some (.cells (stC h s) 32 (0, 0))) := Lib.hid (by rw [← hw1]; exact blk_new w _)
  have HK1 := Lib.hid (hk.ext HX1.out)
  have HW1 := Lib.hid hw1
  clear hw1 hk
  have q15 := st15 HB1.out
  unfold stV
  go_enter Try.func50, Try.ntmps50
  go_upto_region 1 with fail
  rw [HW1.out]
  generalize Value.agg #[.slice h.pa s.prog.length h.pc, .slice h.ga s.gs.length h.gc, .slice h.qa s.ps.length h.qc, .slice h.ma s.ms.length h.mc, .slice h.la s.glob.length h.lc, .int .i64 s.c0, .int .i64 s.c1, .int .i64 s.c2, .int .i64 s.c3, .slice h.a0 s.w0.length h.k0, .slice h.a1 s.w1.length h.k1, .slice h.a2 s.w2.length h.k2, .slice h.a3 s.w3.length h.k3, .slice h.ta s.timers.length h.tc, .int .i64 s.clock, .int .i64 s.procs] = sv0
  by_cases a1 : 1 ≤ p
  · by_cases a2 : p ≤ s.procs
    · have HQ : Hid (r = true) := Lib.hid (by rw [← HR.out]; simp; omega)
      go_wp2
      go_ret
      exact ⟨by rw [HQ.out] <;> rfl, HX1.out⟩
    · have HQ : Hid (r = false) := Lib.hid (by rw [← HR.out]; simp; omega)
      go_wp2
      go_ret
      exact ⟨by rw [HQ.out] <;> rfl, HX1.out⟩
  · have HQ : Hid (r = false) := Lib.hid (by rw [← HR.out]; simp; omega)
    go_wp2
    go_ret
    exact ⟨by rw [HQ.out] <;> rfl, HX1.out⟩
set_option maxRecDepth 100000 in
set_option maxHeartbeats 2000000 in
theorem srun_any (W0 g i : Nat) (n : Int) (h : StH) (s : St) (x : Gr) (w : World) (hn : n = (i : Int) + 1) (hb : w.heap[W0]? = some (.cells (stC h s) 32 (0, 0))) (hg : h.ga = some ⟨g, 0, none⟩) (hi : i < s.gs.length) (hl : s.gs.length ≤ 100000) (hr : w.rangeAt g (i * 5) (gL x)) (ht : w.there g (i * 5 + 2) 3) (hq : 0 ≤ x.seq ∧ x.seq < 4611686018427387904) :
    Calls Try.prog 55 #[.pointer (some ⟨W0, 0, none⟩), .int .i64 n] w fun e w' => e = .returned (.tuple #[]) ∧ w' = w.setCells g (i * 5 + 2) [.int .i64 1, .int .i64 0, .int .i64 (x.seq + 1)] := by
  subst hn
  have q1 : w.cell? ⟨W0, 1, none⟩ = some (.slice (some ⟨g, 0, none⟩) s.gs.length h.gc) := by rw [← hg]; exact st1 hb
  have c2 : w.cell? ⟨g, i * 5 + 2, none⟩ = some (.int .i64 x.st) := hr 2 _ rfl
  have c3 : w.cell? ⟨g, i * 5 + 3, none⟩ = some (.int .i64 x.m) := hr 3 _ rfl
  have c4 : w.cell? ⟨g, i * 5 + 4, none⟩ = some (.int .i64 x.seq) := hr 4 _ rfl
  have f2 := (ht 0 (by omega)).2
  have f3 := (ht 1 (by omega)).2
  have f4 := (ht 2 (by omega)).2
  rw [Nat.add_zero] at f2
  have e1 : (i : Int) + 1 - 1 = (i : Int) := by omega
  have e4 : (i : Int) < (s.gs.length : Int) := by omega
  have e5 : (i : Int) < 100000 := by omega
  clear hb hg hr ht hi hl
  go_enter Try.func55, Try.ntmps55
  go_wp2
  go_end0
  exact ⟨rfl, rfl⟩
theorem pL_next (x : Pr) (n : Int) : ∀ t, t < 13 → (pL { x with next := n })[t]? = if 1 ≤ t ∧ t < 1 + [Value.int .i64 n].length then [Value.int .i64 n][t - 1]? else (pL x)[t]? := by
  intro t ht
  obtain rfl | ht1 : t = 1 ∨ t ≠ 1 := by omega
  · rfl
  · rw [if_neg (by simp; omega)]
    match t, ht1 with
    | 0, _ => rfl
    | t + 2, _ => rfl
theorem St.drain_yes {s : St} {i : Nat} {x : Pr} (hm : s.may = true) (hp : 1 ≤ (i : Int) + 1 ∧ (i : Int) + 1 ≤ s.procs) (hi : s.ps[i]? = some x) : s.drain ((i : Int) + 1) = ({ s with ps := s.ps.set i { x with next := 0, ring := Ri.zero }, glob := s.glob ++ St.queueOf x }, 0) := by
  unfold St.drain
  rw [if_pos ⟨hm, hp⟩, pAt_of hi, putP_of]
theorem St.drain_no {s : St} {p : Int} (h : ¬ (s.may = true ∧ (1 ≤ p ∧ p ≤ s.procs))) : s.drain p = (St.nil, 1) := if_neg h
set_option maxRecDepth 100000 in
set_option maxHeartbeats 16000000 in
theorem rdDrain_any (h : StH) (s : St) (p : Int) (r : St × Int) (hrr : s.drain p = r) (w : World) (hk : StOk w h s) (hf : StFew s) : Calls Try.prog 22 #[stV h s, .int .i64 p] w (StRes w r) := by
  have HRS := Lib.hid hrr
  clear hrr
  have HF := Lib.hid hf
  have HK := Lib.hid hk
  obtain ⟨W0, hW0⟩ : ∃ W0, w.heap.size = W0 := ⟨_, rfl⟩
  obtain ⟨R, hR⟩ : ∃ R, W0 + 1 = R := ⟨_, rfl⟩
  obtain ⟨w2, hw2⟩ : ∃ w2, (w.alloc (.cells #[.slice h.pa s.prog.length h.pc, .slice h.ga s.gs.length h.gc, .slice h.qa s.ps.length h.qc, .slice h.ma s.ms.length h.mc, .slice h.la s.glob.length h.lc, .int .i64 s.c0, .int .i64 s.c1, .int .i64 s.c2, .int .i64 s.c3, .slice h.a0 s.w0.length h.k0, .slice h.a1 s.w1.length h.k1, .slice h.a2 s.w2.length h.k2, .slice h.a3 s.w3.length h.k3, .slice h.ta s.timers.length h.tc, .int .i64 s.clock, .int .i64 s.procs] 32)).alloc (.cells #[.slice none 0 0, .slice none 0 0, .slice none 0 0, .slice none 0 0, .slice none 0 0, .int .i64 0, .int .i64 0, .int .i64 0, .int .i64 0, .slice none 0 0, .slice none 0 0, .slice none 0 0, .slice none 0 0, .slice none 0 0, .int .i64 0, .int .i64 0] 32) = w2 := ⟨_, rfl⟩
  have HX1 : Hid (Ext w w2) := Lib.hid (by rw [← hw2]; exact ((Ext.refl w).alloc _).alloc _)
  have HB1 : Hid (w2.heap[W0]? = some (.cells (stC h s) 32 (0, 0))) := Lib.hid (by rw [← hw2, ← hW0]; exact blk_alloc (blk_new w _) _)
  have HR1 : Hid (w2.heap[R]? = some (.cells #[.slice none 0 0, .slice none 0 0, .slice none 0 0, .slice none 0 0, .slice none 0 0, .int .i64 0, .int .i64 0, .int .i64 0, .int .i64 0, .slice none 0 0, .slice none 0 0, .slice none 0 0, .slice none 0 0, .slice none 0 0, .int .i64 0, .int .i64 0] 32 (0, 0))) := Lib.hid (by
    have := blk_new (w.alloc (.cells #[.slice h.pa s.prog.length h.pc, .slice h.ga s.gs.length h.gc, .slice h.qa s.ps.length h.qc, .slice h.ma s.ms.length h.mc, .slice h.la s.glob.length h.lc, .int .i64 s.c0, .int .i64 s.c1, .int .i64 s.c2, .int .i64 s.c3, .slice h.a0 s.w0.length h.k0, .slice h.a1 s.w1.length h.k1, .slice h.a2 s.w2.length h.k2, .slice h.a3 s.w3.length h.k3, .slice h.ta s.timers.length h.tc, .int .i64 s.clock, .int .i64 s.procs] 32)) (.cells #[.slice none 0 0, .slice none 0 0, .slice none 0 0, .slice none 0 0, .slice none 0 0, .int .i64 0, .int .i64 0, .int .i64 0, .int .i64 0, .slice none 0 0, .slice none 0 0, .slice none 0 0, .slice none 0 0, .slice none 0 0, .int .i64 0, .int .i64 0] 32)
    rw [hw2, World.size_alloc, hW0, hR] at this
    exact this)
  have HRR := Lib.hid hR
  have HW0 := Lib.hid hW0
  have HW2 := Lib.hid hw2
  have HK1 := Lib.hid (hk.ext HX1.out)
  clear hk hf hw2 hW0 hR
  obtain ⟨PQ, hPQ⟩ : ∃ PQ : Ending → World → Prop, PQ = StRes w r := ⟨_, rfl⟩
  rw [← hPQ]
  have HPQ := Lib.hid hPQ
  clear hPQ
  unfold stV
  go_enter Try.func22, Try.ntmps22
  go_upto_region 1 with fail
  rw [HW2.out, HW0.out, HRR.out]
  generalize Value.agg #[.slice h.pa s.prog.length h.pc, .slice h.ga s.gs.length h.gc, .slice h.qa s.ps.length h.qc, .slice h.ma s.ms.length h.mc, .slice h.la s.glob.length h.lc, .int .i64 s.c0, .int .i64 s.c1, .int .i64 s.c2, .int .i64 s.c3, .slice h.a0 s.w0.length h.k0, .slice h.a1 s.w1.length h.k1, .slice h.a2 s.w2.length h.k2, .slice h.a3 s.w3.length h.k3, .slice h.ta s.timers.length h.tc, .int .i64 s.clock, .int .i64 s.procs] = sv0
  go_wp2_with (refine wpList_load_rowW (by rfl) 32 _ rfl W0 (by go_simp) (stL h s) (stV h s) rfl _ (range_row HB1.out) Try.underlying32 rfl (by kernel_rfl) ?_)
  refine (sstmay_any h s _ rfl _ HK1.out HF.out).mono ?_
  rintro e wa ⟨rfl, hxa⟩
  have HXA := Lib.hid (HX1.out.trans hxa)
  have HBA := Lib.hid (hxa.blk HB1.out)
  have HRA := Lib.hid (hxa.blk HR1.out)
  clear hxa
  cases bm : s.may with
  | false =>
    have HN : Hid (r = (St.nil, 1)) := Lib.hid (by rw [← HRS.out]; exact St.drain_no (by rw [bm]; simp))
    go_upto_if 15 with fail
    obtain ⟨wf, hwf⟩ : ∃ wf, wa.setCells R 0 (stL StH.nil St.nil) = wf := ⟨_, rfl⟩
    have hfn := fin_nil HRA.out HXA.out (show w.heap.size ≤ R by have := HRR.out; have := HW0.out; omega)
    rw [hwf] at hfn
    have HFN := Lib.hid hfn
    have HWF := Lib.hid hwf
    clear hfn hwf
    go_wp2_with (refine wpList_store_row rfl 32 _ _ rfl R (stL StH.nil St.nil) (stV StH.nil St.nil) rfl rfl rfl HFN.out.2.1 (by kernel_rfl) (stL_one _ _) HWF.out ?_)
    refine bodyPost_cell_tmp rfl R _ _ _ _ rfl HFN.out.1 Try.underlying32 rfl (by kernel_rfl) (.int .i64 1) rfl rfl ?_
    rw [HPQ.out]
    show StRes w _ _ _
    rw [HN.out]
    exact StRes.nil HFN.out.2.2
  | true =>
  have HM := Lib.hid bm
  clear bm
  go_wp2_with (refine wpList_load_rowW (by rfl) 32 _ rfl W0 (by go_simp) (stL h s) (stV h s) rfl _ (range_row HBA.out) Try.underlying32 rfl (by kernel_rfl) ?_)
  refine (sinuse_any h s p _ rfl _ (HK.out.ext HXA.out)).mono ?_
  rintro e wb ⟨rfl, hxb⟩
  have HXB := Lib.hid (HXA.out.trans hxb)
  have HBB := Lib.hid (hxb.blk HBA.out)
  have HRB := Lib.hid (hxb.blk HRA.out)
  clear hxb
  cases bi : decide (1 ≤ p ∧ p ≤ s.procs) with
  | false =>
    have HN : Hid (r = (St.nil, 1)) := Lib.hid (by rw [← HRS.out]; exact St.drain_no (by intro h; have := of_decide_eq_false bi; exact this h.2))
    go_upto_if 15 with fail
    obtain ⟨wf, hwf⟩ : ∃ wf, wb.setCells R 0 (stL StH.nil St.nil) = wf := ⟨_, rfl⟩
    have hfn := fin_nil HRB.out HXB.out (show w.heap.size ≤ R by have := HRR.out; have := HW0.out; omega)
    rw [hwf] at hfn
    have HFN := Lib.hid hfn
    have HWF := Lib.hid hwf
    clear hfn hwf
    go_wp2_with (refine wpList_store_row rfl 32 _ _ rfl R (stL StH.nil St.nil) (stV StH.nil St.nil) rfl rfl rfl HFN.out.2.1 (by kernel_rfl) (stL_one _ _) HWF.out ?_)
    refine bodyPost_cell_tmp rfl R _ _ _ _ rfl HFN.out.1 Try.underlying32 rfl (by kernel_rfl) (.int .i64 1) rfl rfl ?_
    rw [HPQ.out]
    show StRes w _ _ _
    rw [HN.out]
    exact StRes.nil HFN.out.2.2
  | true =>
  have hpp := of_decide_eq_true bi
  clear bi
  have hps := St.may_procs HM.out
  obtain ⟨i, rfl⟩ : ∃ i : Nat, p = (i : Int) + 1 := ⟨(p - 1).toNat, by omega⟩
  obtain ⟨x, hp⟩ : ∃ x, s.ps[i]? = some x := ⟨_, List.getElem?_eq_getElem (by omega)⟩
  have hb8 := HK.out.buf _ (List.mem_of_getElem? hp)
  have HP := Lib.hid hp
  have HPP := Lib.hid hpp
  have HB8 := Lib.hid hb8
  have HIL : Hid (i < s.ps.length) := Lib.hid (by omega)
  clear hb8 hp hpp hps
  go_upto_if 15 with fail
  go_wp2_with (refine wpList_load_rowW (by rfl) 32 _ rfl W0 (by go_simp) (stL h s) (stV h s) rfl _ (range_row HBB.out) Try.underlying32 rfl (by kernel_rfl) ?_)
  refine (sQueue_any h s _ (St.queueOf x) (St.queue_yes HPP.out.2 HM.out HP.out) wb (HK.out.ext HXB.out) HF.out).mono ?_
  rintro e wc ⟨Aq, cq, rfl, hoq, hxc⟩
  have HXC := Lib.hid (HXB.out.trans hxc)
  have HBC := Lib.hid (hxc.blk HBB.out)
  have HRC := Lib.hid (hxc.blk HRB.out)
  have HOQ := Lib.hid hoq
  have HQL := Lib.hid (queueOf_len x)
  clear hxc hoq
  have HLD := Lib.hid (HBC.out)
  go_wp2_with (refine wpList_load_rowW (by rfl) 32 _ rfl W0 (by go_simp) (stL h s) (stV h s) rfl _ (range_row HLD.out) Try.underlying32 rfl (by kernel_rfl) ?_)
  refine (sCopy_any h s _ (HK.out.ext HXC.out) HF.out).mono ?_
  rintro e w3 ⟨h1, L, rfl, ho, hL, hx⟩
  obtain ⟨w4, hw4⟩ : ∃ w4, w3.setCells W0 0 (stL h1 s) = w4 := ⟨_, rfl⟩
  have hst := Sit.start (w := w) rfl HXC.out HLD.out (HRC.out) hx (ho.apart hL) (by have := HRR.out; omega) (by have := HW0.out; omega) (by have := HW0.out; have := HRR.out; omega)
  rw [hw4] at hst
  have HTH := Lib.hid hst.1
  have S4 := Lib.hid hst.2
  have HW4 := Lib.hid hw4
  have HX3 := Lib.hid hx
  have HU4 : Hid (Upd W0 w3 w4) := Lib.hid (by rw [← hw4]; exact setCells_upd _ _ _ _)
  clear ho hL hx hst hw4 HLD
  go_upto_region 5 with (refine wpList_store_row rfl 32 _ _ rfl W0 (stL h1 s) (stV h1 s) (by go_simp) (by go_simp) rfl HTH.out (by kernel_rfl) (stL_one _ _) HW4.out ?_)
  obtain ⟨I4, ha4⟩ := S4.out.ap
  have q4 : w4.cell? ⟨W0, 4, none⟩ = some (.slice h1.la s.glob.length h1.lc) := by have := st4 S4.out.box; exact this
  have hlo4 := ha4.low 4 (by omega)
  have hgf := HF.out.glob
  have hol := HQL.out
  have HIO : Hid (OwnInts w4 wb.heap.size (.slice Aq (St.queueOf x).length cq) (St.queueOf x)) := Lib.hid ((HOQ.out.ext HX3.out).updB HU4.out (blk_lt HBB.out))
  obtain ⟨A5, c5, w5, hr5, hq5⟩ := GlobQ.more (n := s.glob.length) (GlobQ.start (v := w4) (B4 := (I4 4).1) (u0 := .slice h1.la s.glob.length h1.lc) (l := s.glob) ha4.glob.1) rfl rfl HIO.out.at.2 (by omega) (by show s.glob.length + (St.queueOf x).length ≤ _; omega)
  have hsg := S4.out.globQ ha4 hq5 (by rw [List.length_append])
  obtain ⟨w6, hw6⟩ : ∃ w6, w5.setCell ⟨W0, 4, none⟩ (.slice A5 (s.glob.length + (St.queueOf x).length) c5) = w6 := ⟨_, rfl⟩
  obtain ⟨h2, hh2⟩ : ∃ h2 : StH, { h1 with la := A5, lc := c5 } = h2 := ⟨_, rfl⟩
  have hsit := hsg.2.2
  rw [hw6, hh2] at hsit
  have S6 := Lib.hid hsit
  have HW6 := Lib.hid hw6
  have HR5 := Lib.hid hr5
  have q5 : w5.cell? ⟨W0, 4, none⟩ = some (.slice h1.la s.glob.length h1.lc) := hsg.1
  have q6 := hsg.2.1
  clear hsg hsit hh2 hw6 ha4 hq5 hlo4 hgf hol hr5
  go_upto_region 6 with (first | (at_builtin; refine wpList_append_run rfl _ _ 27 rfl _ _ (by go_simp) (by go_simp) HR5.out ?_) | rw [HW6.out])
  clear q4 q5 q6
  have e1 : (i : Int) + 1 - 1 = (i : Int) := by omega
  have e4 : (i : Int) < (s.ps.length : Int) := by have := HIL.out; omega
  have e5 : (i : Int) < 100000 := by have := HF.out.ps; have := HIL.out; omega
  obtain ⟨bq, hqa, hqb, hrg⟩ := S6.out.getP HP.out
  have HQA := Lib.hid hqa
  have q2 : w6.cell? ⟨W0, 2, none⟩ = some (.slice (some ⟨bq, 0, none⟩) s.ps.length h2.qc) := by rw [← hqa]; have := st2 S6.out.box; exact this
  have r0 : w6.cell? ⟨bq, i * 13 + 1, none⟩ = some (.int .i64 x.next) := hrg 1 _ rfl
  have hst7 := S6.out.setP' HP.out hqa (x' := { x with next := 0 }) (j := 1) (ds := [.int .i64 0]) (by decide) (pL_next x 0)
  have r1 := (hst7.1 0 (by decide)).2
  rw [Nat.add_zero] at r1
  obtain ⟨w7, hw7⟩ : ∃ w7, w6.setCell ⟨bq, i * 13 + 1, none⟩ (.int .i64 0) = w7 := ⟨_, rfl⟩
  have S7 := Lib.hid hst7.2
  rw [show w6.setCells bq (i * 13 + 1) [.int .i64 0] = w7 from hw7] at S7
  have HW7 := Lib.hid hw7
  clear hqa hrg hst7 hw7
  go_upto_region 7 with (rw [HW7.out])
  clear q2 r0 r1
  have q2 : w7.cell? ⟨W0, 2, none⟩ = some (.slice (some ⟨bq, 0, none⟩) s.ps.length h2.qc) := by rw [← HQA.out]; have := st2 S7.out.box; rw [show ({ s with ps := s.ps.set i { x with next := 0 }, glob := s.glob ++ St.queueOf x } : St).ps.length = s.ps.length from List.length_set] at this; exact this
  have hst8 := S7.out.setP' (List.getElem?_set_self HIL.out) HQA.out (x' := { x with next := 0, ring := Ri.zero }) (j := 2) (ds := rL Ri.zero) (by decide) (pL_ring (x := { x with next := 0 }) HB8.out rfl)
  obtain ⟨w8, hw8⟩ : ∃ w8, w7.setCells bq (i * 13 + 2) (rL Ri.zero) = w8 := ⟨_, rfl⟩
  have HTH8 := Lib.hid hst8.1
  have hs8 := hst8.2
  rw [hw8] at hs8
  have HW8 := Lib.hid hw8
  obtain ⟨s', hs'⟩ : ∃ s' : St, { s with ps := s.ps.set i { x with next := 0, ring := Ri.zero }, glob := s.glob ++ St.queueOf x } = s' := ⟨_, rfl⟩
  have HE : Hid (r = (s', 0)) := Lib.hid (by rw [← HRS.out, ← hs']; exact St.drain_yes HM.out HPP.out HP.out)
  have S8 : Hid (Sit w W0 R wc.heap.size w8 h2 s') := Lib.hid (by rw [← hs']; simpa only [List.set_set] using hs8)
  clear hst8 hs8 hw8 hs'
  go_upto_region 8 with (refine wpList_store_rowM rfl 38 _ _ rfl bq (i * 13 + 2) (rL Ri.zero) (.agg #[.int .i64 0, .int .i64 0, .int .i64 0, .int .i64 0, .int .i64 0, .int .i64 0, .int .i64 0, .int .i64 0, .int .i64 0, .int .i64 0]) (by go_simp) (by go_simp) rfl HTH8.out (by kernel_rfl) (rL_one _) HW8.out ?_)
  clear q2
  obtain ⟨wf, hwf⟩ : ∃ wf, w8.setCells R 0 (stL h2 s') = wf := ⟨_, rfl⟩
  have HWF := Lib.hid hwf
  have hfi := S8.out.fin
  rw [hwf] at hfi
  have HFI := Lib.hid hfi
  have HTR := Lib.hid (S8.out.there (h' := h2) (s' := s'))
  clear hwf hfi
  go_wp2_with (first | (refine wpList_load_rowW (by rfl) 32 _ rfl W0 (by go_simp) (stL h2 s') (stV h2 s') rfl _ (range_row S8.out.box) Try.underlying32 rfl (by kernel_rfl) ?_) | (refine wpList_store_row rfl 32 _ _ rfl R (stL h2 s') (stV h2 s') (by go_simp) (by go_simp) rfl HTR.out (by kernel_rfl) (stL_one _ _) HWF.out ?_))
  refine bodyPost_cell_tmp rfl R _ _ _ _ rfl HFI.out.1 Try.underlying32 rfl (by kernel_rfl) (.int .i64 0) rfl rfl ?_
  rw [HPQ.out]
  show StRes w _ _ _
  rw [HE.out]
  exact ⟨h2, rfl, HFI.out.2.1, HFI.out.2.2⟩
theorem St.may_seq {s : St} (h : s.may = true) {k : Nat} {y : Gr} (hy : s.gs[k]? = some y) : 0 ≤ y.seq ∧ y.seq < 2305843009213693952 := by
  obtain ⟨_, hg, _, _, _, _⟩ := St.may_parts h
  unfold St.goods at hg
  have := List.all_eq_true.1 hg y (List.mem_of_getElem? hy)
  unfold St.good St.low at this
  simp only [Bool.and_eq_true, decide_eq_true_eq] at this
  exact this.1.2
theorem St.may_onM {s : St} (h : s.may = true) {j : Nat} {p g : Int} (hj : s.ms[j]? = some (p, g)) (hp : p ≠ 0) (hg : g ≠ 0) : ∃ (k : Nat) (y : Gr), g = (k : Int) + 1 ∧ s.gs[k]? = some y := by
  obtain ⟨_, _, _, _, hin, _⟩ := St.may_parts h
  unfold St.allIn at hin
  simp only [Bool.and_eq_true, St.within_iff] at hin
  have hm : g ∈ s.onM true := by
    unfold St.onM
    exact List.mem_map.2 ⟨(p, g), List.mem_filter.2 ⟨List.mem_of_getElem? hj, by simp [hp, hg]⟩, rfl⟩
  have := hin.1.2 g hm
  exact ⟨(g - 1).toNat, _, by omega, List.getElem?_eq_getElem (by omega)⟩
theorem St.yield_no {s : St} {m : Int} (h : ¬ (s.may = true ∧ (1 ≤ m ∧ m ≤ s.ms.length) ∧ (s.mAt m).1 ≠ 0 ∧ (s.mAt m).2 ≠ 0)) : s.yield m = (St.nil, 1) := if_neg h
theorem St.yield_yes {s : St} {j k : Nat} {p : Int} {y : Gr} (hm : s.may = true) (hj : s.ms[j]? = some (p, (k : Int) + 1)) (hp : p ≠ 0) (hy : s.gs[k]? = some y) : s.yield ((j : Int) + 1) = ({ s with ms := s.ms.set j (p, 0), gs := s.gs.set k { y with st := 1, m := 0, seq := y.seq + 1 }, glob := s.glob ++ [(k : Int) + 1] }, 0) := by
  have hl := (List.getElem?_eq_some_iff.1 hj).1
  unfold St.yield
  rw [mAt_of hj, if_pos ⟨hm, ⟨by omega, by omega⟩, hp, by simp only; omega⟩, putM_of]
  unfold St.turn
  rw [show ({ s with ms := s.ms.set j (p, 0) } : St).gAt ((k : Int) + 1) = y from gAt_of hy, show ((k : Int) + 1 - 1).toNat = k by omega]
theorem gL_turn (y : Gr) : ∀ t, t < 5 → (gL { y with st := 1, m := 0, seq := y.seq + 1 })[t]? = if 2 ≤ t ∧ t < 2 + [Value.int .i64 1, .int .i64 0, .int .i64 (y.seq + 1)].length then [Value.int .i64 1, .int .i64 0, .int .i64 (y.seq + 1)][t - 2]? else (gL y)[t]? := by
  intro t ht
  obtain rfl | rfl | rfl | rfl | rfl : t = 0 ∨ t = 1 ∨ t = 2 ∨ t = 3 ∨ t = 4 := by omega
  all_goals rfl
theorem pair_zero (p g : Int) : ∀ t, t < 2 → (pairL (p, 0))[t]? = if 1 ≤ t ∧ t < 1 + [Value.int .i64 0].length then [Value.int .i64 0][t - 1]? else (pairL (p, g))[t]? := by
  intro t ht
  obtain rfl | rfl : t = 0 ∨ t = 1 := by omega
  all_goals rfl
set_option maxRecDepth 100000 in
set_option maxHeartbeats 16000000 in
theorem rdYield_any (h : StH) (s : St) (m : Int) (r : St × Int) (hrr : s.yield m = r) (w : World) (hk : StOk w h s) (hf : StFew s) : Calls Try.prog 20 #[stV h s, .int .i64 m] w (StRes w r) := by
  have HRS := Lib.hid hrr
  clear hrr
  have HF := Lib.hid hf
  have HK := Lib.hid hk
  obtain ⟨W0, hW0⟩ : ∃ W0, w.heap.size = W0 := ⟨_, rfl⟩
  obtain ⟨R, hR⟩ : ∃ R, W0 + 1 = R := ⟨_, rfl⟩
  obtain ⟨w2, hw2⟩ : ∃ w2, (w.alloc (.cells #[.slice h.pa s.prog.length h.pc, .slice h.ga s.gs.length h.gc, .slice h.qa s.ps.length h.qc, .slice h.ma s.ms.length h.mc, .slice h.la s.glob.length h.lc, .int .i64 s.c0, .int .i64 s.c1, .int .i64 s.c2, .int .i64 s.c3, .slice h.a0 s.w0.length h.k0, .slice h.a1 s.w1.length h.k1, .slice h.a2 s.w2.length h.k2, .slice h.a3 s.w3.length h.k3, .slice h.ta s.timers.length h.tc, .int .i64 s.clock, .int .i64 s.procs] 32)).alloc (.cells #[.slice none 0 0, .slice none 0 0, .slice none 0 0, .slice none 0 0, .slice none 0 0, .int .i64 0, .int .i64 0, .int .i64 0, .int .i64 0, .slice none 0 0, .slice none 0 0, .slice none 0 0, .slice none 0 0, .slice none 0 0, .int .i64 0, .int .i64 0] 32) = w2 := ⟨_, rfl⟩
  have HX1 : Hid (Ext w w2) := Lib.hid (by rw [← hw2]; exact ((Ext.refl w).alloc _).alloc _)
  have HB1 : Hid (w2.heap[W0]? = some (.cells (stC h s) 32 (0, 0))) := Lib.hid (by rw [← hw2, ← hW0]; exact blk_alloc (blk_new w _) _)
  have HR1 : Hid (w2.heap[R]? = some (.cells #[.slice none 0 0, .slice none 0 0, .slice none 0 0, .slice none 0 0, .slice none 0 0, .int .i64 0, .int .i64 0, .int .i64 0, .int .i64 0, .slice none 0 0, .slice none 0 0, .slice none 0 0, .slice none 0 0, .slice none 0 0, .int .i64 0, .int .i64 0] 32 (0, 0))) := Lib.hid (by
    have := blk_new (w.alloc (.cells #[.slice h.pa s.prog.length h.pc, .slice h.ga s.gs.length h.gc, .slice h.qa s.ps.length h.qc, .slice h.ma s.ms.length h.mc, .slice h.la s.glob.length h.lc, .int .i64 s.c0, .int .i64 s.c1, .int .i64 s.c2, .int .i64 s.c3, .slice h.a0 s.w0.length h.k0, .slice h.a1 s.w1.length h.k1, .slice h.a2 s.w2.length h.k2, .slice h.a3 s.w3.length h.k3, .slice h.ta s.timers.length h.tc, .int .i64 s.clock, .int .i64 s.procs] 32)) (.cells #[.slice none 0 0, .slice none 0 0, .slice none 0 0, .slice none 0 0, .slice none 0 0, .int .i64 0, .int .i64 0, .int .i64 0, .int .i64 0, .slice none 0 0, .slice none 0 0, .slice none 0 0, .slice none 0 0, .slice none 0 0, .int .i64 0, .int .i64 0] 32)
    rw [hw2, World.size_alloc, hW0, hR] at this
    exact this)
  have HRR := Lib.hid hR
  have HW0 := Lib.hid hW0
  have HW2 := Lib.hid hw2
  have HK1 := Lib.hid (hk.ext HX1.out)
  clear hk hf hw2 hW0 hR
  obtain ⟨PQ, hPQ⟩ : ∃ PQ : Ending → World → Prop, PQ = StRes w r := ⟨_, rfl⟩
  rw [← hPQ]
  have HPQ := Lib.hid hPQ
  clear hPQ
  unfold stV
  go_enter Try.func20, Try.ntmps20
  go_upto_region 1 with fail
  rw [HW2.out, HW0.out, HRR.out]
  generalize Value.agg #[.slice h.pa s.prog.length h.pc, .slice h.ga s.gs.length h.gc, .slice h.qa s.ps.length h.qc, .slice h.ma s.ms.length h.mc, .slice h.la s.glob.length h.lc, .int .i64 s.c0, .int .i64 s.c1, .int .i64 s.c2, .int .i64 s.c3, .slice h.a0 s.w0.length h.k0, .slice h.a1 s.w1.length h.k1, .slice h.a2 s.w2.length h.k2, .slice h.a3 s.w3.length h.k3, .slice h.ta s.timers.length h.tc, .int .i64 s.clock, .int .i64 s.procs] = sv0
  go_wp2_with (refine wpList_load_rowW (by rfl) 32 _ rfl W0 (by go_simp) (stL h s) (stV h s) rfl _ (range_row HB1.out) Try.underlying32 rfl (by kernel_rfl) ?_)
  refine (sstmay_any h s _ rfl _ HK1.out HF.out).mono ?_
  rintro e wa ⟨rfl, hxa⟩
  have HXA := Lib.hid (HX1.out.trans hxa)
  have HBA := Lib.hid (hxa.blk HB1.out)
  have HRA := Lib.hid (hxa.blk HR1.out)
  clear hxa
  cases bm : s.may with
  | false =>
    have HN : Hid (r = (St.nil, 1)) := Lib.hid (by rw [← HRS.out]; exact St.yield_no (by rw [bm]; simp))
    go_upto_if 40 with fail
    obtain ⟨wf, hwf⟩ : ∃ wf, wa.setCells R 0 (stL StH.nil St.nil) = wf := ⟨_, rfl⟩
    have hfn := fin_nil HRA.out HXA.out (show w.heap.size ≤ R by have := HRR.out; have := HW0.out; omega)
    rw [hwf] at hfn
    have HFN := Lib.hid hfn
    have HWF := Lib.hid hwf
    clear hfn hwf
    go_wp2_with (refine wpList_store_row rfl 32 _ _ rfl R (stL StH.nil St.nil) (stV StH.nil St.nil) rfl rfl rfl HFN.out.2.1 (by kernel_rfl) (stL_one _ _) HWF.out ?_)
    refine bodyPost_cell_tmp rfl R _ _ _ _ rfl HFN.out.1 Try.underlying32 rfl (by kernel_rfl) (.int .i64 1) rfl rfl ?_
    rw [HPQ.out]
    show StRes w _ _ _
    rw [HN.out]
    exact StRes.nil HFN.out.2.2
  | true =>
  have HM := Lib.hid bm
  clear bm
  have q3 := st3 HBA.out
  by_cases a1 : m < 1
  · have HN : Hid (r = (St.nil, 1)) := Lib.hid (by rw [← HRS.out]; exact St.yield_no (by omega))
    go_upto_if 40 with fail
    obtain ⟨wf, hwf⟩ : ∃ wf, wa.setCells R 0 (stL StH.nil St.nil) = wf := ⟨_, rfl⟩
    have hfn := fin_nil HRA.out HXA.out (show w.heap.size ≤ R by have := HRR.out; have := HW0.out; omega)
    rw [hwf] at hfn
    have HFN := Lib.hid hfn
    have HWF := Lib.hid hwf
    clear hfn hwf
    go_wp2_with (refine wpList_store_row rfl 32 _ _ rfl R (stL StH.nil St.nil) (stV StH.nil St.nil) rfl rfl rfl HFN.out.2.1 (by kernel_rfl) (stL_one _ _) HWF.out ?_)
    refine bodyPost_cell_tmp rfl R _ _ _ _ rfl HFN.out.1 Try.underlying32 rfl (by kernel_rfl) (.int .i64 1) rfl rfl ?_
    rw [HPQ.out]
    show StRes w _ _ _
    rw [HN.out]
    exact StRes.nil HFN.out.2.2
  by_cases a2 : (s.ms.length : Int) < m
  · have HN : Hid (r = (St.nil, 1)) := Lib.hid (by rw [← HRS.out]; exact St.yield_no (by omega))
    go_upto_if 40 with fail
    obtain ⟨wf, hwf⟩ : ∃ wf, wa.setCells R 0 (stL StH.nil St.nil) = wf := ⟨_, rfl⟩
    have hfn := fin_nil HRA.out HXA.out (show w.heap.size ≤ R by have := HRR.out; have := HW0.out; omega)
    rw [hwf] at hfn
    have HFN := Lib.hid hfn
    have HWF := Lib.hid hwf
    clear hfn hwf
    go_wp2_with (refine wpList_store_row rfl 32 _ _ rfl R (stL StH.nil St.nil) (stV StH.nil St.nil) rfl rfl rfl HFN.out.2.1 (by kernel_rfl) (stL_one _ _) HWF.out ?_)
    refine bodyPost_cell_tmp rfl R _ _ _ _ rfl HFN.out.1 Try.underlying32 rfl (by kernel_rfl) (.int .i64 1) rfl rfl ?_
    rw [HPQ.out]
    show StRes w _ _ _
    rw [HN.out]
    exact StRes.nil HFN.out.2.2
  obtain ⟨j, rfl⟩ : ∃ j : Nat, m = (j : Int) + 1 := ⟨(m - 1).toNat, by omega⟩
  obtain ⟨⟨mp, mg⟩, hj⟩ : ∃ x, s.ms[j]? = some x := ⟨_, List.getElem?_eq_getElem (by omega)⟩
  have HJ := Lib.hid hj
  have HJL : Hid (j < s.ms.length) := Lib.hid (by omega)
  obtain ⟨bm, om, hA, hb, c0, c1⟩ := frs2_get (HK.out.ext HXA.out).ms hj
  rw [hA] at q3
  have e1 : (j : Int) + 1 - 1 = (j : Int) := by omega
  have e4 : (j : Int) < (s.ms.length : Int) := by omega
  have e5 : (j : Int) < 100000 := by have := HF.out.ms; omega
  simp only at c0 c1
  clear hA hb hj
  by_cases a3 : mp = 0
  · have HN : Hid (r = (St.nil, 1)) := Lib.hid (by rw [← HRS.out]; exact St.yield_no (by rw [St.mAt_of HJ.out]; simp [a3]))
    go_upto_if 40 with fail
    obtain ⟨wf, hwf⟩ : ∃ wf, wa.setCells R 0 (stL StH.nil St.nil) = wf := ⟨_, rfl⟩
    have hfn := fin_nil HRA.out HXA.out (show w.heap.size ≤ R by have := HRR.out; have := HW0.out; omega)
    rw [hwf] at hfn
    have HFN := Lib.hid hfn
    have HWF := Lib.hid hwf
    clear hfn hwf
    go_wp2_with (refine wpList_store_row rfl 32 _ _ rfl R (stL StH.nil St.nil) (stV StH.nil St.nil) rfl rfl rfl HFN.out.2.1 (by kernel_rfl) (stL_one _ _) HWF.out ?_)
    refine bodyPost_cell_tmp rfl R _ _ _ _ rfl HFN.out.1 Try.underlying32 rfl (by kernel_rfl) (.int .i64 1) rfl rfl ?_
    rw [HPQ.out]
    show StRes w _ _ _
    rw [HN.out]
    exact StRes.nil HFN.out.2.2
  by_cases a4 : mg = 0
  · have HN : Hid (r = (St.nil, 1)) := Lib.hid (by rw [← HRS.out]; exact St.yield_no (by rw [St.mAt_of HJ.out]; simp [a4]))
    go_upto_if 40 with fail
    obtain ⟨wf, hwf⟩ : ∃ wf, wa.setCells R 0 (stL StH.nil St.nil) = wf := ⟨_, rfl⟩
    have hfn := fin_nil HRA.out HXA.out (show w.heap.size ≤ R by have := HRR.out; have := HW0.out; omega)
    rw [hwf] at hfn
    have HFN := Lib.hid hfn
    have HWF := Lib.hid hwf
    clear hfn hwf
    go_wp2_with (refine wpList_store_row rfl 32 _ _ rfl R (stL StH.nil St.nil) (stV StH.nil St.nil) rfl rfl rfl HFN.out.2.1 (by kernel_rfl) (stL_one _ _) HWF.out ?_)
    refine bodyPost_cell_tmp rfl R _ _ _ _ rfl HFN.out.1 Try.underlying32 rfl (by kernel_rfl) (.int .i64 1) rfl rfl ?_
    rw [HPQ.out]
    show StRes w _ _ _
    rw [HN.out]
    exact StRes.nil HFN.out.2.2
  obtain ⟨k, y, hgk, hy⟩ := St.may_onM HM.out HJ.out a3 a4
  have HY := Lib.hid hy
  have HYQ := Lib.hid (St.may_seq HM.out hy)
  have HYL := Lib.hid (List.getElem?_eq_some_iff.1 hy).1
  have HGK := Lib.hid hgk
  have HP0 := Lib.hid a3
  have d1 : decide ((j : Int) + 1 < 1) = false := decide_eq_false (by omega)
  have d2 : decide ((s.ms.length : Int) < (j : Int) + 1) = false := decide_eq_false (by omega)
  have d3 : (mp == 0) = false := by simpa using a3
  have d4 : (mg == 0) = false := by simpa using a4
  clear hy hgk a1 a2
  go_upto_if 40 with fail
  clear c0 c1 q3 a3 a4
  have HLD := Lib.hid (HBA.out)
  go_wp2_with (refine wpList_load_rowW (by rfl) 32 _ rfl W0 (by go_simp) (stL h s) (stV h s) rfl _ (range_row HLD.out) Try.underlying32 rfl (by kernel_rfl) ?_)
  refine (sCopy_any h s _ (HK.out.ext HXA.out) HF.out).mono ?_
  rintro e w3 ⟨h1, L, rfl, ho, hL, hx⟩
  obtain ⟨w4, hw4⟩ : ∃ w4, w3.setCells W0 0 (stL h1 s) = w4 := ⟨_, rfl⟩
  have hst := Sit.start (w := w) rfl HXA.out HLD.out (HRA.out) hx (ho.apart hL) (by have := HRR.out; omega) (by have := HW0.out; omega) (by have := HW0.out; have := HRR.out; omega)
  rw [hw4] at hst
  have HTH := Lib.hid hst.1
  have S4 := Lib.hid hst.2
  have HW4 := Lib.hid hw4
  have HX3 := Lib.hid hx
  have HU4 : Hid (Upd W0 w3 w4) := Lib.hid (by rw [← hw4]; exact setCells_upd _ _ _ _)
  clear ho hL hx hst hw4 HLD
  go_upto_region 4 with (refine wpList_store_row rfl 32 _ _ rfl W0 (stL h1 s) (stV h1 s) (by go_simp) (by go_simp) rfl HTH.out (by kernel_rfl) (stL_one _ _) HW4.out ?_)
  clear d1 d2 d3 d4
  obtain ⟨bn, hma, hmb, hrg⟩ := S4.out.getM HJ.out
  have q3 : w4.cell? ⟨W0, 3, none⟩ = some (.slice (some ⟨bn, 0, none⟩) s.ms.length h1.mc) := by rw [← hma]; have := st3 S4.out.box; exact this
  have r0 : w4.cell? ⟨bn, j * 2 + 1, none⟩ = some (.int .i64 mg) := hrg 1 _ rfl
  have hst5 := S4.out.setM' HJ.out hma (x' := (mp, 0)) (j := 1) (ds := [.int .i64 0]) (by decide) (pair_zero mp mg)
  have r1 := (hst5.1 0 (by decide)).2
  rw [Nat.add_zero] at r1
  obtain ⟨w5, hw5⟩ : ∃ w5, w4.setCell ⟨bn, j * 2 + 1, none⟩ (.int .i64 0) = w5 := ⟨_, rfl⟩
  have S5 := Lib.hid hst5.2
  rw [show w4.setCells bn (j * 2 + 1) [.int .i64 0] = w5 from hw5] at S5
  have HW5 := Lib.hid hw5
  clear hma hrg hst5 hw5
  go_upto_region 6 with (rw [HW5.out])
  clear q3 r0 r1
  obtain ⟨bg, hga, hgb, hrgg⟩ := S5.out.getG HY.out
  have hst6 := S5.out.setG' HY.out hga (x' := { y with st := 1, m := 0, seq := y.seq + 1 }) (j := 2) (ds := [.int .i64 1, .int .i64 0, .int .i64 (y.seq + 1)]) (by simp) (gL_turn y)
  go_wp2_with fail
  refine (srun_any W0 bg k mg h1 { s with ms := s.ms.set j (mp, 0) } y w5 HGK.out S5.out.box hga HYL.out HF.out.gs hrgg hst6.1 (by have := HYQ.out; omega)).mono ?_
  rintro e w6 ⟨rfl, hw6⟩
  have S6 := Lib.hid hst6.2
  rw [← hw6] at S6
  clear hst6 hw6 hga hrgg
  obtain ⟨I6, ha6⟩ := S6.out.ap
  have q4 : w6.cell? ⟨W0, 4, none⟩ = some (.slice h1.la s.glob.length h1.lc) := by have := st4 S6.out.box; exact this
  have hlo6 := ha6.low 4 (by omega)
  have hgf := HF.out.glob
  obtain ⟨A7, c7, w7, hr7, hq7⟩ := GlobQ.more (n := s.glob.length) (m := [mg]) ((GlobQ.start (v := w6) (B4 := (I6 4).1) (u0 := .slice h1.la s.glob.length h1.lc) (l := s.glob) ha6.glob.1).ext ((Ext.refl w6).alloc (.cells #[.int .i64 mg] 3))) rfl rfl (ints_one w6 mg) (by omega) (by show s.glob.length + 1 ≤ _; omega)
  have hsg := S6.out.globQ ha6 hq7 (by rw [List.length_append])
  obtain ⟨w8, hw8⟩ : ∃ w8, w7.setCell ⟨W0, 4, none⟩ (.slice A7 (s.glob.length + 1) c7) = w8 := ⟨_, rfl⟩
  obtain ⟨h2, hh2⟩ : ∃ h2 : StH, { h1 with la := A7, lc := c7 } = h2 := ⟨_, rfl⟩
  obtain ⟨s', hs'⟩ : ∃ s' : St, { s with ms := s.ms.set j (mp, 0), gs := s.gs.set k { y with st := 1, m := 0, seq := y.seq + 1 }, glob := s.glob ++ [(k : Int) + 1] } = s' := ⟨_, rfl⟩
  have HE : Hid (r = (s', 0)) := Lib.hid (by rw [← HRS.out, ← hs']; exact St.yield_yes HM.out (HGK.out ▸ HJ.out) HP0.out HY.out)
  have hsit := hsg.2.2
  simp only [List.length_singleton] at hsit hr7
  rw [hw8, hh2] at hsit
  have S8 : Hid (Sit w W0 R wa.heap.size w8 h2 s') := Lib.hid (by rw [← hs', ← HGK.out]; exact hsit)
  have HW8 := Lib.hid hw8
  have HR7 := Lib.hid hr7
  have q5 : w7.cell? ⟨W0, 4, none⟩ = some (.slice h1.la s.glob.length h1.lc) := hsg.1
  have q6 := hsg.2.1
  clear hsg hsit hh2 hw8 ha6 hq7 hlo6 hgf hr7 hs'
  go_upto_region 8 with (first | (at_builtin; refine wpList_append_run rfl _ _ 27 rfl _ _ (by go_simp) (by go_simp) HR7.out ?_) | rw [HW8.out])
  clear q4 q5 q6
  obtain ⟨wf, hwf⟩ : ∃ wf, w8.setCells R 0 (stL h2 s') = wf := ⟨_, rfl⟩
  have HWF := Lib.hid hwf
  have hfi := S8.out.fin
  rw [hwf] at hfi
  have HFI := Lib.hid hfi
  have HTR := Lib.hid (S8.out.there (h' := h2) (s' := s'))
  clear hwf hfi
  go_wp2_with (first | (refine wpList_load_rowW (by rfl) 32 _ rfl W0 (by go_simp) (stL h2 s') (stV h2 s') rfl _ (range_row S8.out.box) Try.underlying32 rfl (by kernel_rfl) ?_) | (refine wpList_store_row rfl 32 _ _ rfl R (stL h2 s') (stV h2 s') (by go_simp) (by go_simp) rfl HTR.out (by kernel_rfl) (stL_one _ _) HWF.out ?_))
  refine bodyPost_cell_tmp rfl R _ _ _ _ rfl HFI.out.1 Try.underlying32 rfl (by kernel_rfl) (.int .i64 0) rfl rfl ?_
  rw [HPQ.out]
  show StRes w _ _ _
  rw [HE.out]
  exact ⟨h2, rfl, HFI.out.2.1, HFI.out.2.2⟩
theorem OwnRows.cutTo {α : Type} {e : TypeId} {m : Nat} {f : α → List Value} {w : World} {B g n c : Nat} {ys : List α} (hf : ∀ x, (f x).length = m) (h : OwnRows e m f w B (.slice (some ⟨g, 0, none⟩) n c) ys) {i : Nat} (hi : i ≤ ys.length) {zs : List Value} (hz : zs.length = (ys.length - i) * m) :
    OwnRows e m f (w.setCells g (i * m) zs) B (.slice (some ⟨g, 0, none⟩) i c) (ys.take i) ∧ Upd g w (w.setCells g (i * m) zs) := by
  have hmi : i * m ≤ ys.length * m := Nat.mul_le_mul_right _ hi
  rcases h.2 with ⟨e1, _⟩ | ⟨g', cap, cur, hv, hb, hg, hnc, hcm, hcs, htake⟩
  · cases e1
  · simp only [Value.slice.injEq, Option.some.injEq, Addr.mk.injEq, and_true] at hv
    obtain ⟨rfl, rfl, rfl⟩ := hv
    have hmc : ys.length * m ≤ c * m := Nat.mul_le_mul_right _ hnc
    have hlt : i * m + zs.length ≤ cur.size := by
      rw [hz, hcs, Nat.sub_mul]
      omega
    obtain ⟨cs', h1, h2, h3⟩ := setCells_mid zs w cur (i * m) hg hlt
    have hl : (ys.take i).length = i := by rw [List.length_take]; omega
    refine ⟨⟨by rw [flatMap_len hf], .inr ⟨g, c, cs', by rw [hl], hb, h1, by omega, hcm, h2.trans hcs, ?_⟩⟩, setCells_upd _ _ _ _⟩
    rw [hl]
    apply List.ext_getElem?
    intro t
    by_cases ht : t < i * m
    · rw [List.getElem?_take, if_pos ht, Array.getElem?_toList, h3 t, if_neg (by omega)]
      have hm : 0 < m := Nat.pos_of_ne_zero fun e => by subst e; omega
      have hq : t / m < i := Nat.div_lt_of_lt_mul (by rw [Nat.mul_comm]; exact ht)
      have hr : t % m < m := Nat.mod_lt _ hm
      have hjj : t / m * m + t % m = t := by rw [Nat.mul_comm]; exact Nat.div_add_mod t m
      have hy : ys[t / m]? = some ys[t / m] := List.getElem?_eq_getElem (by omega)
      have k1 := flatMap_get hf ys (t / m) _ hy (t % m) _ (List.getElem?_eq_getElem (by rw [hf]; exact hr))
      have k2 := flatMap_get hf (ys.take i) (t / m) _ (by rw [List.getElem?_take, if_pos hq]; exact hy) (t % m) _ (List.getElem?_eq_getElem (by rw [hf]; exact hr))
      rw [hjj] at k1 k2
      rw [k2, ← k1, ← htake, List.getElem?_take, if_pos (by omega), Array.getElem?_toList]
    · rw [List.getElem?_take, if_neg ht, List.getElem?_eq_none (by rw [flatMap_len hf, hl]; omega)]
theorem there_own {α : Type} {e : TypeId} {m : Nat} {f : α → List Value} {w : World} {B g n c : Nat} {ys : List α} (h : OwnRows e m f w B (.slice (some ⟨g, 0, none⟩) n c) ys) {i k : Nat} (hi : i + k ≤ ys.length * m) : w.there g i k := fun j hj => by
  rcases h.2 with ⟨e1, _⟩ | ⟨g', cap, cur, hv, hb, hg, hnc, hcm, hcs, htake⟩
  · cases e1
  · simp only [Value.slice.injEq, Option.some.injEq, Addr.mk.injEq, and_true] at hv
    obtain ⟨rfl, rfl, rfl⟩ := hv
    have hmc : ys.length * m ≤ c * m := Nat.mul_le_mul_right _ hnc
    exact ⟨by rw [blk_cell hg _ _ (Array.getElem?_eq_getElem (by omega))]; rfl, frozen_of_row _ _ _ _ _ hg⟩
theorem zeroCells_len (z : Array Value) (n : Nat) : (Builtin.zeroCells z n).toList.length = n * z.size := by simp [Builtin.zeroCells]
theorem zeroCells_one {z : Array Value} (h1 : ∀ u ∈ z.toList, u.oneCell' = true) (n : Nat) : ∀ u ∈ (Builtin.zeroCells z n).toList, u.oneCell' = true := by
  intro u hu
  simp only [Builtin.zeroCells, Array.toList_map, List.mem_map, Array.mem_toList_iff, Array.mem_range] at hu
  obtain ⟨i, hi, rfl⟩ := hu
  have hz : 0 < z.size := Nat.pos_of_ne_zero fun e => by rw [e] at hi; omega
  have hlt : i % z.size < z.size := Nat.mod_lt _ hz
  rw [getElem!_pos z (i % z.size) hlt]
  exact h1 _ (Array.mem_toList_iff.2 (Array.getElem_mem hlt))
theorem run_clear_rows {P : Program} (w : World) (t e : TypeId) (z : Value) (m : Nat) (ht : P.underlying t = some (.slice e)) (hv : ∀ w, (zeroValue e).run P w = .ok z w) (hz : z.cells.size = m) (h1 : ∀ u ∈ z.cells.toList, u.oneCell' = true) (b o n c : Nat) (hn : 0 < n) (hth : w.there b o (n * m)) :
    ∃ zs, zs.length = n * m ∧ ∀ ty, (Builtin.clear_ #[t] ty #[.slice (some ⟨b, o, none⟩) n c]).run P w = .ok (.tuple #[]) (w.setCells b o zs) := by
  refine ⟨(Builtin.zeroCells z.cells n).toList, by rw [zeroCells_len, hz], fun ty => ?_⟩
  have hst := run_storeCells_cells (P := P) b o (Builtin.zeroCells z.cells n).toList 0 w (by rw [zeroCells_len, hz]; intro j hj; simpa using (hth j hj).1) (by rw [zeroCells_len, hz]; intro j hj; simpa using (hth j hj).2) (zeroCells_one h1 n)
  simp only [Nat.add_zero] at hst
  obtain ⟨k, rfl⟩ : ∃ k, n = k + 1 := ⟨n - 1, by omega⟩
  simp [Builtin.clear_, run_underlying ht, hv, hst]
theorem del_keep {α : Type} {p : α → Bool} {xs ys : List α} {i j : Nat} {x : α} (h1 : ys.take i = (xs.take j).filter p) (h2 : ys.drop j = xs.drop j) (hij : i < j) (hl : ys.length = xs.length) (hx : xs[j]? = some x) (hp : p x = true) : (ys.set i x).take (i + 1) = (xs.take (j + 1)).filter p ∧ (ys.set i x).drop (j + 1) = xs.drop (j + 1) ∧ (ys.set i x).length = xs.length := by
  have hjl := (List.getElem?_eq_some_iff.1 hx).1
  refine ⟨?_, ?_, by rw [List.length_set, hl]⟩
  · rw [List.take_add_one, List.getElem?_set_self (by omega), List.take_set_of_le (Nat.le_refl i), h1, List.take_add_one, hx, List.filter_append]
    simp [hp]
  · rw [List.drop_set_of_lt (by omega), ← List.drop_drop, ← List.drop_drop, h2]
theorem del_skip {α : Type} {p : α → Bool} {xs ys : List α} {i j : Nat} {x : α} (h1 : ys.take i = (xs.take j).filter p) (h2 : ys.drop j = xs.drop j) (hx : xs[j]? = some x) (hp : p x = false) : ys.take i = (xs.take (j + 1)).filter p ∧ ys.drop (j + 1) = xs.drop (j + 1) := by
  refine ⟨?_, by rw [← List.drop_drop, ← List.drop_drop, h2]⟩
  rw [h1, List.take_add_one, hx, List.filter_append]
  simp [hp]
theorem ints_rows {w : World} {B : Nat} {v : Value} {xs : List Int} : OwnInts w B v xs ↔ OwnRows 3 1 numL w B v xs := by
  unfold OwnInts OwnRows
  have : intsV xs = xs.flatMap numL := by
    unfold intsV
    induction xs with
    | nil => rfl
    | cons x xs ih => rw [List.map_cons, List.flatMap_cons, ih]; rfl
  rw [this]
theorem tsize_run : ∀ w, (sizeOf 76).run Try.prog w = .ok 2 w := fun w => by kernel_rfl
theorem cut1_to (A : Option Addr) (n c k : Nat) (h1 : k ≤ n) (h2 : n ≤ c) (v : World) : (Instr.slice 27 (.slice A n c) none (some (.int .i64 k)) none).run Try.prog v = .ok (.slice A k c) v := irun_to A n c k h1 h2 v
theorem cut1_from (g n c k : Nat) (h1 : k < n) (h2 : n ≤ c) (v : World) : (Instr.slice 27 (.slice (some ⟨g, 0, none⟩) n c) (some (.int .i64 k)) none none).run Try.prog v = .ok (.slice (some ⟨g, k * 1, none⟩) (n - k) (c - k)) v := by
  rw [irun_from _ _ _ _ (Nat.le_of_lt h1) h2]
  unfold advK
  rw [if_neg (by omega)]
  simp [Addr.add]
  try omega
theorem cut2_to (A : Option Addr) (n c k : Nat) (h1 : k ≤ n) (h2 : n ≤ c) (v : World) : (Instr.slice 30 (.slice A n c) none (some (.int .i64 k)) none).run Try.prog v = .ok (.slice A k c) v := by
  have hk : (k : Int) ≤ (c : Int) := by omega
  simp [Instr.slice, run_underlying Try.underlying30, Instr.sliceBounds, Instr.sliceBound, asIntOf, hk, tsize_run]
  rw [if_pos (by omega)]
  have hA' : (if c = 0 then A else Option.map (fun x => x.add 0) A) = A := by cases A <;> simp [Addr.add]
  rw [hA']
theorem cut2_from (g n c k : Nat) (h1 : k < n) (h2 : n ≤ c) (v : World) : (Instr.slice 30 (.slice (some ⟨g, 0, none⟩) n c) (some (.int .i64 k)) none none).run Try.prog v = .ok (.slice (some ⟨g, k * 2, none⟩) (n - k) (c - k)) v := by
  have hk : (k : Int) ≤ (n : Int) := by omega
  simp [Instr.slice, run_underlying Try.underlying30, Instr.sliceBounds, Instr.sliceBound, asIntOf, hk, tsize_run]
  rw [if_pos (Nat.le_of_lt h1), if_neg (by omega)]
  simp [Addr.add]
  try omega
theorem wclo1_any (x g : Int) (G : Nat) (r : Bool) (hr : (x == g) = r) (w : World) (hG : w.cell? ⟨G, 0, none⟩ = some (.int .i64 g)) : Calls Try.prog 52 #[.int .i64 x, .pointer (some ⟨G, 0, none⟩)] w fun e w' => e = .returned (.bool r) ∧ Ext w w' := by
  go_enter Try.func52, Try.ntmps52
  go_wp2
  go_ret
  exact ⟨by rw [← hr] <;> rfl, Ext.refl _⟩
theorem wclo2_any (x : Int × Int) (g : Int) (G : Nat) (r : Bool) (hr : (x.2 == g) = r) (w : World) (hG : w.cell? ⟨G, 0, none⟩ = some (.int .i64 g)) (hlt : G < w.heap.size) : Calls Try.prog 54 #[.agg #[.int .i64 x.1, .int .i64 x.2], .pointer (some ⟨G, 0, none⟩)] w fun e w' => e = .returned (.bool r) ∧ Ext w w' := by
  obtain ⟨w1, hw1⟩ : ∃ w1, w.alloc (.cells #[.int .i64 x.1, .int .i64 x.2] 76) = w1 := ⟨_, rfl⟩
  have hx : Ext w w1 := by rw [← hw1]; exact (Ext.refl w).alloc _
  have hb : w1.heap[w.heap.size]? = some (.cells #[.int .i64 x.1, .int .i64 x.2] 76 (0, 0)) := by rw [← hw1]; exact blk_new w _
  have hG1 : w1.cell? ⟨G, 0, none⟩ = some (.int .i64 g) := by rw [Below.cell (p := ⟨G, 0, none⟩) hx hlt]; exact hG
  have h1 := blk_cell hb 1 _ rfl
  have HX := Lib.hid hx
  have HR := Lib.hid hr
  have HW := Lib.hid hw1
  clear hx hb hG hr hw1 hlt
  go_enter Try.func54, Try.ntmps54
  go_upto_region 1 with fail
  rw [HW.out]
  go_wp2
  go_ret
  exact ⟨by rw [← HR.out] <;> rfl, HX.out⟩
set_option maxRecDepth 100000 in
set_option maxHeartbeats 2000000 in
theorem idxf1_any (A : Option Addr) (c : Nat) (l : List Int) (g : Int) (G : Nat) (w : World) (h : IntsAt w (.slice A l.length c) l) (hl : l.length ≤ 100000000) (hG : w.cell? ⟨G, 0, none⟩ = some (.int .i64 g)) (hGl : G < w.heap.size) :
    Calls Try.prog 110 #[.slice A l.length c, .func (.func 52) #[] #[.pointer (some ⟨G, 0, none⟩)]] w fun e w' => ∃ i : Int, e = .returned (.int .i64 i) ∧ ((i = -1 ∧ ∀ (j : Nat) x, l[j]? = some x → x ≠ g) ∨ ∃ k : Nat, i = (k : Int) ∧ (∃ x, l[k]? = some x ∧ x = g) ∧ ∀ (j : Nat) x, l[j]? = some x → j < k → x ≠ g) ∧ Ext w w' := by
  have H := Lib.hid h
  have HG := Lib.hid hG
  have HGL := Lib.hid hGl
  have hl' : (l.length : Int) ≤ 100000000 := by omega
  clear h hG hGl
  go_enter Try.func110, Try.ntmps110
  go_wp2_with fail
  go_loopw [8] (fun iv wr => ∃ k : Nat, k ≤ l.length ∧ iv = .int .i64 k ∧ (∀ (j : Nat) x, l[j]? = some x → j < k → x ≠ g) ∧ Ext w wr) (fun iv _ => l.length - (intOf iv).toNat)
  case atStart => exact ⟨0, Nat.zero_le _, rfl, fun j x _ h => by omega, Ext.refl _⟩
  case round =>
    obtain ⟨k, hk, rfl, hall, hx⟩ := hrel
    have HA := Lib.hid hall
    have HX := Lib.hid hx
    clear hall hx
    by_cases hlt : k < l.length
    · obtain ⟨x, hx⟩ : ∃ x, l[k]? = some x := ⟨_, List.getElem?_eq_getElem hlt⟩
      have HXK := Lib.hid hx
      have hcl := wclo1_any x g G _ rfl wr (by rw [Below.cell (p := ⟨G, 0, none⟩) HX.out HGL.out]; exact HG.out)
      have HCL := Lib.hid hcl
      obtain ⟨b, o, rfl, hb, hc⟩ := ints_get (H.out.ext HX.out) hx
      clear hx hb hcl
      go_wp2_with fail
      refine HCL.out.mono ?_
      rintro e wa ⟨rfl, hxa⟩
      have HXA := Lib.hid (HX.out.trans hxa)
      clear hxa hc
      by_cases h1 : x = g
      · have HN := Lib.hid h1
        have h1' : (x == g) = true := by simpa using h1
        clear h1
        go_wp2
        go_ret
        exact ⟨k, rfl, .inr ⟨k, rfl, ⟨x, HXK.out, HN.out⟩, HA.out⟩, HXA.out⟩
      · have h1' : (x == g) = false := by simpa using h1
        have HN := Lib.hid h1
        clear h1
        go_wp2
        go_roundw
        case rel =>
          refine ⟨k + 1, by omega, by go_num, fun j y hy hj => ?_, HXA.out⟩
          by_cases hjk : j < k
          · exact HA.out j y hy hjk
          · obtain rfl : j = k := by omega
            have := HXK.out
            rw [hy] at this
            injection this with this
            rw [this]
            exact HN.out
        case measure => simp [intOf]; omega
    · obtain rfl : k = l.length := by omega
      go_wp2
      go_ret
      exact ⟨-1, rfl, .inl ⟨rfl, fun j x hj => HA.out j x hj (List.getElem?_eq_some_iff.1 hj).1⟩, HX.out⟩
set_option maxRecDepth 100000 in
set_option maxHeartbeats 2000000 in
theorem idxf2_any (A : Option Addr) (c : Nat) (l : List (Int × Int)) (g : Int) (G : Nat) (w : World) (h : RowsAt 2 pairL w (.slice A l.length c) l) (hl : l.length ≤ 100000000) (hG : w.cell? ⟨G, 0, none⟩ = some (.int .i64 g)) (hGl : G < w.heap.size) :
    Calls Try.prog 111 #[.slice A l.length c, .func (.func 54) #[] #[.pointer (some ⟨G, 0, none⟩)]] w fun e w' => ∃ i : Int, e = .returned (.int .i64 i) ∧ ((i = -1 ∧ ∀ (j : Nat) x, l[j]? = some x → x.2 ≠ g) ∨ ∃ k : Nat, i = (k : Int) ∧ (∃ x, l[k]? = some x ∧ x.2 = g) ∧ ∀ (j : Nat) x, l[j]? = some x → j < k → x.2 ≠ g) ∧ Ext w w' := by
  have H := Lib.hid h
  have HG := Lib.hid hG
  have HGL := Lib.hid hGl
  have hl' : (l.length : Int) ≤ 100000000 := by omega
  clear h hG hGl
  go_enter Try.func111, Try.ntmps111
  go_wp2_with fail
  go_loopw [8] (fun iv wr => ∃ k : Nat, k ≤ l.length ∧ iv = .int .i64 k ∧ (∀ (j : Nat) x, l[j]? = some x → j < k → x.2 ≠ g) ∧ Ext w wr) (fun iv _ => l.length - (intOf iv).toNat)
  case atStart => exact ⟨0, Nat.zero_le _, rfl, fun j x _ h => by omega, Ext.refl _⟩
  case round =>
    obtain ⟨k, hk, rfl, hall, hx⟩ := hrel
    have HA := Lib.hid hall
    have HX := Lib.hid hx
    clear hall hx
    by_cases hlt : k < l.length
    · obtain ⟨x, hx⟩ : ∃ x, l[k]? = some x := ⟨_, List.getElem?_eq_getElem hlt⟩
      have HXK := Lib.hid hx
      have hcl := wclo2_any x g G _ rfl wr (by rw [Below.cell (p := ⟨G, 0, none⟩) HX.out HGL.out]; exact HG.out) (by have := HX.out.size; have := HGL.out; omega)
      have HCL := Lib.hid hcl
      obtain ⟨b, o, rfl, hb, hc, hc2⟩ := frs2_get (H.out.ext HX.out) hx
      clear hx hb hcl
      go_wp2_with fail
      refine HCL.out.mono ?_
      rintro e wa ⟨rfl, hxa⟩
      have HXA := Lib.hid (HX.out.trans hxa)
      clear hxa hc hc2
      by_cases h1 : x.2 = g
      · have HN := Lib.hid h1
        have h1' : (x.2 == g) = true := by simpa using h1
        clear h1
        go_wp2
        go_ret
        exact ⟨k, rfl, .inr ⟨k, rfl, ⟨x, HXK.out, HN.out⟩, HA.out⟩, HXA.out⟩
      · have h1' : (x.2 == g) = false := by simpa using h1
        have HN := Lib.hid h1
        clear h1
        go_wp2
        go_roundw
        case rel =>
          refine ⟨k + 1, by omega, by go_num, fun j y hy hj => ?_, HXA.out⟩
          by_cases hjk : j < k
          · exact HA.out j y hy hjk
          · obtain rfl : j = k := by omega
            have := HXK.out
            rw [hy] at this
            injection this with this
            rw [this]
            exact HN.out
        case measure => simp [intOf]; omega
    · obtain rfl : k = l.length := by omega
      go_wp2
      go_ret
      exact ⟨-1, rfl, .inl ⟨rfl, fun j x hj => HA.out j x hj (List.getElem?_eq_some_iff.1 hj).1⟩, HX.out⟩
theorem filter_none {α : Type} {p : α → Bool} {l : List α} (h : ∀ (j : Nat) x, l[j]? = some x → p x = true) : l.filter p = l :=
  List.filter_eq_self.2 fun x hx => by obtain ⟨j, hj⟩ := List.mem_iff_getElem?.1 hx; exact h j x hj
theorem filter_first {α : Type} {p : α → Bool} {l : List α} {k : Nat} {x : α} (hx : l[k]? = some x) (hp : p x = false) (h : ∀ (j : Nat) y, l[j]? = some y → j < k → p y = true) : l.take k = (l.take (k + 1)).filter p := by
  rw [List.take_add_one, hx, List.filter_append, filter_none (l := l.take k)]
  · simp [hp]
  · intro j y hj
    rw [List.getElem?_take] at hj
    split at hj
    · exact h j y hj (by assumption)
    · cases hj
theorem own_block {α : Type} {e : TypeId} {m : Nat} {f : α → List Value} {w : World} {B : Nat} {A : Option Addr} {n c : Nat} {xs : List α} (h : OwnRows e m f w B (.slice A n c) xs) (h0 : 0 < xs.length) : ∃ b, A = some ⟨b, 0, none⟩ ∧ B ≤ b ∧ b < w.heap.size ∧ n = xs.length ∧ xs.length ≤ c := by
  rcases h.2 with ⟨_, h1⟩ | ⟨g, cap, cur, hv, hb, hg, hnc, _⟩
  · omega
  · simp only [Value.slice.injEq] at hv
    obtain ⟨rfl, rfl, rfl⟩ := hv
    exact ⟨g, rfl, hb, blk_lt hg, rfl, hnc⟩
set_option maxRecDepth 100000 in
set_option maxHeartbeats 4000000 in
theorem delf1_any (A : Option Addr) (c : Nat) (l : List Int) (g : Int) (G B : Nat) (w : World) (ho : OwnRows 3 1 numL w B (.slice A l.length c) l) (hl : l.length ≤ 1000000) (hG : w.cell? ⟨G, 0, none⟩ = some (.int .i64 g)) (hGB : G < B) (hB : B ≤ w.heap.size) :
    Calls Try.prog 51 #[.slice A l.length c, .func (.func 52) #[] #[.pointer (some ⟨G, 0, none⟩)]] w fun e w' => e = .returned (.slice A (l.filter (fun x => x != g)).length c) ∧ OwnRows 3 1 numL w' B (.slice A (l.filter (fun x => x != g)).length c) (l.filter (fun x => x != g)) ∧ But (fun b => (Value.slice A l.length c).ownBlock = some b) w w' := by
  have HO := Lib.hid ho
  have HG := Lib.hid hG
  have HGB := Lib.hid hGB
  have HBB := Lib.hid hB
  have HIX := Lib.hid (idxf1_any A c l g G w (ints_rows.2 ho).at.2 (by omega) hG (by omega))
  clear ho hG hGB hB
  go_enter Try.func51, Try.ntmps51
  go_wp2_with fail
  refine HIX.out.mono ?_
  rintro e w1 ⟨i0, rfl, hcase, hx1⟩
  clear HIX
  have HX1 := Lib.hid hx1
  clear hx1
  rcases hcase with ⟨rfl, hno⟩ | ⟨k, rfl, ⟨x, hxk, hxg⟩, hbef⟩
  · have HF : Hid (l.filter (fun x => x != g) = l) := Lib.hid (filter_none fun j x hj => by simpa using hno j x hj)
    clear hno
    go_wp2
    go_ret
    rw [HF.out]
    exact ⟨rfl, HO.out.ext HX1.out, But.ext HX1.out⟩
  · have hkl := (List.getElem?_eq_some_iff.1 hxk).1
    obtain ⟨b, rfl, hbB, hbw, _, hlc⟩ := own_block HO.out (by omega)
    have HBL : Hid (B ≤ b ∧ b < w.heap.size ∧ l.length ≤ c) := Lib.hid ⟨hbB, hbw, hlc⟩
    have HST : Hid (l.take k = (l.take (k + 1)).filter (fun x => x != g)) := Lib.hid (filter_first hxk (by simp [hxg]) fun j y hj hjk => by simpa using hbef j y hj hjk)
    have hb1 : (k : Int) < 1000000 := by omega
    have hneg : ((k : Int) == -1) = false := by rw [beq_eq_false_iff_ne]; omega
    clear hxk hxg hbef hbB hbw hlc
    go_wp2_with fail
    clear hneg
    go_loopw [5, 6] (fun iv jv wr => ∃ (i j : Nat) (ys : List Int), iv = .int .i64 i ∧ jv = .int .i64 j ∧ i < j ∧ j ≤ l.length ∧ OwnRows 3 1 numL wr B (.slice (some ⟨b, 0, none⟩) l.length c) ys ∧ ys.take i = (l.take j).filter (fun x => x != g) ∧ ys.drop j = l.drop j ∧ ys.length = l.length ∧ But (fun x => x = b) w wr) (fun _ jv _ => l.length - (intOf jv).toNat)
    case atStart => exact ⟨k, k + 1, l, rfl, by go_num, by omega, by omega, HO.out.ext HX1.out, HST.out, rfl, rfl, But.ext HX1.out⟩
    case round =>
      obtain ⟨i, j, ys, rfl, rfl, hij, hj, hown, htk, hdr, hyl, hbt⟩ := hrel
      have HOW := Lib.hid hown
      have HTK := Lib.hid htk
      have HDR := Lib.hid hdr
      have HYL := Lib.hid hyl
      have HBT := Lib.hid hbt
      clear hown htk hdr hyl hbt
      by_cases hlt : j < l.length
      · obtain ⟨x, hx⟩ : ∃ x, l[j]? = some x := ⟨_, List.getElem?_eq_getElem hlt⟩
        have hyx : ys[j]? = some x := by
          have h1 : (ys.drop j)[0]? = (l.drop j)[0]? := by rw [HDR.out]
          rw [List.getElem?_drop, List.getElem?_drop, Nat.add_zero] at h1
          rw [h1]; exact hx
        have hyl := HYL.out
        obtain ⟨b', o', hbo, _, hgt⟩ := (OwnRows.rows numL_len HOW.out).get hyx
        simp only [Option.some.injEq, Addr.mk.injEq, and_true] at hbo
        obtain ⟨rfl, rfl⟩ := hbo
        have hGw : wr.cell? ⟨G, 0, none⟩ = some (.int .i64 g) := by rw [HBT.out.cell (by have := HGB.out; have := HBB.out; omega) (by have := HGB.out; have := HBL.out; omega)]; exact HG.out
        have hc : wr.cell? ⟨b, j, none⟩ = some (.int .i64 x) := by have := hgt 0 _ rfl; rwa [Nat.mul_one, Nat.zero_add, Nat.add_zero] at this
        have HCL := Lib.hid (wclo1_any x g G _ rfl wr hGw)
        have HX := Lib.hid hx
        have HYX := Lib.hid hyx
        clear hx hyx hgt hGw hyl
        go_wp2_with fail
        refine HCL.out.mono ?_
        rintro e wa ⟨rfl, hxa⟩
        have HXA := Lib.hid hxa
        clear hxa hc HCL
        by_cases h1 : x = g
        · have h1' : (x == g) = true := by simpa using h1
          have HS := Lib.hid (del_skip (p := (fun x => x != g)) HTK.out HDR.out HX.out (by simp [h1]))
          clear h1
          go_wp2
          go_roundw
          case rel => exact ⟨i, j + 1, ys, rfl, by go_num, by omega, by omega, HOW.out.ext HXA.out, HS.out.1, HS.out.2, HYL.out, HBT.out.trans (But.ext HXA.out)⟩
          case measure => simp [intOf]; omega
        · have h1' : (x == g) = false := by simpa using h1
          have hS := del_keep (p := (fun x => x != g)) HTK.out HDR.out hij HYL.out HX.out (by simpa using h1)
          have hyl := HYL.out
          obtain ⟨g', c', e1, _, _, _, hth, hown', hu⟩ := OwnRows.setCells (m := 1) numL_len (HOW.out.ext HXA.out) (i := i) (x' := x) (List.getElem?_eq_getElem (by omega)) (j := 0) (ds := [.int .i64 x]) (Nat.le_refl 1) (fun t ht => by match t, ht with | 0, _ => rfl)
          simp only [Value.slice.injEq, Option.some.injEq, Addr.mk.injEq, and_true] at e1
          have e2 := e1.1
          clear e1
          subst e2
          have r0 := (hth 0 (Nat.lt_succ_self 0)).1
          have r1 := (hth 0 (Nat.lt_succ_self 0)).2
          simp only [Nat.mul_one, Nat.add_zero] at r0 r1
          obtain ⟨ov, r0⟩ := Option.isSome_iff_exists.1 r0
          obtain ⟨wn, hwn⟩ : ∃ wn, wa.setCell ⟨b, i, none⟩ (.int .i64 x) = wn := ⟨_, rfl⟩
          have ewn : wa.setCells b (i * 1 + 0) [.int .i64 x] = wn := by rw [← hwn, Nat.mul_one, Nat.add_zero]; rfl
          rw [ewn] at hown' hu
          have HS := Lib.hid hS
          have HON := Lib.hid hown'
          have HUN := Lib.hid hu
          have HWN := Lib.hid hwn
          have hb2 : (i : Int) < (l.length : Int) := by omega
          have hb3 : (i : Int) < 1000000 := by omega
          have hb4 : (j : Int) < 1000000 := by omega
          clear h1 hS hth hown' hu hwn ewn hyl
          go_wp2_with (rw [HWN.out])
          go_roundw
          case rel => exact ⟨i + 1, j + 1, ys.set i x, by go_num, by go_num, by omega, by omega, HON.out, HS.out.1, HS.out.2.1, HS.out.2.2, (HBT.out.trans (But.ext HXA.out)).trans (But.upd HUN.out rfl)⟩
          case measure => simp [intOf]; omega
      · obtain rfl : j = l.length := by omega
        have hyl := HYL.out
        have hlc := HBL.out.2.2
        have htk := HTK.out
        rw [List.take_length] at htk
        have hfl : (l.filter (fun x => x != g)).length = i := by rw [← htk, List.length_take]; omega
        have S1 : ∀ v, _ := cut1_from b l.length c i hij hlc
        have S2 : ∀ v, _ := cut1_to (some ⟨b, 0, none⟩) l.length c i (Nat.le_of_lt hij) hlc
        obtain ⟨zs, hzl, hclr⟩ := run_clear_rows (P := Try.prog) wr 27 3 (.int .i64 0) 1 Try.underlying27 (fun _ => by kernel_rfl) (by kernel_rfl) (by simp [Value.cells, Value.oneCell']) b (i * 1) (l.length - i) (c - i) (by omega) (there_own HOW.out (by rw [hyl, Nat.sub_mul]; have : i * 1 ≤ l.length * 1 := Nat.mul_le_mul_right _ (Nat.le_of_lt hij); omega))
        have hct := OwnRows.cutTo numL_len HOW.out (i := i) (by omega) (zs := zs) (by rw [hzl, hyl])
        rw [htk] at hct
        have HCT := Lib.hid hct
        have HFL := Lib.hid hfl
        clear hyl htk hfl hct hzl
        simp only [Nat.mul_one] at hclr HCT
        go_wp2
        go_ret
        rw [HFL.out]
        exact ⟨rfl, HCT.out.1, (HBT.out.trans (But.upd HCT.out.2 rfl)).wide fun y _ e => by subst e; rfl⟩
set_option maxRecDepth 100000 in
set_option maxHeartbeats 4000000 in
theorem delf2_any (A : Option Addr) (c : Nat) (l : List (Int × Int)) (g : Int) (G B : Nat) (w : World) (ho : OwnRows 76 2 pairL w B (.slice A l.length c) l) (hl : l.length ≤ 1000000) (hG : w.cell? ⟨G, 0, none⟩ = some (.int .i64 g)) (hGB : G < B) (hB : B ≤ w.heap.size) :
    Calls Try.prog 53 #[.slice A l.length c, .func (.func 54) #[] #[.pointer (some ⟨G, 0, none⟩)]] w fun e w' => e = .returned (.slice A (l.filter (fun x => x.2 != g)).length c) ∧ OwnRows 76 2 pairL w' B (.slice A (l.filter (fun x => x.2 != g)).length c) (l.filter (fun x => x.2 != g)) ∧ But (fun b => (Value.slice A l.length c).ownBlock = some b) w w' := by
  have HO := Lib.hid ho
  have HG := Lib.hid hG
  have HGB := Lib.hid hGB
  have HBB := Lib.hid hB
  have HIX := Lib.hid (idxf2_any A c l g G w (OwnRows.rows pairL_len ho) (by omega) hG (by omega))
  clear ho hG hGB hB
  go_enter Try.func53, Try.ntmps53
  go_wp2_with fail
  refine HIX.out.mono ?_
  rintro e w1 ⟨i0, rfl, hcase, hx1⟩
  clear HIX
  have HX1 := Lib.hid hx1
  clear hx1
  rcases hcase with ⟨rfl, hno⟩ | ⟨k, rfl, ⟨x, hxk, hxg⟩, hbef⟩
  · have HF : Hid (l.filter (fun x => x.2 != g) = l) := Lib.hid (filter_none fun j x hj => by simpa using hno j x hj)
    clear hno
    go_wp2
    go_ret
    rw [HF.out]
    exact ⟨rfl, HO.out.ext HX1.out, But.ext HX1.out⟩
  · have hkl := (List.getElem?_eq_some_iff.1 hxk).1
    obtain ⟨b, rfl, hbB, hbw, _, hlc⟩ := own_block HO.out (by omega)
    have HBL : Hid (B ≤ b ∧ b < w.heap.size ∧ l.length ≤ c) := Lib.hid ⟨hbB, hbw, hlc⟩
    have HST : Hid (l.take k = (l.take (k + 1)).filter (fun x => x.2 != g)) := Lib.hid (filter_first hxk (by simp [hxg]) fun j y hj hjk => by simpa using hbef j y hj hjk)
    have hb1 : (k : Int) < 1000000 := by omega
    have hneg : ((k : Int) == -1) = false := by rw [beq_eq_false_iff_ne]; omega
    clear hxk hxg hbef hbB hbw hlc
    go_wp2_with fail
    clear hneg
    go_loopw [5, 6] (fun iv jv wr => ∃ (i j : Nat) (ys : List (Int × Int)), iv = .int .i64 i ∧ jv = .int .i64 j ∧ i < j ∧ j ≤ l.length ∧ OwnRows 76 2 pairL wr B (.slice (some ⟨b, 0, none⟩) l.length c) ys ∧ ys.take i = (l.take j).filter (fun x => x.2 != g) ∧ ys.drop j = l.drop j ∧ ys.length = l.length ∧ But (fun x => x = b) w wr) (fun _ jv _ => l.length - (intOf jv).toNat)
    case atStart => exact ⟨k, k + 1, l, rfl, by go_num, by omega, by omega, HO.out.ext HX1.out, HST.out, rfl, rfl, But.ext HX1.out⟩
    case round =>
      obtain ⟨i, j, ys, rfl, rfl, hij, hj, hown, htk, hdr, hyl, hbt⟩ := hrel
      have HOW := Lib.hid hown
      have HTK := Lib.hid htk
      have HDR := Lib.hid hdr
      have HYL := Lib.hid hyl
      have HBT := Lib.hid hbt
      clear hown htk hdr hyl hbt
      by_cases hlt : j < l.length
      · obtain ⟨x, hx⟩ : ∃ x, l[j]? = some x := ⟨_, List.getElem?_eq_getElem hlt⟩
        have hyx : ys[j]? = some x := by
          have h1 : (ys.drop j)[0]? = (l.drop j)[0]? := by rw [HDR.out]
          rw [List.getElem?_drop, List.getElem?_drop, Nat.add_zero] at h1
          rw [h1]; exact hx
        have hyl := HYL.out
        obtain ⟨b', o', hbo, _, hgt⟩ := (OwnRows.rows pairL_len HOW.out).get hyx
        simp only [Option.some.injEq, Addr.mk.injEq, and_true] at hbo
        obtain ⟨rfl, rfl⟩ := hbo
        have hGw : wr.cell? ⟨G, 0, none⟩ = some (.int .i64 g) := by rw [HBT.out.cell (by have := HGB.out; have := HBB.out; omega) (by have := HGB.out; have := HBL.out; omega)]; exact HG.out
        have hc : wr.cell? ⟨b, j * 2, none⟩ = some (.int .i64 x.1) := by have := hgt 0 _ rfl; rwa [Nat.zero_add, Nat.add_zero] at this
        have hc2 : wr.cell? ⟨b, j * 2 + 1, none⟩ = some (.int .i64 x.2) := by have := hgt 1 _ rfl; rwa [Nat.zero_add] at this
        obtain ⟨b7, hb7⟩ : ∃ b7, wr.heap.size = b7 := ⟨_, rfl⟩
        obtain ⟨wb, hwb⟩ : ∃ wb, wr.alloc (.cells #[.int .i64 x.1, .int .i64 x.2] 76) = wb := ⟨_, rfl⟩
        have hxb : Ext wr wb := by rw [← hwb]; exact (Ext.refl wr).alloc _
        have hbb : wb.heap[b7]? = some (.cells #[.int .i64 x.1, .int .i64 x.2] 76 (0, 0)) := by rw [← hwb, ← hb7]; exact blk_new wr _
        have hG7 : G < wr.heap.size := by have := HGB.out; have := HBB.out; have := HBT.out.size; omega
        have HCL := Lib.hid (wclo2_any x g G _ rfl wb (by rw [Below.cell (p := ⟨G, 0, none⟩) hxb hG7]; exact hGw) (by have := hxb.size; omega))
        have q0 := blk_cell hbb 0 _ rfl
        have q1 := blk_cell hbb 1 _ rfl
        have HX := Lib.hid hx
        have HYX := Lib.hid hyx
        have HXB := Lib.hid hxb
        have HBX := Lib.hid hbb
        have HWB := Lib.hid hwb
        have HB7 := Lib.hid hb7
        clear hx hyx hgt hGw hyl hb7 hwb hxb hbb hG7
        go_wp2_with (first | rw [HWB.out, HB7.out] | rw [HWB.out])
        refine HCL.out.mono ?_
        rintro e wa ⟨rfl, hxa⟩
        have HXA := Lib.hid (HXB.out.trans hxa)
        have hba := hxa.blk HBX.out
        have q2 := blk_cell hba 0 _ rfl
        have q3 := blk_cell hba 1 _ rfl
        clear hxa hc hc2 HCL q0 q1 hba
        by_cases h1 : x.2 = g
        · have h1' : (x.2 == g) = true := by simpa using h1
          have HS := Lib.hid (del_skip (p := (fun x => x.2 != g)) HTK.out HDR.out HX.out (by simp [h1]))
          clear h1
          go_wp2
          go_roundw
          case rel => exact ⟨i, j + 1, ys, rfl, by go_num, by omega, by omega, HOW.out.ext HXA.out, HS.out.1, HS.out.2, HYL.out, HBT.out.trans (But.ext HXA.out)⟩
          case measure => simp [intOf]; omega
        · have h1' : (x.2 == g) = false := by simpa using h1
          have hS := del_keep (p := (fun x => x.2 != g)) HTK.out HDR.out hij HYL.out HX.out (by simpa using h1)
          have hyl := HYL.out
          obtain ⟨g', c', e1, _, _, _, hth, hown', hu⟩ := OwnRows.setCells (m := 2) pairL_len (HOW.out.ext HXA.out) (i := i) (x' := x) (List.getElem?_eq_getElem (by omega)) (j := 0) (ds := [.int .i64 x.1, .int .i64 x.2]) (Nat.le_refl 2) (fun t ht => by
            match t, ht with
            | 0, _ => rfl
            | 1, _ => rfl)
          simp only [Value.slice.injEq, Option.some.injEq, Addr.mk.injEq, and_true] at e1
          have e2 := e1.1
          clear e1
          subst e2
          have r0 := (hth 0 (Nat.succ_pos 1)).1
          have r1 := (hth 0 (Nat.succ_pos 1)).2
          have r2 := (hth 1 (Nat.lt_succ_self 1)).1
          have r3 := (hth 1 (Nat.lt_succ_self 1)).2
          simp only [Nat.add_zero] at r0 r1 r2 r3
          obtain ⟨ov, r0⟩ := Option.isSome_iff_exists.1 r0
          obtain ⟨ov2, r2⟩ := Option.isSome_iff_exists.1 r2
          obtain ⟨wn, hwn⟩ : ∃ wn, (wa.setCell ⟨b, i * 2, none⟩ (.int .i64 x.1)).setCell ⟨b, i * 2 + 1, none⟩ (.int .i64 x.2) = wn := ⟨_, rfl⟩
          have ewn : wa.setCells b (i * 2 + 0) [.int .i64 x.1, .int .i64 x.2] = wn := by rw [← hwn, Nat.add_zero]; rfl
          rw [ewn] at hown' hu
          have HS := Lib.hid hS
          have HON := Lib.hid hown'
          have HUN := Lib.hid hu
          have HWN := Lib.hid hwn
          have hb2 : (i : Int) < (l.length : Int) := by omega
          have hb3 : (i : Int) < 1000000 := by omega
          have hb4 : (j : Int) < 1000000 := by omega
          clear h1 hS hth hown' hu hwn ewn hyl
          go_wp2_with (rw [HWN.out])
          go_roundw
          case rel => exact ⟨i + 1, j + 1, ys.set i x, by go_num, by go_num, by omega, by omega, HON.out, HS.out.1, HS.out.2.1, HS.out.2.2, (HBT.out.trans (But.ext HXA.out)).trans (But.upd HUN.out rfl)⟩
          case measure => simp [intOf]; omega
      · obtain rfl : j = l.length := by omega
        have hyl := HYL.out
        have hlc := HBL.out.2.2
        have htk := HTK.out
        rw [List.take_length] at htk
        have hfl : (l.filter (fun x => x.2 != g)).length = i := by rw [← htk, List.length_take]; omega
        have S1 : ∀ v, _ := cut2_from b l.length c i hij hlc
        have S2 : ∀ v, _ := cut2_to (some ⟨b, 0, none⟩) l.length c i (Nat.le_of_lt hij) hlc
        obtain ⟨zs, hzl, hclr⟩ := run_clear_rows (P := Try.prog) wr 30 76 (.agg #[.int .i64 0, .int .i64 0]) 2 Try.underlying30 (fun _ => by kernel_rfl) (by kernel_rfl) (by simp [Value.cells, Value.oneCell']) b (i * 2) (l.length - i) (c - i) (by omega) (there_own HOW.out (by rw [hyl, Nat.sub_mul]; have : i * 2 ≤ l.length * 2 := Nat.mul_le_mul_right _ (Nat.le_of_lt hij); omega))
        have hct := OwnRows.cutTo pairL_len HOW.out (i := i) (by omega) (zs := zs) (by rw [hzl, hyl])
        rw [htk] at hct
        have HCT := Lib.hid hct
        have HFL := Lib.hid hfl
        clear hyl htk hfl hct hzl
        go_wp2
        go_ret
        rw [HFL.out]
        exact ⟨rfl, HCT.out.1, (HBT.out.trans (But.upd HCT.out.2 rfl)).wide fun y _ e => by subst e; rfl⟩
end Go.Proofs.Ytogcfndhcphpaaa
