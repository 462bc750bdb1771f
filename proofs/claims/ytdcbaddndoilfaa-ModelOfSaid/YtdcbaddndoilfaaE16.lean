/-
  Several texts in one: To.
-/
import Derived.Test.YtdcbaddndoilfaaE12
import Derived.Test.YtdcbaddndoilfaaE14
import Derived.Test.YtdcbaddndoilfaaE15
set_option linter.unusedVariables false
set_option linter.unusedSimpArgs false
namespace Go.Proofs.Ytdcbaddndoilfaa
open Go.RowKit
theorem may_whole {s : St} (h : s.whole = false) : s.may = false := by unfold St.may; rw [h]; rfl
theorem may_goods {s : St} (h : s.goods = false) : s.may = false := by unfold St.may; rw [h]; simp
theorem may_holds {s : St} (h : s.holds = false) : s.may = false := by unfold St.may; rw [h]; simp
theorem may_counts {s : St} (h : s.counts = false) : s.may = false := by unfold St.may; rw [h]; simp
theorem may_allIn {s : St} (h : s.allIn = false) : s.may = false := by unfold St.may; rw [h]; simp
theorem may_stands {s : St} {i : Nat} {g : Gr} (hg : s.gs[i]? = some g) (h : s.stands i g = false) : s.may = false := by unfold St.may; rw [allIx_no hg h, Bool.and_false]
set_option maxRecDepth 100000 in
set_option maxHeartbeats 16000000 in
theorem rstmay_any (h : StH) (s : St) (r : Bool) (hr : s.may = r) (w : World) (hk : StOk w h s) (hf : StFew s) : Calls Try.prog 34 #[stV h s] w fun e w' => e = .returned (.bool r) ∧ Ext w w' := by
  subst hr
  have HF := Lib.hid hf
  have f1 := hf.ms
  have f2 := hf.ps
  have f3 := hf.gs
  have f5 := hf.timers
  have F2 := Lib.hid hf.w
  have HPM := Lib.hid hf.prog
  have HK := Lib.hid hk
  obtain ⟨w1, hw1⟩ : ∃ w1, w.alloc (.cells #[.slice h.pa s.prog.length h.pc, .slice h.ga s.gs.length h.gc, .slice h.qa s.ps.length h.qc, .slice h.ma s.ms.length h.mc, .slice h.la s.glob.length h.lc, .int .i64 s.c0, .int .i64 s.c1, .int .i64 s.c2, .int .i64 s.c3, .slice h.a0 s.w0.length h.k0, .slice h.a1 s.w1.length h.k1, .slice h.a2 s.w2.length h.k2, .slice h.a3 s.w3.length h.k3, .slice h.ta s.timers.length h.tc, .int .i64 s.clock, .int .i64 s.procs] 47) = w1 := ⟨_, rfl⟩
  have HX1 : Hid (Ext w w1) := Lib.hid (by rw [← hw1]; exact (Ext.refl w).alloc _)
  have HB1 : Hid (w1.heap[w.heap.size]? = some (.cells (stC h s) 47 (0, 0))) := Lib.hid (by rw [← hw1]; exact blk_new w _)
  have HK1 := Lib.hid (hk.ext HX1.out)
  have HW1 := Lib.hid hw1
  clear hw1 hk
  clear hf
  have HWE := Lib.hid (whole_eq s)
  obtain ⟨bp, hbp⟩ : ∃ bp, Pg.may s.prog = bp := ⟨_, rfl⟩
  have HPC := Lib.hid (rpmay_any _ s.prog bp hbp w1 HK1.out.prog HPM.out.1 HPM.out.2)
  rw [hbp] at HWE
  clear hbp
  have q0 := st0 HB1.out
  unfold stV
  go_enter Try.func34, Try.ntmps34
  go_upto_region 1 with fail
  rw [HW1.out]
  generalize Value.agg #[.slice h.pa s.prog.length h.pc, .slice h.ga s.gs.length h.gc, .slice h.qa s.ps.length h.qc, .slice h.ma s.ms.length h.mc, .slice h.la s.glob.length h.lc, .int .i64 s.c0, .int .i64 s.c1, .int .i64 s.c2, .int .i64 s.c3, .slice h.a0 s.w0.length h.k0, .slice h.a1 s.w1.length h.k1, .slice h.a2 s.w2.length h.k2, .slice h.a3 s.w3.length h.k3, .slice h.ta s.timers.length h.tc, .int .i64 s.clock, .int .i64 s.procs] = sv0
  go_wp2_with fail
  refine HPC.out.mono ?_
  rintro e w3 ⟨rfl, hx3⟩
  have HX3 := Lib.hid hx3
  clear hx3 q0
  have q1 := st1 (HX3.out.blk HB1.out)
  have q2 := st2 (HX3.out.blk HB1.out)
  have q3 := st3 (HX3.out.blk HB1.out)
  have q15 := st15 (HX3.out.blk HB1.out)
  have q14 := st14 (HX3.out.blk HB1.out)
  have q13 := st13 (HX3.out.blk HB1.out)
  cases bp with
  | false =>
    have HNO : Hid (s.may = false) := Lib.hid (may_whole (by rw [HWE.out]; rfl))
    go_wp2
    (go_ret; exact ⟨by rw [HNO.out] <;> rfl, HX1.out.trans HX3.out⟩)
  | true =>
  by_cases g1 : (s.gs.length : Int) < 1
  · have HNO : Hid (s.may = false) := Lib.hid (may_whole (by rw [HWE.out, wiB_no (by omega)]; rfl))
    go_wp2
    (go_ret; exact ⟨by rw [HNO.out] <;> rfl, HX1.out.trans HX3.out⟩)
  by_cases g2 : (1000 : Int) < (s.gs.length : Int)
  · have HNO : Hid (s.may = false) := Lib.hid (may_whole (by rw [HWE.out, wiB_no (by omega)]; rfl))
    go_wp2
    (go_ret; exact ⟨by rw [HNO.out] <;> rfl, HX1.out.trans HX3.out⟩)
  by_cases g3 : s.ps.length = 8
  rotate_left 1
  · have HNO : Hid (s.may = false) := Lib.hid (may_whole (by rw [HWE.out, decide_eq_false g3]; simp))
    have g3' : ((s.ps.length : Int) != 8) = true := by simp; omega
    go_wp2
    (go_ret; exact ⟨by rw [HNO.out] <;> rfl, HX1.out.trans HX3.out⟩)
  have g3' : ((s.ps.length : Int) != 8) = false := by simp; omega
  have G3 := Lib.hid g3
  clear g3
  by_cases g4 : s.procs < 1
  · have HNO : Hid (s.may = false) := Lib.hid (may_whole (by rw [HWE.out, wiB_no (n := s.procs) (by omega)]; simp))
    go_wp2
    (go_ret; exact ⟨by rw [HNO.out] <;> rfl, HX1.out.trans HX3.out⟩)
  by_cases g5 : 8 < s.procs
  · have HNO : Hid (s.may = false) := Lib.hid (may_whole (by rw [HWE.out, wiB_no (n := s.procs) (by omega)]; simp))
    go_wp2
    (go_ret; exact ⟨by rw [HNO.out] <;> rfl, HX1.out.trans HX3.out⟩)
  by_cases g6 : (1000 : Int) < (s.ms.length : Int)
  · have HNO : Hid (s.may = false) := Lib.hid (may_whole (by rw [HWE.out, decide_eq_false (p := s.ms.length ≤ 1000) (by omega)]; simp))
    go_wp2
    (go_ret; exact ⟨by rw [HNO.out] <;> rfl, HX1.out.trans HX3.out⟩)
  have HWE2 : Hid (s.whole = (St.low s.clock && decide (Sl.May s.timers))) := Lib.hid (by
    rw [HWE.out, wiB_yes (n := (s.gs.length : Int)) (by omega) (by omega), decide_eq_true G3.out, decide_eq_true (show s.ms.length ≤ 1000 by omega), wiB_yes (n := s.procs) (by omega) (by omega)]; rfl)
  go_wp2_with fail
  refine (rlow_k s.clock _ rfl _).mono ?_
  rintro e w' ⟨rfl, rfl⟩
  cases b5 : St.low s.clock with
  | false =>
    have HNO : Hid (s.may = false) := Lib.hid (may_whole (by rw [HWE2.out, b5]; rfl))
    go_wp2
    (go_ret; exact ⟨by rw [HNO.out] <;> rfl, HX1.out.trans HX3.out⟩)
  | true =>
  have HWE3 : Hid (s.whole = decide (Sl.May s.timers)) := Lib.hid (by rw [HWE2.out, b5]; rfl)
  have HSM := Lib.hid (fun w (hx : Ext w1 w) => srmay_any _ s.timers w (HK1.out.timers.ext hx) (by omega))
  obtain ⟨bt, hbt⟩ : ∃ bt, decide (Sl.May s.timers) = bt := ⟨_, rfl⟩
  rw [hbt] at HWE3 HSM
  clear hbt
  go_wp2_with fail
  refine (HSM.out _ HX3.out).mono ?_
  rintro e w4 ⟨rfl, hx4⟩
  have HX4 := Lib.hid (HX3.out.trans hx4)
  clear hx4 q1 q2 q3 q13 q14 q15 HX3
  have HX3 := Lib.hid HX4.out
  cases bt with
  | false =>
    have HNO : Hid (s.may = false) := Lib.hid (may_whole HWE3.out)
    go_wp2
    (go_ret; exact ⟨by rw [HNO.out] <;> rfl, HX1.out.trans HX3.out⟩)
  | true =>
  obtain ⟨⟨⟨q0, q1, q2, q3⟩, q4, q5, q6, q7⟩, ⟨q8, q9, q10, q11⟩, q12, q13, q14, q15⟩ := st16 (HX4.out.blk HB1.out)
  go_wp2_with fail
  refine (rgoods_any h s _ rfl _ (HK1.out.ext HX4.out) HF.out).mono ?_
  rintro e w5 ⟨rfl, hx5⟩
  have HX5 := Lib.hid (HX4.out.trans hx5)
  clear q0 q1 q2 q3 q4 q5 q6 q7 q8 q9 q10 q11 q12 q13 q14 q15
  clear hx5 HX3
  have HX3 := Lib.hid HX5.out
  cases bg : s.goods with
  | false =>
    have HNO : Hid (s.may = false) := Lib.hid (may_goods bg)
    go_wp2
    (go_ret; exact ⟨by rw [HNO.out] <;> rfl, HX1.out.trans HX3.out⟩)
  | true =>
  generalize Value.agg #[.slice h.pa s.prog.length h.pc, .slice h.ga s.gs.length h.gc, .slice h.qa s.ps.length h.qc, .slice h.ma s.ms.length h.mc, .slice h.la s.glob.length h.lc, .int .i64 s.c0, .int .i64 s.c1, .int .i64 s.c2, .int .i64 s.c3, .slice h.a0 s.w0.length h.k0, .slice h.a1 s.w1.length h.k1, .slice h.a2 s.w2.length h.k2, .slice h.a3 s.w3.length h.k3, .slice h.ta s.timers.length h.tc, .int .i64 s.clock, .int .i64 s.procs] = sv1
  obtain ⟨⟨⟨q0, q1, q2, q3⟩, q4, q5, q6, q7⟩, ⟨q8, q9, q10, q11⟩, q12, q13, q14, q15⟩ := st16 (HX5.out.blk HB1.out)
  go_wp2_with fail
  refine (rholds_any h s _ rfl _ (HK1.out.ext HX5.out) HF.out).mono ?_
  rintro e w6 ⟨rfl, hx6⟩
  have HX6 := Lib.hid (HX5.out.trans hx6)
  clear q0 q1 q2 q3 q4 q5 q6 q7 q8 q9 q10 q11 q12 q13 q14 q15
  clear hx6 HX3
  have HX3 := Lib.hid HX6.out
  cases bh : s.holds with
  | false =>
    have HNO : Hid (s.may = false) := Lib.hid (may_holds bh)
    go_wp2
    (go_ret; exact ⟨by rw [HNO.out] <;> rfl, HX1.out.trans HX3.out⟩)
  | true =>
  generalize Value.agg #[.slice h.pa s.prog.length h.pc, .slice h.ga s.gs.length h.gc, .slice h.qa s.ps.length h.qc, .slice h.ma s.ms.length h.mc, .slice h.la s.glob.length h.lc, .int .i64 s.c0, .int .i64 s.c1, .int .i64 s.c2, .int .i64 s.c3, .slice h.a0 s.w0.length h.k0, .slice h.a1 s.w1.length h.k1, .slice h.a2 s.w2.length h.k2, .slice h.a3 s.w3.length h.k3, .slice h.ta s.timers.length h.tc, .int .i64 s.clock, .int .i64 s.procs] = sv2
  have HMAY : Hid (s.may = (s.counts && s.allIn && allIx s.stands 0 s.gs)) := Lib.hid (by unfold St.may; rw [HWE3.out, bg, bh]; rfl)
  clear bg bh b5
  go_wp2_with fail
  go_loopw [3] (fun iv wr => ∃ k : Nat, k ≤ 4 ∧ iv = .int .i64 k ∧ (∀ j, j < k → s.okAt j) ∧ Ext w1 wr) (fun iv _ => 4 - (intOf iv).toNat)
  case atStart => exact ⟨0, by omega, rfl, fun j h => by omega, HX6.out⟩
  case round =>
    clear HX3 HX4 HX5 HX6
    obtain ⟨k, hk, rfl, hall, hx⟩ := hrel
    have HALL := Lib.hid hall
    have HX3 := Lib.hid hx
    clear hall hx
    by_cases hlt : k < 4
    · as_aux_lemma =>
      obtain ⟨c, hc1, hc2⟩ := stC_cnt (h := h) (s := s) hlt
      obtain ⟨A0, d0, l, hcell, hI, hl⟩ := HK1.out.wait hlt
      have HNK : Hid (St.okCnt c l = false → s.counts = false) := Lib.hid (St.counts_no hc2 hl)
      have HYK : Hid (St.okCnt c l = true → s.okAt k) := Lib.hid fun h c' l' h1 h2 => by rw [hc2] at h1; rw [hl] at h2; injection h1 with h1; injection h2 with h2; subst h1 h2; exact h
      have q9 := blk_cell (HX3.out.blk HB1.out) (9 + k) _ hcell
      have q5 := blk_cell (HX3.out.blk HB1.out) (5 + k) _ hc1
      have hll := wts_few F2.out hl
      clear hc1 hc2 hl hI hcell
      by_cases c1 : c < 0
      · have HNO : Hid (s.may = false) := Lib.hid (may_counts (HNK.out (by unfold St.okCnt; rw [decide_eq_false (by omega)]; rfl)))
        go_wp2
        (go_ret; exact ⟨by rw [HNO.out] <;> rfl, HX1.out.trans HX3.out⟩)
      by_cases c2 : 1000000 < c
      · have HNO : Hid (s.may = false) := Lib.hid (may_counts (HNK.out (by unfold St.okCnt; rw [decide_eq_false (by omega)]; rfl)))
        go_wp2
        (go_ret; exact ⟨by rw [HNO.out] <;> rfl, HX1.out.trans HX3.out⟩)
      by_cases c0 : 0 < c
      · by_cases l0 : 0 < l.length
        · have HNO : Hid (s.may = false) := Lib.hid (may_counts (HNK.out (by unfold St.okCnt; rw [decide_eq_true c0, decide_eq_true l0]; simp)))
          have l0' : (0 : Int) < (l.length : Int) := by omega
          go_wp2
          (go_ret; exact ⟨by rw [HNO.out] <;> rfl, HX1.out.trans HX3.out⟩)
        · have HOKK : Hid (s.okAt k) := Lib.hid (HYK.out (by unfold St.okCnt; rw [decide_eq_true (show 0 ≤ c ∧ c ≤ 1000000 by omega), decide_eq_false l0, Bool.and_false]; rfl))
          obtain rfl : l = [] := by cases l with | nil => rfl | cons a b => simp at l0
          simp only [List.length_nil] at *
          go_wp2
          go_roundw
          case rel =>
            refine ⟨k + 1, by omega, by go_num, fun j hj => ?_, HX3.out⟩
            by_cases hjk : j < k
            · exact HALL.out j hjk
            · obtain rfl : j = k := by omega
              exact HOKK.out
          case measure => simp [intOf]; omega
      · have HOKK : Hid (s.okAt k) := Lib.hid (HYK.out (by unfold St.okCnt; rw [decide_eq_true (show 0 ≤ c ∧ c ≤ 1000000 by omega), decide_eq_false c0]; rfl))
        go_wp2
        go_roundw
        case rel =>
          refine ⟨k + 1, by omega, by go_num, fun j hj => ?_, HX3.out⟩
          by_cases hjk : j < k
          · exact HALL.out j hjk
          · obtain rfl : j = k := by omega
            exact HOKK.out
        case measure => simp [intOf]; omega
    · as_aux_lemma =>
      have HCO : Hid (s.counts = true) := Lib.hid (St.counts_yes fun j hj => HALL.out j (by omega))
      have q1 := st1 (HX3.out.blk HB1.out)
      go_upto_region 9 with fail
      clear q1
      obtain ⟨⟨⟨q0, q1, q2, q3⟩, q4, q5, q6, q7⟩, ⟨q8, q9, q10, q11⟩, q12, q13, q14, q15⟩ := st16 (HX3.out.blk HB1.out)
      go_wp2_with fail
      refine (rruns_any h s _ (HK1.out.ext HX3.out) HF.out).mono ?_
      rintro e w7 ⟨A7, c7, rfl, ho7, hx7⟩
      have HX7 := Lib.hid (HX3.out.trans hx7)
      have HI7 := Lib.hid ho7.at.2
      clear q0 q1 q2 q3 q4 q5 q6 q7 q8 q9 q10 q11 q12 q13 q14 q15
      generalize Value.agg #[.slice h.pa s.prog.length h.pc, .slice h.ga s.gs.length h.gc, .slice h.qa s.ps.length h.qc, .slice h.ma s.ms.length h.mc, .slice h.la s.glob.length h.lc, .int .i64 s.c0, .int .i64 s.c1, .int .i64 s.c2, .int .i64 s.c3, .slice h.a0 s.w0.length h.k0, .slice h.a1 s.w1.length h.k1, .slice h.a2 s.w2.length h.k2, .slice h.a3 s.w3.length h.k3, .slice h.ta s.timers.length h.tc, .int .i64 s.clock, .int .i64 s.procs] = sw0
      clear ho7 hx7
      go_wp2_with fail
      refine (rwithin_any (.slice A7 s.runs.length c7) s.runs s.gs.length _ rfl _ HI7.out (by have := St.runs_len HF.out; omega)).mono ?_
      rintro e w' ⟨rfl, rfl⟩
      cases bw0 : St.within s.runs s.gs.length with
      | false =>
        have HNO : Hid (s.may = false) := Lib.hid (may_allIn (by unfold St.allIn; rw [bw0]; simp))
        go_wp2
        go_ret
        exact ⟨by rw [HNO.out] <;> rfl, HX1.out.trans HX7.out⟩
      | true =>
      obtain ⟨⟨⟨q0, q1, q2, q3⟩, q4, q5, q6, q7⟩, ⟨q8, q9, q10, q11⟩, q12, q13, q14, q15⟩ := st16 (HX7.out.blk HB1.out)
      go_wp2_with fail
      refine (rwaiters_any h s _ (HK1.out.ext HX7.out) HF.out).mono ?_
      rintro e w8 ⟨A8, c8, rfl, ho8, hx8⟩
      have HX8 := Lib.hid (HX7.out.trans hx8)
      have HI8 := Lib.hid ho8.at.2
      clear q0 q1 q2 q3 q4 q5 q6 q7 q8 q9 q10 q11 q12 q13 q14 q15
      generalize Value.agg #[.slice h.pa s.prog.length h.pc, .slice h.ga s.gs.length h.gc, .slice h.qa s.ps.length h.qc, .slice h.ma s.ms.length h.mc, .slice h.la s.glob.length h.lc, .int .i64 s.c0, .int .i64 s.c1, .int .i64 s.c2, .int .i64 s.c3, .slice h.a0 s.w0.length h.k0, .slice h.a1 s.w1.length h.k1, .slice h.a2 s.w2.length h.k2, .slice h.a3 s.w3.length h.k3, .slice h.ta s.timers.length h.tc, .int .i64 s.clock, .int .i64 s.procs] = sw1
      clear ho8 hx8
      go_wp2_with fail
      refine (rwithin_any (.slice A8 s.waiters.length c8) s.waiters s.gs.length _ rfl _ HI8.out (by have := St.waiters_len HF.out; omega)).mono ?_
      rintro e w' ⟨rfl, rfl⟩
      cases bw1 : St.within s.waiters s.gs.length with
      | false =>
        have HNO : Hid (s.may = false) := Lib.hid (may_allIn (by unfold St.allIn; rw [bw1]; simp))
        go_wp2
        go_ret
        exact ⟨by rw [HNO.out] <;> rfl, HX1.out.trans HX8.out⟩
      | true =>
      obtain ⟨⟨⟨q0, q1, q2, q3⟩, q4, q5, q6, q7⟩, ⟨q8, q9, q10, q11⟩, q12, q13, q14, q15⟩ := st16 (HX8.out.blk HB1.out)
      go_wp2_with fail
      refine (ronM_any h s true _ (HK1.out.ext HX8.out) HF.out).mono ?_
      rintro e w9 ⟨A9, c9, rfl, ho9, hx9⟩
      have HX9 := Lib.hid (HX8.out.trans hx9)
      have HI9 := Lib.hid ho9.at.2
      clear q0 q1 q2 q3 q4 q5 q6 q7 q8 q9 q10 q11 q12 q13 q14 q15
      generalize Value.agg #[.slice h.pa s.prog.length h.pc, .slice h.ga s.gs.length h.gc, .slice h.qa s.ps.length h.qc, .slice h.ma s.ms.length h.mc, .slice h.la s.glob.length h.lc, .int .i64 s.c0, .int .i64 s.c1, .int .i64 s.c2, .int .i64 s.c3, .slice h.a0 s.w0.length h.k0, .slice h.a1 s.w1.length h.k1, .slice h.a2 s.w2.length h.k2, .slice h.a3 s.w3.length h.k3, .slice h.ta s.timers.length h.tc, .int .i64 s.clock, .int .i64 s.procs] = sw2
      clear ho9 hx9
      go_wp2_with fail
      refine (rwithin_any (.slice A9 (s.onM true).length c9) (s.onM true) s.gs.length _ rfl _ HI9.out (by have := St.onM_len HF.out true; omega)).mono ?_
      rintro e w' ⟨rfl, rfl⟩
      cases bw2 : St.within (s.onM true) s.gs.length with
      | false =>
        have HNO : Hid (s.may = false) := Lib.hid (may_allIn (by unfold St.allIn; rw [bw2]; simp))
        go_wp2
        go_ret
        exact ⟨by rw [HNO.out] <;> rfl, HX1.out.trans HX9.out⟩
      | true =>
      obtain ⟨⟨⟨q0, q1, q2, q3⟩, q4, q5, q6, q7⟩, ⟨q8, q9, q10, q11⟩, q12, q13, q14, q15⟩ := st16 (HX9.out.blk HB1.out)
      go_wp2_with fail
      refine (ronM_any h s false _ (HK1.out.ext HX9.out) HF.out).mono ?_
      rintro e w10 ⟨A10, c10, rfl, ho10, hx10⟩
      have HX10 := Lib.hid (HX9.out.trans hx10)
      have HI10 := Lib.hid ho10.at.2
      clear q0 q1 q2 q3 q4 q5 q6 q7 q8 q9 q10 q11 q12 q13 q14 q15
      generalize Value.agg #[.slice h.pa s.prog.length h.pc, .slice h.ga s.gs.length h.gc, .slice h.qa s.ps.length h.qc, .slice h.ma s.ms.length h.mc, .slice h.la s.glob.length h.lc, .int .i64 s.c0, .int .i64 s.c1, .int .i64 s.c2, .int .i64 s.c3, .slice h.a0 s.w0.length h.k0, .slice h.a1 s.w1.length h.k1, .slice h.a2 s.w2.length h.k2, .slice h.a3 s.w3.length h.k3, .slice h.ta s.timers.length h.tc, .int .i64 s.clock, .int .i64 s.procs] = sw3
      clear ho10 hx10
      go_wp2_with fail
      refine (rwithin_any (.slice A10 (s.onM false).length c10) (s.onM false) s.gs.length _ rfl _ HI10.out (by have := St.onM_len HF.out false; omega)).mono ?_
      rintro e w' ⟨rfl, rfl⟩
      cases bw3 : St.within (s.onM false) s.gs.length with
      | false =>
        have HNO : Hid (s.may = false) := Lib.hid (may_allIn (by unfold St.allIn; rw [bw3]; simp))
        go_wp2
        go_ret
        exact ⟨by rw [HNO.out] <;> rfl, HX1.out.trans HX10.out⟩
      | true =>
      have HMA2 : Hid (s.may = allIx s.stands 0 s.gs) := Lib.hid (by rw [HMAY.out, HCO.out]; unfold St.allIn; rw [bw0, bw1, bw2, bw3]; rfl)
      clear bw0 bw1 bw2 bw3
      go_wp2_with fail
      go_loopw [5] (fun iv wr => ∃ k : Nat, k ≤ s.gs.length ∧ iv = .int .i64 ((k : Int) + 1) ∧ (∀ (j : Nat) g, s.gs[j]? = some g → j < k → s.stands j g = true) ∧ Ext w1 wr) (fun iv _ => s.gs.length + 1 - (intOf iv).toNat)
      case atStart => exact ⟨0, by omega, by simp, fun j g _ h => by omega, HX10.out⟩
      case round =>
        obtain ⟨k, hk, rfl, hall, hx⟩ := hrel
        have HAL := Lib.hid hall
        have HXR := Lib.hid hx
        clear hall hx
        by_cases hlt2 : k < s.gs.length
        · as_aux_lemma =>
          obtain ⟨g, hg⟩ : ∃ g, s.gs[k]? = some g := ⟨_, List.getElem?_eq_getElem hlt2⟩
          have HG := Lib.hid hg
          have HSD := Lib.hid (fun w (hx : Ext w1 w) => rstands_any h s k g hg _ rfl w (HK1.out.ext hx) HF.out)
          have e1 : (k : Int) + 1 ≤ (s.gs.length : Int) := by omega
          clear hg
          obtain ⟨⟨⟨q0, q1, q2, q3⟩, q4, q5, q6, q7⟩, ⟨q8, q9, q10, q11⟩, q12, q13, q14, q15⟩ := st16 (HXR.out.blk HB1.out)
          go_wp2_with fail
          refine (HSD.out _ HXR.out).mono ?_
          rintro e wz ⟨rfl, hxz⟩
          have HXZ := Lib.hid (HXR.out.trans hxz)
          clear hxz
          clear q0 q1 q2 q3 q4 q5 q6 q7 q8 q9 q10 q11 q12 q13 q14 q15
          generalize Value.agg #[.slice h.pa s.prog.length h.pc, .slice h.ga s.gs.length h.gc, .slice h.qa s.ps.length h.qc, .slice h.ma s.ms.length h.mc, .slice h.la s.glob.length h.lc, .int .i64 s.c0, .int .i64 s.c1, .int .i64 s.c2, .int .i64 s.c3, .slice h.a0 s.w0.length h.k0, .slice h.a1 s.w1.length h.k1, .slice h.a2 s.w2.length h.k2, .slice h.a3 s.w3.length h.k3, .slice h.ta s.timers.length h.tc, .int .i64 s.clock, .int .i64 s.procs] = sx
          cases bs : s.stands k g with
          | false =>
            have HNO : Hid (s.may = false) := Lib.hid (may_stands HG.out bs)
            go_wp2
            go_ret
            exact ⟨by rw [HNO.out] <;> rfl, HX1.out.trans HXZ.out⟩
          | true =>
            have HBS := Lib.hid bs
            clear bs
            go_wp2
            go_roundw
            case rel =>
              refine ⟨k + 1, by omega, by simp, fun j y hj hjk => ?_, HXZ.out⟩
              by_cases hjk2 : j < k
              · exact HAL.out j y hj hjk2
              · obtain rfl : j = k := by omega
                rw [← some_eq HG.out hj]
                exact HBS.out
            case measure => simp [intOf]; omega
        · have e1 : decide ((k : Int) + 1 ≤ (s.gs.length : Int)) = false := by simp; omega
          have HY : Hid (s.may = true) := Lib.hid (by rw [HMA2.out]; exact allIx_yes fun j g hj => HAL.out j g hj (by have := (List.getElem?_eq_some_iff.1 hj).1; omega))
          go_wp2
          go_ret
          exact ⟨by rw [HY.out] <;> rfl, HX1.out.trans HXR.out⟩
end Go.Proofs.Ytdcbaddndoilfaa
