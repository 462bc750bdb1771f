/-
  Several texts in one: To, Tz, Tzk, Tzl, Tzm, Tzr, Gj, Tzp, Tzs, Tzu, Gk, Gl, Ua, Ub.
-/
import Derived.Test.YtogcfndhcphpaaaB07
import Derived.Test.YtogcfndhcphpaaaB08
import Derived.Test.YtogcfndhcphpaaaB12
import Derived.Test.YtogcfndhcphpaaaB09
import Derived.Test.YtogcfndhcphpaaaB04
import Derived.Test.YtogcfndhcphpaaaB10
import Derived.Test.YtogcfndhcphpaaaB01
set_option linter.unusedVariables false
set_option linter.unusedSimpArgs false
namespace Go.Proofs.Ytogcfndhcphpaaa
open Go.RowKit
theorem may_whole {s : St} (h : s.whole = false) : s.may = false := by unfold St.may; rw [h]; rfl
theorem may_goods {s : St} (h : s.goods = false) : s.may = false := by unfold St.may; rw [h]; simp
theorem may_holds {s : St} (h : s.holds = false) : s.may = false := by unfold St.may; rw [h]; simp
theorem may_counts {s : St} (h : s.counts = false) : s.may = false := by unfold St.may; rw [h]; simp
theorem may_allIn {s : St} (h : s.allIn = false) : s.may = false := by unfold St.may; rw [h]; simp
theorem may_stands {s : St} {i : Nat} {g : Gr} (hg : s.gs[i]? = some g) (h : s.stands i g = false) : s.may = false := by unfold St.may; rw [allIx_no hg h, Bool.and_false]
set_option maxRecDepth 100000 in
set_option maxHeartbeats 16000000 in
theorem rstmay_any (h : StH) (s : St) (r : Bool) (hr : s.may = r) (w : World) (hk : StOk w h s) (hf : StFew s) : Calls Try.prog 27 #[stV h s] w fun e w' => e = .returned (.bool r) ∧ Ext w w' := by
  subst hr
  have HF := Lib.hid hf
  have f1 := hf.ms
  have f2 := hf.ps
  have f3 := hf.gs
  have f5 := hf.timers
  have F2 := Lib.hid hf.w
  have HPM := Lib.hid hf.prog
  have HK := Lib.hid hk
  obtain ⟨w1, hw1⟩ : ∃ w1, w.alloc (.cells #[.slice h.pa s.prog.length h.pc, .slice h.ga s.gs.length h.gc, .slice h.qa s.ps.length h.qc, .slice h.ma s.ms.length h.mc, .slice h.la s.glob.length h.lc, .int .i64 s.c0, .int .i64 s.c1, .int .i64 s.c2, .int .i64 s.c3, .slice h.a0 s.w0.length h.k0, .slice h.a1 s.w1.length h.k1, .slice h.a2 s.w2.length h.k2, .slice h.a3 s.w3.length h.k3, .slice h.ta s.timers.length h.tc, .int .i64 s.clock, .int .i64 s.procs] 32) = w1 := ⟨_, rfl⟩
  have HX1 : Hid (Ext w w1) := Lib.hid (by rw [← hw1]; exact (Ext.refl w).alloc _)
  have HB1 : Hid (w1.heap[w.heap.size]? = some (.cells (stC h s) 32 (0, 0))) := Lib.hid (by rw [← hw1]; exact blk_new w _)
  have HK1 := Lib.hid (hk.ext HX1.out)
  have HW1 := Lib.hid hw1
  clear hw1 hk
  clear hf
  have HWE := Lib.hid (whole_eq s)
  obtain ⟨bp, hbp⟩ : ∃ bp, Pg.may s.prog = bp := ⟨_, rfl⟩
  have HPC := Lib.hid (rpmay_any _ s.prog bp hbp w1 HK1.out.prog HPM.out.1 HPM.out.2)
  rw [hbp] at HWE
  clear hbp
  have q0 := st0 HB1.out
  unfold stV
  go_enter Try.func27, Try.ntmps27
  go_upto_region 1 with fail
  rw [HW1.out]
  generalize Value.agg #[.slice h.pa s.prog.length h.pc, .slice h.ga s.gs.length h.gc, .slice h.qa s.ps.length h.qc, .slice h.ma s.ms.length h.mc, .slice h.la s.glob.length h.lc, .int .i64 s.c0, .int .i64 s.c1, .int .i64 s.c2, .int .i64 s.c3, .slice h.a0 s.w0.length h.k0, .slice h.a1 s.w1.length h.k1, .slice h.a2 s.w2.length h.k2, .slice h.a3 s.w3.length h.k3, .slice h.ta s.timers.length h.tc, .int .i64 s.clock, .int .i64 s.procs] = sv0
  go_wp2_with fail
  refine HPC.out.mono ?_
  rintro e w3 ⟨rfl, hx3⟩
  have HX3 := Lib.hid hx3
  clear hx3 q0
  have q1 := st1 (HX3.out.blk HB1.out)
  have q2 := st2 (HX3.out.blk HB1.out)
  have q3 := st3 (HX3.out.blk HB1.out)
  have q15 := st15 (HX3.out.blk HB1.out)
  have q14 := st14 (HX3.out.blk HB1.out)
  have q13 := st13 (HX3.out.blk HB1.out)
  cases bp with
  | false =>
    have HNO : Hid (s.may = false) := Lib.hid (may_whole (by rw [HWE.out]; rfl))
    go_wp2
    (go_ret; exact ⟨by rw [HNO.out] <;> rfl, HX1.out.trans HX3.out⟩)
  | true =>
  by_cases g1 : (s.gs.length : Int) < 1
  · have HNO : Hid (s.may = false) := Lib.hid (may_whole (by rw [HWE.out, wiB_no (by omega)]; rfl))
    go_wp2
    (go_ret; exact ⟨by rw [HNO.out] <;> rfl, HX1.out.trans HX3.out⟩)
  by_cases g2 : (1000 : Int) < (s.gs.length : Int)
  · have HNO : Hid (s.may = false) := Lib.hid (may_whole (by rw [HWE.out, wiB_no (by omega)]; rfl))
    go_wp2
    (go_ret; exact ⟨by rw [HNO.out] <;> rfl, HX1.out.trans HX3.out⟩)
  by_cases g3 : s.ps.length = 8
  rotate_left 1
  · have HNO : Hid (s.may = false) := Lib.hid (may_whole (by rw [HWE.out, decide_eq_false g3]; simp))
    have g3' : ((s.ps.length : Int) != 8) = true := by simp; omega
    go_wp2
    (go_ret; exact ⟨by rw [HNO.out] <;> rfl, HX1.out.trans HX3.out⟩)
  have g3' : ((s.ps.length : Int) != 8) = false := by simp; omega
  have G3 := Lib.hid g3
  clear g3
  by_cases g4 : s.procs < 1
  · have HNO : Hid (s.may = false) := Lib.hid (may_whole (by rw [HWE.out, wiB_no (n := s.procs) (by omega)]; simp))
    go_wp2
    (go_ret; exact ⟨by rw [HNO.out] <;> rfl, HX1.out.trans HX3.out⟩)
  by_cases g5 : 8 < s.procs
  · have HNO : Hid (s.may = false) := Lib.hid (may_whole (by rw [HWE.out, wiB_no (n := s.procs) (by omega)]; simp))
    go_wp2
    (go_ret; exact ⟨by rw [HNO.out] <;> rfl, HX1.out.trans HX3.out⟩)
  by_cases g6 : (1000 : Int) < (s.ms.length : Int)
  · have HNO : Hid (s.may = false) := Lib.hid (may_whole (by rw [HWE.out, decide_eq_false (p := s.ms.length ≤ 1000) (by omega)]; simp))
    go_wp2
    (go_ret; exact ⟨by rw [HNO.out] <;> rfl, HX1.out.trans HX3.out⟩)
  have HWE2 : Hid (s.whole = (St.low s.clock && decide (Sl.May s.timers))) := Lib.hid (by
    rw [HWE.out, wiB_yes (n := (s.gs.length : Int)) (by omega) (by omega), decide_eq_true G3.out, decide_eq_true (show s.ms.length ≤ 1000 by omega), wiB_yes (n := s.procs) (by omega) (by omega)]; rfl)
  go_wp2_with fail
  refine (rlow_k s.clock _ rfl _).mono ?_
  rintro e w' ⟨rfl, rfl⟩
  cases b5 : St.low s.clock with
  | false =>
    have HNO : Hid (s.may = false) := Lib.hid (may_whole (by rw [HWE2.out, b5]; rfl))
    go_wp2
    (go_ret; exact ⟨by rw [HNO.out] <;> rfl, HX1.out.trans HX3.out⟩)
  | true =>
  have HWE3 : Hid (s.whole = decide (Sl.May s.timers)) := Lib.hid (by rw [HWE2.out, b5]; rfl)
  have HSM := Lib.hid (fun w (hx : Ext w1 w) => srmay_any _ s.timers w (HK1.out.timers.ext hx) (by omega))
  obtain ⟨bt, hbt⟩ : ∃ bt, decide (Sl.May s.timers) = bt := ⟨_, rfl⟩
  rw [hbt] at HWE3 HSM
  clear hbt
  go_wp2_with fail
  refine (HSM.out _ HX3.out).mono ?_
  rintro e w4 ⟨rfl, hx4⟩
  have HX4 := Lib.hid (HX3.out.trans hx4)
  clear hx4 q1 q2 q3 q13 q14 q15 HX3
  have HX3 := Lib.hid HX4.out
  cases bt with
  | false =>
    have HNO : Hid (s.may = false) := Lib.hid (may_whole HWE3.out)
    go_wp2
    (go_ret; exact ⟨by rw [HNO.out] <;> rfl, HX1.out.trans HX3.out⟩)
  | true =>
  obtain ⟨⟨⟨q0, q1, q2, q3⟩, q4, q5, q6, q7⟩, ⟨q8, q9, q10, q11⟩, q12, q13, q14, q15⟩ := st16 (HX4.out.blk HB1.out)
  go_wp2_with fail
  refine (rgoods_any h s _ rfl _ (HK1.out.ext HX4.out) HF.out).mono ?_
  rintro e w5 ⟨rfl, hx5⟩
  have HX5 := Lib.hid (HX4.out.trans hx5)
  clear q0 q1 q2 q3 q4 q5 q6 q7 q8 q9 q10 q11 q12 q13 q14 q15
  clear hx5 HX3
  have HX3 := Lib.hid HX5.out
  cases bg : s.goods with
  | false =>
    have HNO : Hid (s.may = false) := Lib.hid (may_goods bg)
    go_wp2
    (go_ret; exact ⟨by rw [HNO.out] <;> rfl, HX1.out.trans HX3.out⟩)
  | true =>
  generalize Value.agg #[.slice h.pa s.prog.length h.pc, .slice h.ga s.gs.length h.gc, .slice h.qa s.ps.length h.qc, .slice h.ma s.ms.length h.mc, .slice h.la s.glob.length h.lc, .int .i64 s.c0, .int .i64 s.c1, .int .i64 s.c2, .int .i64 s.c3, .slice h.a0 s.w0.length h.k0, .slice h.a1 s.w1.length h.k1, .slice h.a2 s.w2.length h.k2, .slice h.a3 s.w3.length h.k3, .slice h.ta s.timers.length h.tc, .int .i64 s.clock, .int .i64 s.procs] = sv1
  obtain ⟨⟨⟨q0, q1, q2, q3⟩, q4, q5, q6, q7⟩, ⟨q8, q9, q10, q11⟩, q12, q13, q14, q15⟩ := st16 (HX5.out.blk HB1.out)
  go_wp2_with fail
  refine (rholds_any h s _ rfl _ (HK1.out.ext HX5.out) HF.out).mono ?_
  rintro e w6 ⟨rfl, hx6⟩
  have HX6 := Lib.hid (HX5.out.trans hx6)
  clear q0 q1 q2 q3 q4 q5 q6 q7 q8 q9 q10 q11 q12 q13 q14 q15
  clear hx6 HX3
  have HX3 := Lib.hid HX6.out
  cases bh : s.holds with
  | false =>
    have HNO : Hid (s.may = false) := Lib.hid (may_holds bh)
    go_wp2
    (go_ret; exact ⟨by rw [HNO.out] <;> rfl, HX1.out.trans HX3.out⟩)
  | true =>
  generalize Value.agg #[.slice h.pa s.prog.length h.pc, .slice h.ga s.gs.length h.gc, .slice h.qa s.ps.length h.qc, .slice h.ma s.ms.length h.mc, .slice h.la s.glob.length h.lc, .int .i64 s.c0, .int .i64 s.c1, .int .i64 s.c2, .int .i64 s.c3, .slice h.a0 s.w0.length h.k0, .slice h.a1 s.w1.length h.k1, .slice h.a2 s.w2.length h.k2, .slice h.a3 s.w3.length h.k3, .slice h.ta s.timers.length h.tc, .int .i64 s.clock, .int .i64 s.procs] = sv2
  have HMAY : Hid (s.may = (s.counts && s.allIn && allIx s.stands 0 s.gs)) := Lib.hid (by unfold St.may; rw [HWE3.out, bg, bh]; rfl)
  clear bg bh b5
  go_wp2_with fail
  go_loopw [3] (fun iv wr => ∃ k : Nat, k ≤ 4 ∧ iv = .int .i64 k ∧ (∀ j, j < k → s.okAt j) ∧ Ext w1 wr) (fun iv _ => 4 - (intOf iv).toNat)
  case atStart => exact ⟨0, by omega, rfl, fun j h => by omega, HX6.out⟩
  case round =>
    clear HX3 HX4 HX5 HX6
    obtain ⟨k, hk, rfl, hall, hx⟩ := hrel
    have HALL := Lib.hid hall
    have HX3 := Lib.hid hx
    clear hall hx
    by_cases hlt : k < 4
    · as_aux_lemma =>
      obtain ⟨c, hc1, hc2⟩ := stC_cnt (h := h) (s := s) hlt
      obtain ⟨A0, d0, l, hcell, hI, hl⟩ := HK1.out.wait hlt
      have HNK : Hid (St.okCnt c l = false → s.counts = false) := Lib.hid (St.counts_no hc2 hl)
      have HYK : Hid (St.okCnt c l = true → s.okAt k) := Lib.hid fun h c' l' h1 h2 => by rw [hc2] at h1; rw [hl] at h2; injection h1 with h1; injection h2 with h2; subst h1 h2; exact h
      have q9 := blk_cell (HX3.out.blk HB1.out) (9 + k) _ hcell
      have q5 := blk_cell (HX3.out.blk HB1.out) (5 + k) _ hc1
      have hll := wts_few F2.out hl
      clear hc1 hc2 hl hI hcell
      by_cases c1 : c < 0
      · have HNO : Hid (s.may = false) := Lib.hid (may_counts (HNK.out (by unfold St.okCnt; rw [decide_eq_false (by omega)]; rfl)))
        go_wp2
        (go_ret; exact ⟨by rw [HNO.out] <;> rfl, HX1.out.trans HX3.out⟩)
      by_cases c2 : 1000000 < c
      · have HNO : Hid (s.may = false) := Lib.hid (may_counts (HNK.out (by unfold St.okCnt; rw [decide_eq_false (by omega)]; rfl)))
        go_wp2
        (go_ret; exact ⟨by rw [HNO.out] <;> rfl, HX1.out.trans HX3.out⟩)
      by_cases c0 : 0 < c
      · by_cases l0 : 0 < l.length
        · have HNO : Hid (s.may = false) := Lib.hid (may_counts (HNK.out (by unfold St.okCnt; rw [decide_eq_true c0, decide_eq_true l0]; simp)))
          have l0' : (0 : Int) < (l.length : Int) := by omega
          go_wp2
          (go_ret; exact ⟨by rw [HNO.out] <;> rfl, HX1.out.trans HX3.out⟩)
        · have HOKK : Hid (s.okAt k) := Lib.hid (HYK.out (by unfold St.okCnt; rw [decide_eq_true (show 0 ≤ c ∧ c ≤ 1000000 by omega), decide_eq_false l0, Bool.and_false]; rfl))
          obtain rfl : l = [] := by cases l with | nil => rfl | cons a b => simp at l0
          simp only [List.length_nil] at *
          go_wp2
          go_roundw
          case rel =>
            refine ⟨k + 1, by omega, by go_num, fun j hj => ?_, HX3.out⟩
            by_cases hjk : j < k
            · exact HALL.out j hjk
            · obtain rfl : j = k := by omega
              exact HOKK.out
          case measure => simp [intOf]; omega
      · have HOKK : Hid (s.okAt k) := Lib.hid (HYK.out (by unfold St.okCnt; rw [decide_eq_true (show 0 ≤ c ∧ c ≤ 1000000 by omega), decide_eq_false c0]; rfl))
        go_wp2
        go_roundw
        case rel =>
          refine ⟨k + 1, by omega, by go_num, fun j hj => ?_, HX3.out⟩
          by_cases hjk : j < k
          · exact HALL.out j hjk
          · obtain rfl : j = k := by omega
            exact HOKK.out
        case measure => simp [intOf]; omega
    · as_aux_lemma =>
      have HCO : Hid (s.counts = true) := Lib.hid (St.counts_yes fun j hj => HALL.out j (by omega))
      have q1 := st1 (HX3.out.blk HB1.out)
      go_upto_region 9 with fail
      clear q1
      obtain ⟨⟨⟨q0, q1, q2, q3⟩, q4, q5, q6, q7⟩, ⟨q8, q9, q10, q11⟩, q12, q13, q14, q15⟩ := st16 (HX3.out.blk HB1.out)
      go_wp2_with fail
      refine (rruns_any h s _ (HK1.out.ext HX3.out) HF.out).mono ?_
      rintro e w7 ⟨A7, c7, rfl, ho7, hx7⟩
      have HX7 := Lib.hid (HX3.out.trans hx7)
      have HI7 := Lib.hid ho7.at.2
      clear q0 q1 q2 q3 q4 q5 q6 q7 q8 q9 q10 q11 q12 q13 q14 q15
      generalize Value.agg #[.slice h.pa s.prog.length h.pc, .slice h.ga s.gs.length h.gc, .slice h.qa s.ps.length h.qc, .slice h.ma s.ms.length h.mc, .slice h.la s.glob.length h.lc, .int .i64 s.c0, .int .i64 s.c1, .int .i64 s.c2, .int .i64 s.c3, .slice h.a0 s.w0.length h.k0, .slice h.a1 s.w1.length h.k1, .slice h.a2 s.w2.length h.k2, .slice h.a3 s.w3.length h.k3, .slice h.ta s.timers.length h.tc, .int .i64 s.clock, .int .i64 s.procs] = sw0
      clear ho7 hx7
      go_wp2_with fail
      refine (rwithin_any (.slice A7 s.runs.length c7) s.runs s.gs.length _ rfl _ HI7.out (by have := St.runs_len HF.out; omega)).mono ?_
      rintro e w' ⟨rfl, rfl⟩
      cases bw0 : St.within s.runs s.gs.length with
      | false =>
        have HNO : Hid (s.may = false) := Lib.hid (may_allIn (by unfold St.allIn; rw [bw0]; simp))
        go_wp2
        go_ret
        exact ⟨by rw [HNO.out] <;> rfl, HX1.out.trans HX7.out⟩
      | true =>
      obtain ⟨⟨⟨q0, q1, q2, q3⟩, q4, q5, q6, q7⟩, ⟨q8, q9, q10, q11⟩, q12, q13, q14, q15⟩ := st16 (HX7.out.blk HB1.out)
      go_wp2_with fail
      refine (rwaiters_any h s _ (HK1.out.ext HX7.out) HF.out).mono ?_
      rintro e w8 ⟨A8, c8, rfl, ho8, hx8⟩
      have HX8 := Lib.hid (HX7.out.trans hx8)
      have HI8 := Lib.hid ho8.at.2
      clear q0 q1 q2 q3 q4 q5 q6 q7 q8 q9 q10 q11 q12 q13 q14 q15
      generalize Value.agg #[.slice h.pa s.prog.length h.pc, .slice h.ga s.gs.length h.gc, .slice h.qa s.ps.length h.qc, .slice h.ma s.ms.length h.mc, .slice h.la s.glob.length h.lc, .int .i64 s.c0, .int .i64 s.c1, .int .i64 s.c2, .int .i64 s.c3, .slice h.a0 s.w0.length h.k0, .slice h.a1 s.w1.length h.k1, .slice h.a2 s.w2.length h.k2, .slice h.a3 s.w3.length h.k3, .slice h.ta s.timers.length h.tc, .int .i64 s.clock, .int .i64 s.procs] = sw1
      clear ho8 hx8
      go_wp2_with fail
      refine (rwithin_any (.slice A8 s.waiters.length c8) s.waiters s.gs.length _ rfl _ HI8.out (by have := St.waiters_len HF.out; omega)).mono ?_
      rintro e w' ⟨rfl, rfl⟩
      cases bw1 : St.within s.waiters s.gs.length with
      | false =>
        have HNO : Hid (s.may = false) := Lib.hid (may_allIn (by unfold St.allIn; rw [bw1]; simp))
        go_wp2
        go_ret
        exact ⟨by rw [HNO.out] <;> rfl, HX1.out.trans HX8.out⟩
      | true =>
      obtain ⟨⟨⟨q0, q1, q2, q3⟩, q4, q5, q6, q7⟩, ⟨q8, q9, q10, q11⟩, q12, q13, q14, q15⟩ := st16 (HX8.out.blk HB1.out)
      go_wp2_with fail
      refine (ronM_any h s true _ (HK1.out.ext HX8.out) HF.out).mono ?_
      rintro e w9 ⟨A9, c9, rfl, ho9, hx9⟩
      have HX9 := Lib.hid (HX8.out.trans hx9)
      have HI9 := Lib.hid ho9.at.2
      clear q0 q1 q2 q3 q4 q5 q6 q7 q8 q9 q10 q11 q12 q13 q14 q15
      generalize Value.agg #[.slice h.pa s.prog.length h.pc, .slice h.ga s.gs.length h.gc, .slice h.qa s.ps.length h.qc, .slice h.ma s.ms.length h.mc, .slice h.la s.glob.length h.lc, .int .i64 s.c0, .int .i64 s.c1, .int .i64 s.c2, .int .i64 s.c3, .slice h.a0 s.w0.length h.k0, .slice h.a1 s.w1.length h.k1, .slice h.a2 s.w2.length h.k2, .slice h.a3 s.w3.length h.k3, .slice h.ta s.timers.length h.tc, .int .i64 s.clock, .int .i64 s.procs] = sw2
      clear ho9 hx9
      go_wp2_with fail
      refine (rwithin_any (.slice A9 (s.onM true).length c9) (s.onM true) s.gs.length _ rfl _ HI9.out (by have := St.onM_len HF.out true; omega)).mono ?_
      rintro e w' ⟨rfl, rfl⟩
      cases bw2 : St.within (s.onM true) s.gs.length with
      | false =>
        have HNO : Hid (s.may = false) := Lib.hid (may_allIn (by unfold St.allIn; rw [bw2]; simp))
        go_wp2
        go_ret
        exact ⟨by rw [HNO.out] <;> rfl, HX1.out.trans HX9.out⟩
      | true =>
      obtain ⟨⟨⟨q0, q1, q2, q3⟩, q4, q5, q6, q7⟩, ⟨q8, q9, q10, q11⟩, q12, q13, q14, q15⟩ := st16 (HX9.out.blk HB1.out)
      go_wp2_with fail
      refine (ronM_any h s false _ (HK1.out.ext HX9.out) HF.out).mono ?_
      rintro e w10 ⟨A10, c10, rfl, ho10, hx10⟩
      have HX10 := Lib.hid (HX9.out.trans hx10)
      have HI10 := Lib.hid ho10.at.2
      clear q0 q1 q2 q3 q4 q5 q6 q7 q8 q9 q10 q11 q12 q13 q14 q15
      generalize Value.agg #[.slice h.pa s.prog.length h.pc, .slice h.ga s.gs.length h.gc, .slice h.qa s.ps.length h.qc, .slice h.ma s.ms.length h.mc, .slice h.la s.glob.length h.lc, .int .i64 s.c0, .int .i64 s.c1, .int .i64 s.c2, .int .i64 s.c3, .slice h.a0 s.w0.length h.k0, .slice h.a1 s.w1.length h.k1, .slice h.a2 s.w2.length h.k2, .slice h.a3 s.w3.length h.k3, .slice h.ta s.timers.length h.tc, .int .i64 s.clock, .int .i64 s.procs] = sw3
      clear ho10 hx10
      go_wp2_with fail
      refine (rwithin_any (.slice A10 (s.onM false).length c10) (s.onM false) s.gs.length _ rfl _ HI10.out (by have := St.onM_len HF.out false; omega)).mono ?_
      rintro e w' ⟨rfl, rfl⟩
      cases bw3 : St.within (s.onM false) s.gs.length with
      | false =>
        have HNO : Hid (s.may = false) := Lib.hid (may_allIn (by unfold St.allIn; rw [bw3]; simp))
        go_wp2
        go_ret
        exact ⟨by rw [HNO.out] <;> rfl, HX1.out.trans HX10.out⟩
      | true =>
      have HMA2 : Hid (s.may = allIx s.stands 0 s.gs) := Lib.hid (by rw [HMAY.out, HCO.out]; unfold St.allIn; rw [bw0, bw1, bw2, bw3]; rfl)
      clear bw0 bw1 bw2 bw3
      go_wp2_with fail
      go_loopw [5] (fun iv wr => ∃ k : Nat, k ≤ s.gs.length ∧ iv = .int .i64 ((k : Int) + 1) ∧ (∀ (j : Nat) g, s.gs[j]? = some g → j < k → s.stands j g = true) ∧ Ext w1 wr) (fun iv _ => s.gs.length + 1 - (intOf iv).toNat)
      case atStart => exact ⟨0, by omega, by simp, fun j g _ h => by omega, HX10.out⟩
      case round =>
        obtain ⟨k, hk, rfl, hall, hx⟩ := hrel
        have HAL := Lib.hid hall
        have HXR := Lib.hid hx
        clear hall hx
        by_cases hlt2 : k < s.gs.length
        · as_aux_lemma =>
          obtain ⟨g, hg⟩ : ∃ g, s.gs[k]? = some g := ⟨_, List.getElem?_eq_getElem hlt2⟩
          have HG := Lib.hid hg
          have HSD := Lib.hid (fun w (hx : Ext w1 w) => rstands_any h s k g hg _ rfl w (HK1.out.ext hx) HF.out)
          have e1 : (k : Int) + 1 ≤ (s.gs.length : Int) := by omega
          clear hg
          obtain ⟨⟨⟨q0, q1, q2, q3⟩, q4, q5, q6, q7⟩, ⟨q8, q9, q10, q11⟩, q12, q13, q14, q15⟩ := st16 (HXR.out.blk HB1.out)
          go_wp2_with fail
          refine (HSD.out _ HXR.out).mono ?_
          rintro e wz ⟨rfl, hxz⟩
          have HXZ := Lib.hid (HXR.out.trans hxz)
          clear hxz
          clear q0 q1 q2 q3 q4 q5 q6 q7 q8 q9 q10 q11 q12 q13 q14 q15
          generalize Value.agg #[.slice h.pa s.prog.length h.pc, .slice h.ga s.gs.length h.gc, .slice h.qa s.ps.length h.qc, .slice h.ma s.ms.length h.mc, .slice h.la s.glob.length h.lc, .int .i64 s.c0, .int .i64 s.c1, .int .i64 s.c2, .int .i64 s.c3, .slice h.a0 s.w0.length h.k0, .slice h.a1 s.w1.length h.k1, .slice h.a2 s.w2.length h.k2, .slice h.a3 s.w3.length h.k3, .slice h.ta s.timers.length h.tc, .int .i64 s.clock, .int .i64 s.procs] = sx
          cases bs : s.stands k g with
          | false =>
            have HNO : Hid (s.may = false) := Lib.hid (may_stands HG.out bs)
            go_wp2
            go_ret
            exact ⟨by rw [HNO.out] <;> rfl, HX1.out.trans HXZ.out⟩
          | true =>
            have HBS := Lib.hid bs
            clear bs
            go_wp2
            go_roundw
            case rel =>
              refine ⟨k + 1, by omega, by simp, fun j y hj hjk => ?_, HXZ.out⟩
              by_cases hjk2 : j < k
              · exact HAL.out j y hj hjk2
              · obtain rfl : j = k := by omega
                rw [← some_eq HG.out hj]
                exact HBS.out
            case measure => simp [intOf]; omega
        · have e1 : decide ((k : Int) + 1 ≤ (s.gs.length : Int)) = false := by simp; omega
          have HY : Hid (s.may = true) := Lib.hid (by rw [HMA2.out]; exact allIx_yes fun j g hj => HAL.out j g hj (by have := (List.getElem?_eq_some_iff.1 hj).1; omega))
          go_wp2
          go_ret
          exact ⟨by rw [HY.out] <;> rfl, HX1.out.trans HXR.out⟩
theorem St.may_stands {s : St} (h : s.may = true) {j : Nat} {g : Gr} (hg : s.gs[j]? = some g) : s.stands j g = true := by
  unfold St.may at h
  rw [Bool.and_eq_true] at h
  have := allIx_iff.1 h.2 j g hg
  rwa [Nat.zero_add] at this
theorem st_box (wa : World) (h : StH) (s : St) : ∃ wb wc, wa.alloc (.cells #[.slice none 0 0, .slice none 0 0, .slice none 0 0, .slice none 0 0, .slice none 0 0, .int .i64 0, .int .i64 0, .int .i64 0, .int .i64 0, .slice none 0 0, .slice none 0 0, .slice none 0 0, .slice none 0 0, .slice none 0 0, .int .i64 0, .int .i64 0] 32) = wb ∧ wb.setCells wa.heap.size 0 (stL h s) = wc ∧ wb.there wa.heap.size 0 (stL h s).length ∧ wc.heap[wa.heap.size]? = some (.cells (stC h s) 32 (0, 0)) ∧ Ext wa wc := by
  have hb := blk_new wa (.cells #[.slice none 0 0, .slice none 0 0, .slice none 0 0, .slice none 0 0, .slice none 0 0, .int .i64 0, .int .i64 0, .int .i64 0, .int .i64 0, .slice none 0 0, .slice none 0 0, .slice none 0 0, .slice none 0 0, .slice none 0 0, .int .i64 0, .int .i64 0] 32)
  refine ⟨_, _, rfl, rfl, there_row hb (Nat.le_refl 16), setCells_at [.slice none 0 0, .slice none 0 0, .slice none 0 0, .slice none 0 0, .slice none 0 0, .int .i64 0, .int .i64 0, .int .i64 0, .int .i64 0, .slice none 0 0, .slice none 0 0, .slice none 0 0, .slice none 0 0, .slice none 0 0, .int .i64 0, .int .i64 0] (stL h s) rfl hb, ?_⟩
  exact ((Ext.refl wa).alloc _).upd (setCells_upd _ _ _ _) (Nat.le_refl _)
theorem nest_one {w : World} {b g n : Nat} {l : List (Int × Int)} (hg : w.heap[g]? = some (.cells #[.slice (some ⟨b, 0, none⟩) n n] 69 (0, 0))) (hr : RowsAt 2 pairL w (.slice (some ⟨b, 0, none⟩) n n) l) : NestAt 2 pairL w (.slice (some ⟨g, 0, none⟩) 1 1) [l] := by
  refine ⟨[.slice (some ⟨b, 0, none⟩) n n], rfl, ⟨_, _, rfl, Nat.le_refl 1, fun _ => ⟨g, 0, rfl, blk_lt hg, fun j x hj i u hu => ?_⟩⟩, fun i u xs hu hx => ?_⟩
  · match j, i with
    | 0, 0 => simp at hj; subst hj; simp [oneL] at hu; subst hu; exact blk_cell hg _ _ rfl
    | 0, i + 1 => simp [oneL] at hu
    | j + 1, _ => simp at hj
  · match i with
    | 0 => simp at hu hx; subst hu hx; exact hr
    | i + 1 => simp at hu
theorem St.may_parts {s : St} (h : s.may = true) : s.whole = true ∧ s.goods = true ∧ s.holds = true ∧ s.counts = true ∧ s.allIn = true ∧ ∀ (j : Nat) g, s.gs[j]? = some g → s.stands j g = true := by
  have h0 := h
  unfold St.may at h
  simp only [Bool.and_eq_true] at h
  obtain ⟨⟨⟨⟨⟨h1, h2⟩, h3⟩, h4⟩, h5⟩, h6⟩ := h
  exact ⟨h1, h2, h3, h4, h5, fun j g hg => St.may_stands h0 hg⟩
theorem OwnRows.but {α : Type} {e : TypeId} {m : Nat} {f : α → List Value} {w w' : World} {B : Nat} {v : Value} {xs : List α} {S : Nat → Prop} (h : OwnRows e m f w B v xs) (k : But S w w') (hs : ∀ b, v.ownBlock = some b → ¬ S b) : OwnRows e m f w' B v xs := by
  refine ⟨h.1, ?_⟩
  rcases h.2 with h1 | ⟨g, cap, cur, rfl, hb, hg, rest⟩
  · exact .inl h1
  · exact .inr ⟨g, cap, cur, rfl, hb, (k.block g (blk_lt hg) (hs g rfl)).trans hg, rest⟩
theorem OwnInts.but {w w' : World} {B : Nat} {v : Value} {xs : List Int} {S : Nat → Prop} (h : OwnInts w B v xs) (k : But S w w') (hs : ∀ b, v.ownBlock = some b → ¬ S b) : OwnInts w' B v xs := by
  refine ⟨h.1, ?_⟩
  rcases h.2 with h1 | ⟨g, cap, cur, rfl, hb, hg, rest⟩
  · exact .inl h1
  · exact .inr ⟨g, cap, cur, rfl, hb, (k.block g (blk_lt hg) (hs g rfl)).trans hg, rest⟩
theorem StApart.but {B T : Nat} {w w' : World} {I : Nat → Nat × Nat} {h : StH} {s : St} {S : Nat → Prop} (k : StApart B w I h s) (c : But S w w') (hT : ∀ i, i < 10 → (I i).2 ≤ T) (hs : ∀ b, B ≤ b → b < T → ¬ S b) : StApart B w' I h s := by
  have r := fun (i : Nat) (hi : i < 10) (b : Nat) (h1 : (I i).1 ≤ b) (h2 : b < (I i).2) => hs b (Nat.le_trans (k.low i hi).1 h1) (Nat.lt_of_lt_of_le h2 (hT i hi))
  exact ⟨fun i hi => ⟨(k.low i hi).1, (k.low i hi).2.1, Nat.le_trans (k.low i hi).2.2 c.size⟩, k.apart, k.prog.but c (r 0 (by omega)),
    ⟨k.gs.1.but c fun b hb => r 1 (by omega) b (k.gs.1.lt b hb).1 (k.gs.2 b hb), k.gs.2⟩,
    ⟨k.ps.1.but c fun b hb => r 2 (by omega) b (k.ps.1.lt b hb).1 (k.ps.2 b hb), k.ps.2⟩,
    ⟨k.ms.1.but c fun b hb => r 3 (by omega) b (k.ms.1.lt b hb).1 (k.ms.2 b hb), k.ms.2⟩,
    ⟨k.glob.1.but c fun b hb => r 4 (by omega) b (World.ownsRow.lt k.glob.1 b hb).1 (k.glob.2 b hb), k.glob.2⟩,
    ⟨k.w0.1.but c fun b hb => r 5 (by omega) b (World.ownsRow.lt k.w0.1 b hb).1 (k.w0.2 b hb), k.w0.2⟩,
    ⟨k.w1.1.but c fun b hb => r 6 (by omega) b (World.ownsRow.lt k.w1.1 b hb).1 (k.w1.2 b hb), k.w1.2⟩,
    ⟨k.w2.1.but c fun b hb => r 7 (by omega) b (World.ownsRow.lt k.w2.1 b hb).1 (k.w2.2 b hb), k.w2.2⟩,
    ⟨k.w3.1.but c fun b hb => r 8 (by omega) b (World.ownsRow.lt k.w3.1 b hb).1 (k.w3.2 b hb), k.w3.2⟩,
    ⟨OwnRows.but k.timers.1 c fun b hb => r 9 (by omega) b (OwnRows.lt k.timers.1 b hb).1 (k.timers.2 b hb), k.timers.2⟩⟩
def advK (A : Option Addr) (k c : Nat) : Option Addr := if c = k then A else A.map fun a => a.add k
theorem isize_run : ∀ w, (sizeOf 3).run Try.prog w = .ok 1 w := fun w => by kernel_rfl
theorem irun_to (A : Option Addr) (n c k : Nat) (h1 : k ≤ n) (h2 : n ≤ c) (v : World) : (Instr.slice 27 (.slice A n c) none (some (.int .i64 k)) none).run Try.prog v = .ok (.slice A k c) v := by
  have hk : (k : Int) ≤ (c : Int) := by omega
  simp [Instr.slice, run_underlying Try.underlying27, Instr.sliceBounds, Instr.sliceBound, asIntOf, hk, isize_run]
  rw [if_pos (by omega)]
  have hA' : (if c = 0 then A else Option.map (fun x => x.add 0) A) = A := by cases A <;> simp [Addr.add]
  rw [hA']
theorem irun_from (A : Option Addr) (n c k : Nat) (h1 : k ≤ n) (h2 : n ≤ c) (v : World) : (Instr.slice 27 (.slice A n c) (some (.int .i64 k)) none none).run Try.prog v = .ok (.slice (advK A k c) (n - k) (c - k)) v := by
  have hk : (k : Int) ≤ (n : Int) := by omega
  simp [Instr.slice, run_underlying Try.underlying27, Instr.sliceBounds, Instr.sliceBound, asIntOf, hk, isize_run]
  rw [if_pos h1]
  rfl
theorem IntsAt.behind {A : Option Addr} {n c k : Nat} {w : World} {xs : List Int} (h : IntsAt w (.slice A n c) xs) (hk : k ≤ xs.length) (hc : n ≤ c) : IntsAt w (.slice (advK A k c) (n - k) (c - k)) (xs.drop k) := by
  obtain ⟨A', c', hv, hA⟩ := h
  simp only [Value.slice.injEq] at hv
  obtain ⟨rfl, rfl, rfl⟩ := hv
  refine ⟨_, _, by rw [List.length_drop], fun h0 => ?_⟩
  rw [List.length_drop] at h0
  obtain ⟨b, o, hb, hlt, hcell⟩ := hA (by omega)
  refine ⟨b, o + k, ?_, hlt, fun j x hj => ?_⟩
  · unfold advK
    rw [if_neg (by omega), hb]
    simp [Addr.add]
  · rw [List.getElem?_drop] at hj
    have := hcell (k + j) x hj
    rwa [show o + (k + j) = o + k + j by omega] at this
theorem setCells_mid {g : Nat} {T : TypeId} : ∀ (ds : List Value) (w : World) (cs : Array Value) (i : Nat), w.heap[g]? = some (.cells cs T (0, 0)) → i + ds.length ≤ cs.size → ∃ cs', (w.setCells g i ds).heap[g]? = some (.cells cs' T (0, 0)) ∧ cs'.size = cs.size ∧ ∀ j, cs'[j]? = if i ≤ j ∧ j < i + ds.length then ds[j - i]? else cs[j]?
  | [], w, cs, i, h, _ => ⟨cs, h, rfl, fun j => by rw [if_neg (by simp <;> omega)]⟩
  | d :: ds, w, cs, i, h, hl => by
    simp only [List.length_cons] at hl
    obtain ⟨cs', h1, h2, h3⟩ := setCells_mid ds (w.setCell ⟨g, i, none⟩ d) (cs.setIfInBounds i d) (i + 1) (blk_set h i d) (by simp; omega)
    refine ⟨cs', h1, by simpa using h2, fun j => ?_⟩
    rw [h3 j, List.length_cons]
    by_cases hj : j = i
    · subst hj
      rw [if_neg (by omega), if_pos (by omega), Nat.sub_self, List.getElem?_cons_zero, Array.getElem?_setIfInBounds_self_of_lt (by omega)]
    · by_cases hin : i + 1 ≤ j ∧ j < i + 1 + ds.length
      · rw [if_pos hin, if_pos (by omega), show j - i = (j - (i + 1)) + 1 by omega, List.getElem?_cons_succ]
      · rw [if_neg hin, if_neg (by omega), Array.getElem?_setIfInBounds_ne (Ne.symm hj)]
theorem OwnRows.setCells {α : Type} {e : TypeId} {m : Nat} {f : α → List Value} {w : World} {B : Nat} {v : Value} {xs : List α} (hf : ∀ x, (f x).length = m) (h : OwnRows e m f w B v xs) {i : Nat} {x x' : α} (hi : xs[i]? = some x) {j : Nat} {ds : List Value} (hj : j + ds.length ≤ m)
    (hx : ∀ t, t < m → (f x')[t]? = if j ≤ t ∧ t < j + ds.length then ds[t - j]? else (f x)[t]?) :
    ∃ g c, v = .slice (some ⟨g, 0, none⟩) xs.length c ∧ v.ownBlock = some g ∧ B ≤ g ∧ g < w.heap.size ∧ w.there g (i * m + j) ds.length ∧ OwnRows e m f (w.setCells g (i * m + j) ds) B v (xs.set i x') ∧ Upd g w (w.setCells g (i * m + j) ds) := by
  have hil := (List.getElem?_eq_some_iff.1 hi).1
  rcases h.2 with ⟨_, h0⟩ | ⟨g, cap, cur, rfl, hb, hg, hnc, hcm, hcs, htake⟩
  · omega
  · have hlt : i * m + j + ds.length ≤ cur.size := by
      have h1 : (i + 1) * m ≤ cap * m := Nat.mul_le_mul_right _ (by omega)
      rw [Nat.add_mul] at h1
      rw [hcs]
      omega
    obtain ⟨cs', h1, h2, h3⟩ := setCells_mid ds w cur (i * m + j) hg hlt
    refine ⟨g, cap, rfl, rfl, hb, blk_lt hg, fun k hk => ⟨?_, frozen_of_row _ _ _ _ _ hg⟩, ⟨?_, .inr ⟨g, cap, cs', ?_, hb, h1, ?_, hcm, h2.trans hcs, ?_⟩⟩, setCells_upd _ _ _ _⟩
    · rw [blk_cell hg _ _ (Array.getElem?_eq_getElem (by omega))]; rfl
    · rw [flatMap_len hf]
    · rw [List.length_set]
    · rw [List.length_set]; exact hnc
    · rw [List.length_set]
      apply List.ext_getElem?
      intro t
      by_cases ht : t < xs.length * m
      · have hm : 0 < m := Nat.pos_of_ne_zero fun e => by subst e; omega
        have hq : t / m < xs.length := Nat.div_lt_of_lt_mul (by rw [Nat.mul_comm]; exact ht)
        have hr : t % m < m := Nat.mod_lt _ hm
        have hjj : t / m * m + t % m = t := by rw [Nat.mul_comm]; exact Nat.div_add_mod t m
        have key : ∀ (y : α), (xs.set i x')[t / m]? = some y → ((xs.set i x').flatMap f)[t]? = (f y)[t % m]? := fun y hy => by
          have := flatMap_get hf (xs.set i x') (t / m) y hy (t % m) _ (List.getElem?_eq_getElem (by rw [hf]; exact hr))
          rw [hjj] at this
          rw [this, List.getElem?_eq_getElem (by rw [hf]; exact hr)]
        have key0 : ∀ (y : α), xs[t / m]? = some y → cur.toList[t]? = (f y)[t % m]? := fun y hy => by
          have := flatMap_get hf xs (t / m) y hy (t % m) _ (List.getElem?_eq_getElem (by rw [hf]; exact hr))
          rw [hjj, ← htake, List.getElem?_take, if_pos ht] at this
          rw [this, List.getElem?_eq_getElem (by rw [hf]; exact hr)]
        rw [List.getElem?_take, if_pos ht, Array.getElem?_toList, h3 t]
        by_cases hqi : t / m = i
        · subst hqi
          rw [key x' (List.getElem?_set_self hq), hx _ hr, ← key0 x hi]
          by_cases hin : j ≤ t % m ∧ t % m < j + ds.length
          · rw [if_pos hin, if_pos (by omega), show t - (t / m * m + j) = t % m - j by omega]
          · rw [if_neg hin, if_neg (by omega), Array.getElem?_toList]
        · have hout : ¬ (i * m + j ≤ t ∧ t < i * m + j + ds.length) := by
            rcases Nat.lt_or_gt_of_ne hqi with hl | hl
            · have h1 : (t / m + 1) * m ≤ i * m := Nat.mul_le_mul_right _ hl
              rw [Nat.add_mul] at h1
              omega
            · have h1 : (i + 1) * m ≤ t / m * m := Nat.mul_le_mul_right _ hl
              rw [Nat.add_mul] at h1
              omega
          rw [if_neg hout, key _ ((List.getElem?_set_ne (Ne.symm hqi)).trans (List.getElem?_eq_getElem hq)), ← key0 _ (List.getElem?_eq_getElem hq), Array.getElem?_toList]
      · rw [List.getElem?_take, if_neg ht, List.getElem?_eq_none (by rw [flatMap_len hf, List.length_set]; omega)]
def putI (I : Nat → Nat × Nat) (k : Nat) (J : Nat × Nat) : Nat → Nat × Nat := fun i => if i = k then J else I i
theorem putI_low {B n n' k : Nat} {I : Nat → Nat × Nat} {J : Nat × Nat} (h : ∀ i, i < 10 → B ≤ (I i).1 ∧ (I i).1 ≤ (I i).2 ∧ (I i).2 ≤ n) (hn : n ≤ n') (hJ : J = I k ∨ (n ≤ J.1 ∧ J.1 ≤ J.2 ∧ J.2 ≤ n')) (hk : k < 10) : ∀ i, i < 10 → B ≤ (putI I k J i).1 ∧ (putI I k J i).1 ≤ (putI I k J i).2 ∧ (putI I k J i).2 ≤ n' := fun i hi => by
  have h1 := h i hi
  have h2 := h k hk
  unfold putI
  split
  · rcases hJ with rfl | hJ
    · omega
    · omega
  · omega
theorem putI_apart {B n n' k : Nat} {I : Nat → Nat × Nat} {J : Nat × Nat} (h : ∀ i, i < 10 → B ≤ (I i).1 ∧ (I i).1 ≤ (I i).2 ∧ (I i).2 ≤ n) (ha : ∀ i j, i < 10 → j < 10 → i ≠ j → (I i).2 ≤ (I j).1 ∨ (I j).2 ≤ (I i).1) (hJ : J = I k ∨ (n ≤ J.1 ∧ J.1 ≤ J.2 ∧ J.2 ≤ n')) (hk : k < 10) :
    ∀ i j, i < 10 → j < 10 → i ≠ j → (putI I k J i).2 ≤ (putI I k J j).1 ∨ (putI I k J j).2 ≤ (putI I k J i).1 := fun i j hi hj hne => by
  have h1 := h i hi
  have h2 := h j hj
  have h3 := ha i j hi hj hne
  unfold putI
  split
  · split
    · omega
    · rcases hJ with rfl | hJ
      · rename_i e _; subst e; exact h3
      · omega
  · split
    · rcases hJ with rfl | hJ
      · rename_i e; subst e; exact h3
      · omega
    · exact h3
theorem StApart.withGs {B : Nat} {w w' : World} {I : Nat → Nat × Nat} {h : StH} {s : St} {S : Nat → Prop} (k : StApart B w I h s) (c : But S w w') (hs : ∀ b, B ≤ b → b < w.heap.size → S b → (I 1).1 ≤ b ∧ b < (I 1).2) {J : Nat × Nat} (hJ : J = I 1 ∨ (w.heap.size ≤ J.1 ∧ J.1 ≤ J.2 ∧ J.2 ≤ w'.heap.size)) {A : Option Addr} {cc : Nat} {l : List Gr} (hg : OwnRows 55 5 gL w' J.1 (.slice A l.length cc) l ∧ UnderB (.slice A l.length cc) J.2) : StApart B w' (putI I 1 J) { h with ga := A, gc := cc } { s with gs := l } := by
  have r := fun (i : Nat) (hi : i < 10) (h4 : i ≠ 1) (b : Nat) (h1 : (I i).1 ≤ b) (h2 : b < (I i).2) => show ¬ S b from fun hS => by
    have a1 := k.low i hi
    have a3 := hs b (by omega) (by omega) hS
    have a4 := k.apart i 1 hi (by omega) h4
    omega
  refine ⟨putI_low k.low c.size hJ (by omega), putI_apart k.low k.apart hJ (by omega), ?_, ?_, ?_, ?_, ?_, ?_, ?_, ?_, ?_, ?_⟩
  · exact k.prog.but c (r 0 (by omega) (by omega))
  · exact hg
  · exact ⟨k.ps.1.but c fun b hb => r 2 (by omega) (by omega) b (k.ps.1.lt b hb).1 (k.ps.2 b hb), k.ps.2⟩
  · exact ⟨k.ms.1.but c fun b hb => r 3 (by omega) (by omega) b (k.ms.1.lt b hb).1 (k.ms.2 b hb), k.ms.2⟩
  · exact ⟨k.glob.1.but c fun b hb => r 4 (by omega) (by omega) b (World.ownsRow.lt k.glob.1 b hb).1 (k.glob.2 b hb), k.glob.2⟩
  · exact ⟨k.w0.1.but c fun b hb => r 5 (by omega) (by omega) b (World.ownsRow.lt k.w0.1 b hb).1 (k.w0.2 b hb), k.w0.2⟩
  · exact ⟨k.w1.1.but c fun b hb => r 6 (by omega) (by omega) b (World.ownsRow.lt k.w1.1 b hb).1 (k.w1.2 b hb), k.w1.2⟩
  · exact ⟨k.w2.1.but c fun b hb => r 7 (by omega) (by omega) b (World.ownsRow.lt k.w2.1 b hb).1 (k.w2.2 b hb), k.w2.2⟩
  · exact ⟨k.w3.1.but c fun b hb => r 8 (by omega) (by omega) b (World.ownsRow.lt k.w3.1 b hb).1 (k.w3.2 b hb), k.w3.2⟩
  · exact ⟨OwnRows.but k.timers.1 c fun b hb => r 9 (by omega) (by omega) b (OwnRows.lt k.timers.1 b hb).1 (k.timers.2 b hb), k.timers.2⟩
theorem StApart.withPs {B : Nat} {w w' : World} {I : Nat → Nat × Nat} {h : StH} {s : St} {S : Nat → Prop} (k : StApart B w I h s) (c : But S w w') (hs : ∀ b, B ≤ b → b < w.heap.size → S b → (I 2).1 ≤ b ∧ b < (I 2).2) {J : Nat × Nat} (hJ : J = I 2 ∨ (w.heap.size ≤ J.1 ∧ J.1 ≤ J.2 ∧ J.2 ≤ w'.heap.size)) {A : Option Addr} {cc : Nat} {l : List Pr} (hg : OwnRows 40 13 pL w' J.1 (.slice A l.length cc) l ∧ UnderB (.slice A l.length cc) J.2) : StApart B w' (putI I 2 J) { h with qa := A, qc := cc } { s with ps := l } := by
  have r := fun (i : Nat) (hi : i < 10) (h4 : i ≠ 2) (b : Nat) (h1 : (I i).1 ≤ b) (h2 : b < (I i).2) => show ¬ S b from fun hS => by
    have a1 := k.low i hi
    have a3 := hs b (by omega) (by omega) hS
    have a4 := k.apart i 2 hi (by omega) h4
    omega
  refine ⟨putI_low k.low c.size hJ (by omega), putI_apart k.low k.apart hJ (by omega), ?_, ?_, ?_, ?_, ?_, ?_, ?_, ?_, ?_, ?_⟩
  · exact k.prog.but c (r 0 (by omega) (by omega))
  · exact ⟨k.gs.1.but c fun b hb => r 1 (by omega) (by omega) b (k.gs.1.lt b hb).1 (k.gs.2 b hb), k.gs.2⟩
  · exact hg
  · exact ⟨k.ms.1.but c fun b hb => r 3 (by omega) (by omega) b (k.ms.1.lt b hb).1 (k.ms.2 b hb), k.ms.2⟩
  · exact ⟨k.glob.1.but c fun b hb => r 4 (by omega) (by omega) b (World.ownsRow.lt k.glob.1 b hb).1 (k.glob.2 b hb), k.glob.2⟩
  · exact ⟨k.w0.1.but c fun b hb => r 5 (by omega) (by omega) b (World.ownsRow.lt k.w0.1 b hb).1 (k.w0.2 b hb), k.w0.2⟩
  · exact ⟨k.w1.1.but c fun b hb => r 6 (by omega) (by omega) b (World.ownsRow.lt k.w1.1 b hb).1 (k.w1.2 b hb), k.w1.2⟩
  · exact ⟨k.w2.1.but c fun b hb => r 7 (by omega) (by omega) b (World.ownsRow.lt k.w2.1 b hb).1 (k.w2.2 b hb), k.w2.2⟩
  · exact ⟨k.w3.1.but c fun b hb => r 8 (by omega) (by omega) b (World.ownsRow.lt k.w3.1 b hb).1 (k.w3.2 b hb), k.w3.2⟩
  · exact ⟨OwnRows.but k.timers.1 c fun b hb => r 9 (by omega) (by omega) b (OwnRows.lt k.timers.1 b hb).1 (k.timers.2 b hb), k.timers.2⟩
theorem StApart.withMs {B : Nat} {w w' : World} {I : Nat → Nat × Nat} {h : StH} {s : St} {S : Nat → Prop} (k : StApart B w I h s) (c : But S w w') (hs : ∀ b, B ≤ b → b < w.heap.size → S b → (I 3).1 ≤ b ∧ b < (I 3).2) {J : Nat × Nat} (hJ : J = I 3 ∨ (w.heap.size ≤ J.1 ∧ J.1 ≤ J.2 ∧ J.2 ≤ w'.heap.size)) {A : Option Addr} {cc : Nat} {l : List (Int × Int)} (hg : OwnRows 57 2 pairL w' J.1 (.slice A l.length cc) l ∧ UnderB (.slice A l.length cc) J.2) : StApart B w' (putI I 3 J) { h with ma := A, mc := cc } { s with ms := l } := by
  have r := fun (i : Nat) (hi : i < 10) (h4 : i ≠ 3) (b : Nat) (h1 : (I i).1 ≤ b) (h2 : b < (I i).2) => show ¬ S b from fun hS => by
    have a1 := k.low i hi
    have a3 := hs b (by omega) (by omega) hS
    have a4 := k.apart i 3 hi (by omega) h4
    omega
  refine ⟨putI_low k.low c.size hJ (by omega), putI_apart k.low k.apart hJ (by omega), ?_, ?_, ?_, ?_, ?_, ?_, ?_, ?_, ?_, ?_⟩
  · exact k.prog.but c (r 0 (by omega) (by omega))
  · exact ⟨k.gs.1.but c fun b hb => r 1 (by omega) (by omega) b (k.gs.1.lt b hb).1 (k.gs.2 b hb), k.gs.2⟩
  · exact ⟨k.ps.1.but c fun b hb => r 2 (by omega) (by omega) b (k.ps.1.lt b hb).1 (k.ps.2 b hb), k.ps.2⟩
  · exact hg
  · exact ⟨k.glob.1.but c fun b hb => r 4 (by omega) (by omega) b (World.ownsRow.lt k.glob.1 b hb).1 (k.glob.2 b hb), k.glob.2⟩
  · exact ⟨k.w0.1.but c fun b hb => r 5 (by omega) (by omega) b (World.ownsRow.lt k.w0.1 b hb).1 (k.w0.2 b hb), k.w0.2⟩
  · exact ⟨k.w1.1.but c fun b hb => r 6 (by omega) (by omega) b (World.ownsRow.lt k.w1.1 b hb).1 (k.w1.2 b hb), k.w1.2⟩
  · exact ⟨k.w2.1.but c fun b hb => r 7 (by omega) (by omega) b (World.ownsRow.lt k.w2.1 b hb).1 (k.w2.2 b hb), k.w2.2⟩
  · exact ⟨k.w3.1.but c fun b hb => r 8 (by omega) (by omega) b (World.ownsRow.lt k.w3.1 b hb).1 (k.w3.2 b hb), k.w3.2⟩
  · exact ⟨OwnRows.but k.timers.1 c fun b hb => r 9 (by omega) (by omega) b (OwnRows.lt k.timers.1 b hb).1 (k.timers.2 b hb), k.timers.2⟩
theorem StApart.withGlob {B : Nat} {w w' : World} {I : Nat → Nat × Nat} {h : StH} {s : St} {S : Nat → Prop} (k : StApart B w I h s) (c : But S w w') (hs : ∀ b, B ≤ b → b < w.heap.size → S b → (I 4).1 ≤ b ∧ b < (I 4).2) {J : Nat × Nat} (hJ : J = I 4 ∨ (w.heap.size ≤ J.1 ∧ J.1 ≤ J.2 ∧ J.2 ≤ w'.heap.size)) {A : Option Addr} {cc : Nat} {l : List Int} (hg : OwnInts w' J.1 (.slice A l.length cc) l ∧ UnderB (.slice A l.length cc) J.2) : StApart B w' (putI I 4 J) { h with la := A, lc := cc } { s with glob := l } := by
  have r := fun (i : Nat) (hi : i < 10) (h4 : i ≠ 4) (b : Nat) (h1 : (I i).1 ≤ b) (h2 : b < (I i).2) => show ¬ S b from fun hS => by
    have a1 := k.low i hi
    have a3 := hs b (by omega) (by omega) hS
    have a4 := k.apart i 4 hi (by omega) h4
    omega
  refine ⟨putI_low k.low c.size hJ (by omega), putI_apart k.low k.apart hJ (by omega), ?_, ?_, ?_, ?_, ?_, ?_, ?_, ?_, ?_, ?_⟩
  · exact k.prog.but c (r 0 (by omega) (by omega))
  · exact ⟨k.gs.1.but c fun b hb => r 1 (by omega) (by omega) b (k.gs.1.lt b hb).1 (k.gs.2 b hb), k.gs.2⟩
  · exact ⟨k.ps.1.but c fun b hb => r 2 (by omega) (by omega) b (k.ps.1.lt b hb).1 (k.ps.2 b hb), k.ps.2⟩
  · exact ⟨k.ms.1.but c fun b hb => r 3 (by omega) (by omega) b (k.ms.1.lt b hb).1 (k.ms.2 b hb), k.ms.2⟩
  · exact hg
  · exact ⟨k.w0.1.but c fun b hb => r 5 (by omega) (by omega) b (World.ownsRow.lt k.w0.1 b hb).1 (k.w0.2 b hb), k.w0.2⟩
  · exact ⟨k.w1.1.but c fun b hb => r 6 (by omega) (by omega) b (World.ownsRow.lt k.w1.1 b hb).1 (k.w1.2 b hb), k.w1.2⟩
  · exact ⟨k.w2.1.but c fun b hb => r 7 (by omega) (by omega) b (World.ownsRow.lt k.w2.1 b hb).1 (k.w2.2 b hb), k.w2.2⟩
  · exact ⟨k.w3.1.but c fun b hb => r 8 (by omega) (by omega) b (World.ownsRow.lt k.w3.1 b hb).1 (k.w3.2 b hb), k.w3.2⟩
  · exact ⟨OwnRows.but k.timers.1 c fun b hb => r 9 (by omega) (by omega) b (OwnRows.lt k.timers.1 b hb).1 (k.timers.2 b hb), k.timers.2⟩
theorem StApart.withW0 {B : Nat} {w w' : World} {I : Nat → Nat × Nat} {h : StH} {s : St} {S : Nat → Prop} (k : StApart B w I h s) (c : But S w w') (hs : ∀ b, B ≤ b → b < w.heap.size → S b → (I 5).1 ≤ b ∧ b < (I 5).2) {J : Nat × Nat} (hJ : J = I 5 ∨ (w.heap.size ≤ J.1 ∧ J.1 ≤ J.2 ∧ J.2 ≤ w'.heap.size)) {A : Option Addr} {cc : Nat} {l : List Int} (hg : OwnInts w' J.1 (.slice A l.length cc) l ∧ UnderB (.slice A l.length cc) J.2) : StApart B w' (putI I 5 J) { h with a0 := A, k0 := cc } { s with w0 := l } := by
  have r := fun (i : Nat) (hi : i < 10) (h4 : i ≠ 5) (b : Nat) (h1 : (I i).1 ≤ b) (h2 : b < (I i).2) => show ¬ S b from fun hS => by
    have a1 := k.low i hi
    have a3 := hs b (by omega) (by omega) hS
    have a4 := k.apart i 5 hi (by omega) h4
    omega
  refine ⟨putI_low k.low c.size hJ (by omega), putI_apart k.low k.apart hJ (by omega), ?_, ?_, ?_, ?_, ?_, ?_, ?_, ?_, ?_, ?_⟩
  · exact k.prog.but c (r 0 (by omega) (by omega))
  · exact ⟨k.gs.1.but c fun b hb => r 1 (by omega) (by omega) b (k.gs.1.lt b hb).1 (k.gs.2 b hb), k.gs.2⟩
  · exact ⟨k.ps.1.but c fun b hb => r 2 (by omega) (by omega) b (k.ps.1.lt b hb).1 (k.ps.2 b hb), k.ps.2⟩
  · exact ⟨k.ms.1.but c fun b hb => r 3 (by omega) (by omega) b (k.ms.1.lt b hb).1 (k.ms.2 b hb), k.ms.2⟩
  · exact ⟨k.glob.1.but c fun b hb => r 4 (by omega) (by omega) b (World.ownsRow.lt k.glob.1 b hb).1 (k.glob.2 b hb), k.glob.2⟩
  · exact hg
  · exact ⟨k.w1.1.but c fun b hb => r 6 (by omega) (by omega) b (World.ownsRow.lt k.w1.1 b hb).1 (k.w1.2 b hb), k.w1.2⟩
  · exact ⟨k.w2.1.but c fun b hb => r 7 (by omega) (by omega) b (World.ownsRow.lt k.w2.1 b hb).1 (k.w2.2 b hb), k.w2.2⟩
  · exact ⟨k.w3.1.but c fun b hb => r 8 (by omega) (by omega) b (World.ownsRow.lt k.w3.1 b hb).1 (k.w3.2 b hb), k.w3.2⟩
  · exact ⟨OwnRows.but k.timers.1 c fun b hb => r 9 (by omega) (by omega) b (OwnRows.lt k.timers.1 b hb).1 (k.timers.2 b hb), k.timers.2⟩
theorem StApart.withW1 {B : Nat} {w w' : World} {I : Nat → Nat × Nat} {h : StH} {s : St} {S : Nat → Prop} (k : StApart B w I h s) (c : But S w w') (hs : ∀ b, B ≤ b → b < w.heap.size → S b → (I 6).1 ≤ b ∧ b < (I 6).2) {J : Nat × Nat} (hJ : J = I 6 ∨ (w.heap.size ≤ J.1 ∧ J.1 ≤ J.2 ∧ J.2 ≤ w'.heap.size)) {A : Option Addr} {cc : Nat} {l : List Int} (hg : OwnInts w' J.1 (.slice A l.length cc) l ∧ UnderB (.slice A l.length cc) J.2) : StApart B w' (putI I 6 J) { h with a1 := A, k1 := cc } { s with w1 := l } := by
  have r := fun (i : Nat) (hi : i < 10) (h4 : i ≠ 6) (b : Nat) (h1 : (I i).1 ≤ b) (h2 : b < (I i).2) => show ¬ S b from fun hS => by
    have a1 := k.low i hi
    have a3 := hs b (by omega) (by omega) hS
    have a4 := k.apart i 6 hi (by omega) h4
    omega
  refine ⟨putI_low k.low c.size hJ (by omega), putI_apart k.low k.apart hJ (by omega), ?_, ?_, ?_, ?_, ?_, ?_, ?_, ?_, ?_, ?_⟩
  · exact k.prog.but c (r 0 (by omega) (by omega))
  · exact ⟨k.gs.1.but c fun b hb => r 1 (by omega) (by omega) b (k.gs.1.lt b hb).1 (k.gs.2 b hb), k.gs.2⟩
  · exact ⟨k.ps.1.but c fun b hb => r 2 (by omega) (by omega) b (k.ps.1.lt b hb).1 (k.ps.2 b hb), k.ps.2⟩
  · exact ⟨k.ms.1.but c fun b hb => r 3 (by omega) (by omega) b (k.ms.1.lt b hb).1 (k.ms.2 b hb), k.ms.2⟩
  · exact ⟨k.glob.1.but c fun b hb => r 4 (by omega) (by omega) b (World.ownsRow.lt k.glob.1 b hb).1 (k.glob.2 b hb), k.glob.2⟩
  · exact ⟨k.w0.1.but c fun b hb => r 5 (by omega) (by omega) b (World.ownsRow.lt k.w0.1 b hb).1 (k.w0.2 b hb), k.w0.2⟩
  · exact hg
  · exact ⟨k.w2.1.but c fun b hb => r 7 (by omega) (by omega) b (World.ownsRow.lt k.w2.1 b hb).1 (k.w2.2 b hb), k.w2.2⟩
  · exact ⟨k.w3.1.but c fun b hb => r 8 (by omega) (by omega) b (World.ownsRow.lt k.w3.1 b hb).1 (k.w3.2 b hb), k.w3.2⟩
  · exact ⟨OwnRows.but k.timers.1 c fun b hb => r 9 (by omega) (by omega) b (OwnRows.lt k.timers.1 b hb).1 (k.timers.2 b hb), k.timers.2⟩
theorem StApart.withW2 {B : Nat} {w w' : World} {I : Nat → Nat × Nat} {h : StH} {s : St} {S : Nat → Prop} (k : StApart B w I h s) (c : But S w w') (hs : ∀ b, B ≤ b → b < w.heap.size → S b → (I 7).1 ≤ b ∧ b < (I 7).2) {J : Nat × Nat} (hJ : J = I 7 ∨ (w.heap.size ≤ J.1 ∧ J.1 ≤ J.2 ∧ J.2 ≤ w'.heap.size)) {A : Option Addr} {cc : Nat} {l : List Int} (hg : OwnInts w' J.1 (.slice A l.length cc) l ∧ UnderB (.slice A l.length cc) J.2) : StApart B w' (putI I 7 J) { h with a2 := A, k2 := cc } { s with w2 := l } := by
  have r := fun (i : Nat) (hi : i < 10) (h4 : i ≠ 7) (b : Nat) (h1 : (I i).1 ≤ b) (h2 : b < (I i).2) => show ¬ S b from fun hS => by
    have a1 := k.low i hi
    have a3 := hs b (by omega) (by omega) hS
    have a4 := k.apart i 7 hi (by omega) h4
    omega
  refine ⟨putI_low k.low c.size hJ (by omega), putI_apart k.low k.apart hJ (by omega), ?_, ?_, ?_, ?_, ?_, ?_, ?_, ?_, ?_, ?_⟩
  · exact k.prog.but c (r 0 (by omega) (by omega))
  · exact ⟨k.gs.1.but c fun b hb => r 1 (by omega) (by omega) b (k.gs.1.lt b hb).1 (k.gs.2 b hb), k.gs.2⟩
  · exact ⟨k.ps.1.but c fun b hb => r 2 (by omega) (by omega) b (k.ps.1.lt b hb).1 (k.ps.2 b hb), k.ps.2⟩
  · exact ⟨k.ms.1.but c fun b hb => r 3 (by omega) (by omega) b (k.ms.1.lt b hb).1 (k.ms.2 b hb), k.ms.2⟩
  · exact ⟨k.glob.1.but c fun b hb => r 4 (by omega) (by omega) b (World.ownsRow.lt k.glob.1 b hb).1 (k.glob.2 b hb), k.glob.2⟩
  · exact ⟨k.w0.1.but c fun b hb => r 5 (by omega) (by omega) b (World.ownsRow.lt k.w0.1 b hb).1 (k.w0.2 b hb), k.w0.2⟩
  · exact ⟨k.w1.1.but c fun b hb => r 6 (by omega) (by omega) b (World.ownsRow.lt k.w1.1 b hb).1 (k.w1.2 b hb), k.w1.2⟩
  · exact hg
  · exact ⟨k.w3.1.but c fun b hb => r 8 (by omega) (by omega) b (World.ownsRow.lt k.w3.1 b hb).1 (k.w3.2 b hb), k.w3.2⟩
  · exact ⟨OwnRows.but k.timers.1 c fun b hb => r 9 (by omega) (by omega) b (OwnRows.lt k.timers.1 b hb).1 (k.timers.2 b hb), k.timers.2⟩
theorem StApart.withW3 {B : Nat} {w w' : World} {I : Nat → Nat × Nat} {h : StH} {s : St} {S : Nat → Prop} (k : StApart B w I h s) (c : But S w w') (hs : ∀ b, B ≤ b → b < w.heap.size → S b → (I 8).1 ≤ b ∧ b < (I 8).2) {J : Nat × Nat} (hJ : J = I 8 ∨ (w.heap.size ≤ J.1 ∧ J.1 ≤ J.2 ∧ J.2 ≤ w'.heap.size)) {A : Option Addr} {cc : Nat} {l : List Int} (hg : OwnInts w' J.1 (.slice A l.length cc) l ∧ UnderB (.slice A l.length cc) J.2) : StApart B w' (putI I 8 J) { h with a3 := A, k3 := cc } { s with w3 := l } := by
  have r := fun (i : Nat) (hi : i < 10) (h4 : i ≠ 8) (b : Nat) (h1 : (I i).1 ≤ b) (h2 : b < (I i).2) => show ¬ S b from fun hS => by
    have a1 := k.low i hi
    have a3 := hs b (by omega) (by omega) hS
    have a4 := k.apart i 8 hi (by omega) h4
    omega
  refine ⟨putI_low k.low c.size hJ (by omega), putI_apart k.low k.apart hJ (by omega), ?_, ?_, ?_, ?_, ?_, ?_, ?_, ?_, ?_, ?_⟩
  · exact k.prog.but c (r 0 (by omega) (by omega))
  · exact ⟨k.gs.1.but c fun b hb => r 1 (by omega) (by omega) b (k.gs.1.lt b hb).1 (k.gs.2 b hb), k.gs.2⟩
  · exact ⟨k.ps.1.but c fun b hb => r 2 (by omega) (by omega) b (k.ps.1.lt b hb).1 (k.ps.2 b hb), k.ps.2⟩
  · exact ⟨k.ms.1.but c fun b hb => r 3 (by omega) (by omega) b (k.ms.1.lt b hb).1 (k.ms.2 b hb), k.ms.2⟩
  · exact ⟨k.glob.1.but c fun b hb => r 4 (by omega) (by omega) b (World.ownsRow.lt k.glob.1 b hb).1 (k.glob.2 b hb), k.glob.2⟩
  · exact ⟨k.w0.1.but c fun b hb => r 5 (by omega) (by omega) b (World.ownsRow.lt k.w0.1 b hb).1 (k.w0.2 b hb), k.w0.2⟩
  · exact ⟨k.w1.1.but c fun b hb => r 6 (by omega) (by omega) b (World.ownsRow.lt k.w1.1 b hb).1 (k.w1.2 b hb), k.w1.2⟩
  · exact ⟨k.w2.1.but c fun b hb => r 7 (by omega) (by omega) b (World.ownsRow.lt k.w2.1 b hb).1 (k.w2.2 b hb), k.w2.2⟩
  · exact hg
  · exact ⟨OwnRows.but k.timers.1 c fun b hb => r 9 (by omega) (by omega) b (OwnRows.lt k.timers.1 b hb).1 (k.timers.2 b hb), k.timers.2⟩
theorem StApart.withTimers {B : Nat} {w w' : World} {I : Nat → Nat × Nat} {h : StH} {s : St} {S : Nat → Prop} (k : StApart B w I h s) (c : But S w w') (hs : ∀ b, B ≤ b → b < w.heap.size → S b → (I 9).1 ≤ b ∧ b < (I 9).2) {J : Nat × Nat} (hJ : J = I 9 ∨ (w.heap.size ≤ J.1 ∧ J.1 ≤ J.2 ∧ J.2 ≤ w'.heap.size)) {A : Option Addr} {cc : Nat} {l : List (Int × Int)} (hg : OwnTs w' J.1 (.slice A l.length cc) l ∧ UnderB (.slice A l.length cc) J.2) : StApart B w' (putI I 9 J) { h with ta := A, tc := cc } { s with timers := l } := by
  have r := fun (i : Nat) (hi : i < 10) (h4 : i ≠ 9) (b : Nat) (h1 : (I i).1 ≤ b) (h2 : b < (I i).2) => show ¬ S b from fun hS => by
    have a1 := k.low i hi
    have a3 := hs b (by omega) (by omega) hS
    have a4 := k.apart i 9 hi (by omega) h4
    omega
  refine ⟨putI_low k.low c.size hJ (by omega), putI_apart k.low k.apart hJ (by omega), ?_, ?_, ?_, ?_, ?_, ?_, ?_, ?_, ?_, ?_⟩
  · exact k.prog.but c (r 0 (by omega) (by omega))
  · exact ⟨k.gs.1.but c fun b hb => r 1 (by omega) (by omega) b (k.gs.1.lt b hb).1 (k.gs.2 b hb), k.gs.2⟩
  · exact ⟨k.ps.1.but c fun b hb => r 2 (by omega) (by omega) b (k.ps.1.lt b hb).1 (k.ps.2 b hb), k.ps.2⟩
  · exact ⟨k.ms.1.but c fun b hb => r 3 (by omega) (by omega) b (k.ms.1.lt b hb).1 (k.ms.2 b hb), k.ms.2⟩
  · exact ⟨k.glob.1.but c fun b hb => r 4 (by omega) (by omega) b (World.ownsRow.lt k.glob.1 b hb).1 (k.glob.2 b hb), k.glob.2⟩
  · exact ⟨k.w0.1.but c fun b hb => r 5 (by omega) (by omega) b (World.ownsRow.lt k.w0.1 b hb).1 (k.w0.2 b hb), k.w0.2⟩
  · exact ⟨k.w1.1.but c fun b hb => r 6 (by omega) (by omega) b (World.ownsRow.lt k.w1.1 b hb).1 (k.w1.2 b hb), k.w1.2⟩
  · exact ⟨k.w2.1.but c fun b hb => r 7 (by omega) (by omega) b (World.ownsRow.lt k.w2.1 b hb).1 (k.w2.2 b hb), k.w2.2⟩
  · exact ⟨k.w3.1.but c fun b hb => r 8 (by omega) (by omega) b (World.ownsRow.lt k.w3.1 b hb).1 (k.w3.2 b hb), k.w3.2⟩
  · exact hg
theorem StOwn.apart {w : World} {B : Nat} {L : Nat → Nat} {h : StH} {s : St} (k : StOwn w L h s) (hB : B ≤ L 0) : StApart B w (fun i => (L i, L (i + 1))) h s := by
  have up : ∀ n, n ≤ 10 → ∀ i, i ≤ n → L i ≤ L n := fun n => by
    induction n with
    | zero => intro _ i hi; obtain rfl : i = 0 := by omega
              exact Nat.le_refl _
    | succ n ih =>
      intro hn i hi
      by_cases he : i = n + 1
      · subst he; exact Nat.le_refl _
      · exact Nat.le_trans (ih (by omega) i (by omega)) (k.mono n (by omega))
  have top := k.top
  refine ⟨fun i hi => ?_, fun i j hi hj hne => ?_, k.prog, k.gs, k.ps, k.ms, k.glob, k.w0, k.w1, k.w2, k.w3, k.timers⟩
  · have a1 := up i (by omega) 0 (by omega)
    have a2 := up (i + 1) (by omega) i (by omega)
    have a3 := up 10 (by omega) (i + 1) (by omega)
    simp only
    omega
  · simp only
    rcases Nat.lt_or_gt_of_ne hne with hl | hl
    · have := up j (by omega) (i + 1) (by omega); omega
    · have := up i (by omega) (j + 1) (by omega); omega
theorem StApart.lower {B B' : Nat} {w : World} {I : Nat → Nat × Nat} {h : StH} {s : St} (k : StApart B w I h s) (hB : B' ≤ B) : StApart B' w I h s :=
  ⟨fun i hi => ⟨Nat.le_trans hB (k.low i hi).1, (k.low i hi).2⟩, k.apart, k.prog, k.gs, k.ps, k.ms, k.glob, k.w0, k.w1, k.w2, k.w3, k.timers⟩
theorem StApart.far {B : Nat} {w w' : World} {I : Nat → Nat × Nat} {h : StH} {s : St} {S : Nat → Prop} (k : StApart B w I h s) (c : But S w w') (hs : ∀ b, S b → b < B ∨ w.heap.size ≤ b) : StApart B w' I h s :=
  k.but c (T := w.heap.size) (fun i hi => (k.low i hi).2.2) fun b h1 h2 h3 => by have := hs b h3; omega
theorem StApart.ext {B : Nat} {w w' : World} {I : Nat → Nat × Nat} {h : StH} {s : St} (k : StApart B w I h s) (c : Ext w w') : StApart B w' I h s := k.far (S := fun _ => False) (But.ext c) fun _ h => h.elim
theorem StApart.putI_same {B k : Nat} {w : World} {I : Nat → Nat × Nat} {h : StH} {s : St} (a : StApart B w (putI I k (I k)) h s) : StApart B w I h s := by
  have e : putI I k (I k) = I := funext fun i => by unfold putI; split; (· rename_i e; rw [e]); rfl
  rwa [e] at a
theorem StApart.setG {B : Nat} {w : World} {I : Nat → Nat × Nat} {h : StH} {s : St} (k : StApart B w I h s) {i : Nat} {x x' : Gr} (hi : s.gs[i]? = some x) {j : Nat} {ds : List Value} (hj : j + ds.length ≤ 5)
    (hx : ∀ t, t < 5 → (gL x')[t]? = if j ≤ t ∧ t < j + ds.length then ds[t - j]? else (gL x)[t]?) :
    ∃ g, h.ga = some ⟨g, 0, none⟩ ∧ B ≤ g ∧ g < w.heap.size ∧ w.there g (i * 5 + j) ds.length ∧ StApart B (w.setCells g (i * 5 + j) ds) I h { s with gs := s.gs.set i x' } ∧ Upd g w (w.setCells g (i * 5 + j) ds) := by
  obtain ⟨g, c, e, hob, hB, hlt, hth, ho, hu⟩ := OwnRows.setCells gL_len k.gs.1 hi hj hx
  have hl := (k.low 1 (by omega)).1
  have hgu := k.gs.2 g hob
  simp only [Value.slice.injEq, true_and] at e
  refine ⟨g, e.1, by omega, hlt, hth, ?_, hu⟩
  have := k.withGs (But.upd (S := fun b => b = g) hu rfl) (fun b _ _ hb => by subst hb; exact ⟨hB, hgu⟩) (.inl rfl) (A := h.ga) (cc := h.gc) (l := s.gs.set i x') (by rw [List.length_set]; exact ⟨ho, k.gs.2⟩)
  exact StApart.putI_same this
theorem StApart.setP {B : Nat} {w : World} {I : Nat → Nat × Nat} {h : StH} {s : St} (k : StApart B w I h s) {i : Nat} {x x' : Pr} (hi : s.ps[i]? = some x) {j : Nat} {ds : List Value} (hj : j + ds.length ≤ 13)
    (hx : ∀ t, t < 13 → (pL x')[t]? = if j ≤ t ∧ t < j + ds.length then ds[t - j]? else (pL x)[t]?) :
    ∃ g, h.qa = some ⟨g, 0, none⟩ ∧ B ≤ g ∧ g < w.heap.size ∧ w.there g (i * 13 + j) ds.length ∧ StApart B (w.setCells g (i * 13 + j) ds) I h { s with ps := s.ps.set i x' } ∧ Upd g w (w.setCells g (i * 13 + j) ds) := by
  obtain ⟨g, c, e, hob, hB, hlt, hth, ho, hu⟩ := OwnRows.setCells pL_len k.ps.1 hi hj hx
  have hl := (k.low 2 (by omega)).1
  have hgu := k.ps.2 g hob
  simp only [Value.slice.injEq, true_and] at e
  refine ⟨g, e.1, by omega, hlt, hth, ?_, hu⟩
  have := k.withPs (But.upd (S := fun b => b = g) hu rfl) (fun b _ _ hb => by subst hb; exact ⟨hB, hgu⟩) (.inl rfl) (A := h.qa) (cc := h.qc) (l := s.ps.set i x') (by rw [List.length_set]; exact ⟨ho, k.ps.2⟩)
  exact StApart.putI_same this
theorem StApart.setM {B : Nat} {w : World} {I : Nat → Nat × Nat} {h : StH} {s : St} (k : StApart B w I h s) {i : Nat} {x x' : Int × Int} (hi : s.ms[i]? = some x) {j : Nat} {ds : List Value} (hj : j + ds.length ≤ 2)
    (hx : ∀ t, t < 2 → (pairL x')[t]? = if j ≤ t ∧ t < j + ds.length then ds[t - j]? else (pairL x)[t]?) :
    ∃ g, h.ma = some ⟨g, 0, none⟩ ∧ B ≤ g ∧ g < w.heap.size ∧ w.there g (i * 2 + j) ds.length ∧ StApart B (w.setCells g (i * 2 + j) ds) I h { s with ms := s.ms.set i x' } ∧ Upd g w (w.setCells g (i * 2 + j) ds) := by
  obtain ⟨g, c, e, hob, hB, hlt, hth, ho, hu⟩ := OwnRows.setCells pairL_len k.ms.1 hi hj hx
  have hl := (k.low 3 (by omega)).1
  have hgu := k.ms.2 g hob
  simp only [Value.slice.injEq, true_and] at e
  refine ⟨g, e.1, by omega, hlt, hth, ?_, hu⟩
  have := k.withMs (But.upd (S := fun b => b = g) hu rfl) (fun b _ _ hb => by subst hb; exact ⟨hB, hgu⟩) (.inl rfl) (A := h.ma) (cc := h.mc) (l := s.ms.set i x') (by rw [List.length_set]; exact ⟨ho, k.ms.2⟩)
  exact StApart.putI_same this
theorem StApart.newGlob {B : Nat} {w w' : World} {I : Nat → Nat × Nat} {h : StH} {s : St} (k : StApart B w I h s) {A : Option Addr} {cc : Nat} {l : List Int} (ho : OwnInts w' (I 4).1 (.slice A l.length cc) l) (hn : (Value.slice A l.length cc).ownBlock = (Value.slice h.la s.glob.length h.lc).ownBlock ∨ ∀ b, (Value.slice A l.length cc).ownBlock = some b → w.heap.size ≤ b)
    (hc : But (fun b => (Value.slice h.la s.glob.length h.lc).ownBlock = some b) w w') : ∃ I', StApart B w' I' { h with la := A, lc := cc } { s with glob := l } := by
  have hs : ∀ b, B ≤ b → b < w.heap.size → (Value.slice h.la s.glob.length h.lc).ownBlock = some b → (I 4).1 ≤ b ∧ b < (I 4).2 := fun b _ _ hb => ⟨(World.ownsRow.lt k.glob.1 b hb).1, k.glob.2 b hb⟩
  rcases hn with hn | hn
  · exact ⟨_, k.withGlob hc hs (.inl rfl) ⟨ho, fun b hb => k.glob.2 b (hn ▸ hb)⟩⟩
  · refine ⟨_, k.withGlob hc hs (J := (w.heap.size, w'.heap.size)) (.inr ⟨Nat.le_refl _, hc.size, Nat.le_refl _⟩) ⟨?_, fun b hb => (World.ownsRow.lt ho b hb).2⟩⟩
    refine ⟨ho.1, ?_⟩
    rcases ho.2 with h1 | ⟨g, cap, cur, e, _, rest⟩
    · exact .inl h1
    · exact .inr ⟨g, cap, cur, e, hn g (by rw [e]; rfl), rest⟩
theorem wpList_store_rowM {P : Program} {ops : Array Oper} {rest : List Oper} {op : Oper} {a : Act} {w : World} {Q : Exit → Act → World → Prop} (hgd : op.guard = none) (ty : TypeId) (x y : Operand) (ho : op.op = .store ty x y)
    (b o : Nat) (ds : List Value) (v : Value) (hx : a.eval x = .pointer (some ⟨b, o, none⟩)) (hy : a.eval y = v) (hv : v = .agg ds.toArray) (ht : w.there b o ds.length) (hi : (P.info? ty).map (·.size) = some ds.length) (h1 : ∀ u ∈ ds, u.oneCell' = true)
    {w' : World} (hw : w.setCells b o ds = w') (h : wpList P ops Q rest (a.put op.dst undef) w') : wpList P ops Q (op :: rest) a w := by
  subst hv hw
  exact wpList_store_mid hgd ty x y ho b o ds.toArray hx hy (by simpa using ht) (by simpa using hi) (all_oneCell_toArray h1) (by simpa using h)
structure Sit (w : World) (W0 R B : Nat) (v : World) (h : StH) (s : St) : Prop where
  box : v.heap[W0]? = some (.cells (stC h s) 32 (0, 0))
  res : v.heap[R]? = some (.cells #[.slice none 0 0, .slice none 0 0, .slice none 0 0, .slice none 0 0, .slice none 0 0, .int .i64 0, .int .i64 0, .int .i64 0, .int .i64 0, .slice none 0 0, .slice none 0 0, .slice none 0 0, .slice none 0 0, .slice none 0 0, .int .i64 0, .int .i64 0] 32 (0, 0))
  ap : ∃ I, StApart B v I h s
  ext : Ext w v
  lo : W0 < B ∧ R < B ∧ W0 ≠ R ∧ w.heap.size ≤ W0 ∧ w.heap.size ≤ R ∧ B ≤ v.heap.size
namespace Sit
variable {w v v' : World} {W0 R B : Nat} {h h' : StH} {s s' : St}
theorem more (k : Sit w W0 R B v h s) (hx : Ext v v') : Sit w W0 R B v' h s :=
  ⟨hx.blk k.box, hx.blk k.res, by obtain ⟨I, a⟩ := k.ap; exact ⟨I, a.ext hx⟩, k.ext.trans hx, by have := k.lo; have := hx.size; omega⟩
theorem turn (k : Sit w W0 R B v h s) {g : Nat} (hu : Upd g v v') (hg : B ≤ g) (ha : ∃ I, StApart B v' I h s') (e : stC h s' = stC h s) : Sit w W0 R B v' h s' := by
  have l := k.lo
  have hs := hu.size
  exact ⟨by rw [e]; exact (hu.block W0 (by omega) (fun e => by injection e; omega)).trans k.box, (hu.block R (by omega) (fun e => by injection e; omega)).trans k.res, ha, k.ext.upd hu (by omega), by omega⟩
theorem setP (k : Sit w W0 R B v h s) {i : Nat} {x x' : Pr} (hi : s.ps[i]? = some x) {j : Nat} {ds : List Value} (hj : j + ds.length ≤ 13) (hx : ∀ t, t < 13 → (pL x')[t]? = if j ≤ t ∧ t < j + ds.length then ds[t - j]? else (pL x)[t]?) :
    ∃ g, h.qa = some ⟨g, 0, none⟩ ∧ v.there g (i * 13 + j) ds.length ∧ Sit w W0 R B (v.setCells g (i * 13 + j) ds) h { s with ps := s.ps.set i x' } := by
  obtain ⟨I, a⟩ := k.ap
  obtain ⟨g, h1, h2, h3, h4, h5, h6⟩ := a.setP hi hj hx
  exact ⟨g, h1, h4, k.turn h6 h2 ⟨I, h5⟩ (by unfold stC; simp only [List.length_set])⟩
theorem setG (k : Sit w W0 R B v h s) {i : Nat} {x x' : Gr} (hi : s.gs[i]? = some x) {j : Nat} {ds : List Value} (hj : j + ds.length ≤ 5) (hx : ∀ t, t < 5 → (gL x')[t]? = if j ≤ t ∧ t < j + ds.length then ds[t - j]? else (gL x)[t]?) :
    ∃ g, h.ga = some ⟨g, 0, none⟩ ∧ v.there g (i * 5 + j) ds.length ∧ Sit w W0 R B (v.setCells g (i * 5 + j) ds) h { s with gs := s.gs.set i x' } := by
  obtain ⟨I, a⟩ := k.ap
  obtain ⟨g, h1, h2, h3, h4, h5, h6⟩ := a.setG hi hj hx
  exact ⟨g, h1, h4, k.turn h6 h2 ⟨I, h5⟩ (by unfold stC; simp only [List.length_set])⟩
theorem setM (k : Sit w W0 R B v h s) {i : Nat} {x x' : Int × Int} (hi : s.ms[i]? = some x) {j : Nat} {ds : List Value} (hj : j + ds.length ≤ 2) (hx : ∀ t, t < 2 → (pairL x')[t]? = if j ≤ t ∧ t < j + ds.length then ds[t - j]? else (pairL x)[t]?) :
    ∃ g, h.ma = some ⟨g, 0, none⟩ ∧ v.there g (i * 2 + j) ds.length ∧ Sit w W0 R B (v.setCells g (i * 2 + j) ds) h { s with ms := s.ms.set i x' } := by
  obtain ⟨I, a⟩ := k.ap
  obtain ⟨g, h1, h2, h3, h4, h5, h6⟩ := a.setM hi hj hx
  exact ⟨g, h1, h4, k.turn h6 h2 ⟨I, h5⟩ (by unfold stC; simp only [List.length_set])⟩
theorem getP (k : Sit w W0 R B v h s) {i : Nat} {x : Pr} (hi : s.ps[i]? = some x) : ∃ g, h.qa = some ⟨g, 0, none⟩ ∧ B ≤ g ∧ v.rangeAt g (i * 13) (pL x) := by
  obtain ⟨I, a⟩ := k.ap
  obtain ⟨g, h1, h2, h3, h4, h5, h6⟩ := a.setP hi (j := 0) (ds := []) (by simp) (fun t _ => by rw [if_neg (by simp)])
  obtain ⟨b, o, e, hb, hc⟩ := (OwnRows.rows pL_len a.ps.1).get hi
  rw [h1] at e
  simp only [Option.some.injEq, Addr.mk.injEq, and_true] at e
  obtain ⟨rfl, rfl⟩ := e
  exact ⟨g, h1, h2, fun j u hu => by rw [← Nat.zero_add (i * 13)]; exact hc j u hu⟩
theorem getG (k : Sit w W0 R B v h s) {i : Nat} {x : Gr} (hi : s.gs[i]? = some x) : ∃ g, h.ga = some ⟨g, 0, none⟩ ∧ B ≤ g ∧ v.rangeAt g (i * 5) (gL x) := by
  obtain ⟨I, a⟩ := k.ap
  obtain ⟨g, h1, h2, h3, h4, h5, h6⟩ := a.setG hi (j := 0) (ds := []) (by simp) (fun t _ => by rw [if_neg (by simp)])
  obtain ⟨b, o, e, hb, hc⟩ := (OwnRows.rows gL_len a.gs.1).get hi
  rw [h1] at e
  simp only [Option.some.injEq, Addr.mk.injEq, and_true] at e
  obtain ⟨rfl, rfl⟩ := e
  exact ⟨g, h1, h2, fun j u hu => by rw [← Nat.zero_add (i * 5)]; exact hc j u hu⟩
theorem getM (k : Sit w W0 R B v h s) {i : Nat} {x : Int × Int} (hi : s.ms[i]? = some x) : ∃ g, h.ma = some ⟨g, 0, none⟩ ∧ B ≤ g ∧ v.rangeAt g (i * 2) (pairL x) := by
  obtain ⟨I, a⟩ := k.ap
  obtain ⟨g, h1, h2, h3, h4, h5, h6⟩ := a.setM hi (j := 0) (ds := []) (by simp) (fun t _ => by rw [if_neg (by simp)])
  obtain ⟨b, o, e, hb, hc⟩ := (OwnRows.rows pairL_len a.ms.1).get hi
  rw [h1] at e
  simp only [Option.some.injEq, Addr.mk.injEq, and_true] at e
  obtain ⟨rfl, rfl⟩ := e
  exact ⟨g, h1, h2, fun j u hu => by rw [← Nat.zero_add (i * 2)]; exact hc j u hu⟩
theorem getP' (k : Sit w W0 R B v h s) {i : Nat} {x : Pr} (hi : s.ps[i]? = some x) {g : Nat} (hg : h.qa = some ⟨g, 0, none⟩) : v.rangeAt g (i * 13) (pL x) := by
  obtain ⟨g', h1, _, h2⟩ := k.getP hi
  rw [hg] at h1
  simp only [Option.some.injEq, Addr.mk.injEq, and_true] at h1
  subst h1
  exact h2
theorem setP' (k : Sit w W0 R B v h s) {i : Nat} {x x' : Pr} (hi : s.ps[i]? = some x) {g : Nat} (hg : h.qa = some ⟨g, 0, none⟩) {j : Nat} {ds : List Value} (hj : j + ds.length ≤ 13) (hx : ∀ t, t < 13 → (pL x')[t]? = if j ≤ t ∧ t < j + ds.length then ds[t - j]? else (pL x)[t]?) :
    v.there g (i * 13 + j) ds.length ∧ Sit w W0 R B (v.setCells g (i * 13 + j) ds) h { s with ps := s.ps.set i x' } := by
  obtain ⟨g', h1, h2⟩ := k.setP hi hj hx
  rw [hg] at h1
  simp only [Option.some.injEq, Addr.mk.injEq, and_true] at h1
  subst h1
  exact h2
theorem setG' (k : Sit w W0 R B v h s) {i : Nat} {x x' : Gr} (hi : s.gs[i]? = some x) {g : Nat} (hg : h.ga = some ⟨g, 0, none⟩) {j : Nat} {ds : List Value} (hj : j + ds.length ≤ 5) (hx : ∀ t, t < 5 → (gL x')[t]? = if j ≤ t ∧ t < j + ds.length then ds[t - j]? else (gL x)[t]?) :
    v.there g (i * 5 + j) ds.length ∧ Sit w W0 R B (v.setCells g (i * 5 + j) ds) h { s with gs := s.gs.set i x' } := by
  obtain ⟨g', h1, h2⟩ := k.setG hi hj hx
  rw [hg] at h1
  simp only [Option.some.injEq, Addr.mk.injEq, and_true] at h1
  subst h1
  exact h2
theorem setM' (k : Sit w W0 R B v h s) {i : Nat} {x x' : Int × Int} (hi : s.ms[i]? = some x) {g : Nat} (hg : h.ma = some ⟨g, 0, none⟩) {j : Nat} {ds : List Value} (hj : j + ds.length ≤ 2) (hx : ∀ t, t < 2 → (pairL x')[t]? = if j ≤ t ∧ t < j + ds.length then ds[t - j]? else (pairL x)[t]?) :
    v.there g (i * 2 + j) ds.length ∧ Sit w W0 R B (v.setCells g (i * 2 + j) ds) h { s with ms := s.ms.set i x' } := by
  obtain ⟨g', h1, h2⟩ := k.setM hi hj hx
  rw [hg] at h1
  simp only [Option.some.injEq, Addr.mk.injEq, and_true] at h1
  subst h1
  exact h2
theorem ltP (k : Sit w W0 R B v h s) {i : Nat} {x : Pr} (hi : s.ps[i]? = some x) {g : Nat} (hg : h.qa = some ⟨g, 0, none⟩) : g < v.heap.size := by
  obtain ⟨I, a⟩ := k.ap
  obtain ⟨g', h1, h2, h3, _⟩ := a.setP hi (j := 0) (ds := []) (by simp) (fun t _ => by rw [if_neg (by simp)])
  rw [hg] at h1
  simp only [Option.some.injEq, Addr.mk.injEq, and_true] at h1
  subst h1
  exact h3
theorem there (k : Sit w W0 R B v h s) : v.there R 0 (stL h' s').length := there_row k.res (Nat.le_refl 16)
theorem fin (k : Sit w W0 R B v h s) : (v.setCells R 0 (stL h s)).heap[R]? = some (.cells (stL h s).toArray 32 (0, 0)) ∧ (∃ I, StApart w.heap.size (v.setCells R 0 (stL h s)) I h s) ∧ Ext w (v.setCells R 0 (stL h s)) := by
  have hu := setCells_upd R (stL h s) v 0
  have l := k.lo
  obtain ⟨I, a⟩ := k.ap
  exact ⟨setCells_at [.slice none 0 0, .slice none 0 0, .slice none 0 0, .slice none 0 0, .slice none 0 0, .int .i64 0, .int .i64 0, .int .i64 0, .int .i64 0, .slice none 0 0, .slice none 0 0, .slice none 0 0, .slice none 0 0, .slice none 0 0, .int .i64 0, .int .i64 0] (stL h s) rfl k.res,
    ⟨I, (a.far (But.upd (S := fun b => b = R) hu rfl) (fun b hb => by omega)).lower (by omega)⟩, k.ext.upd hu (by omega)⟩
theorem start {v0 : World} {c : World} {I : Nat → Nat × Nat} (hB : B = v0.heap.size) (hx0 : Ext w v0) (hb : v0.heap[W0]? = some (.cells (stC h s) 32 (0, 0))) (hr : v0.heap[R]? = some (.cells #[.slice none 0 0, .slice none 0 0, .slice none 0 0, .slice none 0 0, .slice none 0 0, .int .i64 0, .int .i64 0, .int .i64 0, .int .i64 0, .slice none 0 0, .slice none 0 0, .slice none 0 0, .slice none 0 0, .slice none 0 0, .int .i64 0, .int .i64 0] 32 (0, 0))) (hx : Ext v0 c) (ha : StApart B c I h' s') (h1 : W0 ≠ R) (h2 : w.heap.size ≤ W0) (h3 : w.heap.size ≤ R) :
    c.there W0 0 (stL h' s').length ∧ Sit w W0 R B (c.setCells W0 0 (stL h' s')) h' s' := by
  have hbc := hx.blk hb
  have hu := setCells_upd W0 (stL h' s') c 0
  have l1 := blk_lt hb
  have l2 := blk_lt hr
  have l3 := hx.size
  have l4 := hu.size
  exact ⟨there_row hbc (Nat.le_refl 16), setCells_at (stL h s) (stL h' s') rfl hbc, (hu.block R (by omega) (fun e => by injection e; omega)).trans (hx.blk hr), ⟨I, ha.far (But.upd (S := fun b => b = W0) hu rfl) (fun b hb => by omega)⟩, (hx0.trans hx).upd hu h2, by omega⟩
theorem glob {c : World} {A : Option Addr} {cc n : Nat} {l : List Int} {I : Nat → Nat × Nat} (k : Sit w W0 R B v h s) (a : StApart B v I h s) (hn : n = l.length) (ho : OwnInts c (I 4).1 (.slice A n cc) l) (hb : (Value.slice A n cc).ownBlock = (Value.slice h.la s.glob.length h.lc).ownBlock ∨ ∀ b, (Value.slice A n cc).ownBlock = some b → v.heap.size ≤ b)
    (hc : But (fun b => (Value.slice h.la s.glob.length h.lc).ownBlock = some b) v c) : c.cell? ⟨W0, 4, none⟩ = some (.slice h.la s.glob.length h.lc) ∧ c.frozen? ⟨W0, 4, none⟩ = false ∧ Sit w W0 R B (c.setCell ⟨W0, 4, none⟩ (.slice A n cc)) { h with la := A, lc := cc } { s with glob := l } := by
  subst hn
  have kl := k.lo
  have hlow := a.low 4 (by omega)
  have hS : ∀ b, (Value.slice h.la s.glob.length h.lc).ownBlock = some b → B ≤ b := fun b hb => by have := (World.ownsRow.lt a.glob.1 b hb).1; omega
  have b1 := hc.blk k.box (fun e => by have := hS _ e; omega)
  have b2 := hc.blk k.res (fun e => by have := hS _ e; omega)
  obtain ⟨I', a'⟩ := a.newGlob ho hb hc
  have hu := (Upd.refl W0 c).set 4 (.slice A l.length cc)
  have hcs := hc.size
  exact ⟨st4 b1, frozen_of_row _ _ 4 _ _ b1, blk_set b1 4 _, blk_set_other b2 _ (by simp only; omega) _, ⟨I', a'.far (But.upd (S := fun b => b = W0) hu rfl) (fun b hb => by omega)⟩, (But.after k.ext hc (fun b hb => by have := hS b hb; omega)).upd hu (by omega), by have := hu.size; omega⟩
end Sit
structure GlobQ (B4 : Nat) (v : World) (u0 : Value) (c : World) (u : Value) (l : List Int) : Prop where
  own : OwnInts c B4 u l
  blk : u.ownBlock = u0.ownBlock ∨ ∀ b, u.ownBlock = some b → v.heap.size ≤ b
  but : But (fun b => u0.ownBlock = some b) v c
theorem GlobQ.start {B4 : Nat} {v : World} {u0 : Value} {l : List Int} (h : OwnInts v B4 u0 l) : GlobQ B4 v u0 v u0 l := ⟨h, .inl rfl, But.refl _ _⟩
theorem GlobQ.ext {B4 : Nat} {v c c' : World} {u0 u : Value} {l : List Int} (k : GlobQ B4 v u0 c u l) (hx : Ext c c') : GlobQ B4 v u0 c' u l := ⟨k.own.ext hx, k.blk, k.but.trans (But.ext hx)⟩
theorem GlobQ.more {B4 n k0 c0 : Nat} {v c : World} {u0 u : Value} {l m : List Int} {A0 : Option Addr} (k : GlobQ B4 v u0 c u l) (hn : n = l.length) (hk : k0 = m.length) (hv : IntsAt c (.slice A0 k0 c0) m) (hB : B4 ≤ v.heap.size) (hl : l.length + m.length ≤ 100000000) :
    ∃ A cc c', (Builtin.append_ #[27, 27] 27 #[u, .slice A0 k0 c0]).run Try.prog c = .ok (.slice A (n + k0) cc) c' ∧ GlobQ B4 v u0 c' (.slice A (n + k0) cc) (l ++ m) := by
  subst hn hk
  have hcs := k.but.size
  obtain ⟨u', c', hr, ho, hg, hb⟩ := OwnInts.append2 27 k.own hv hl (by omega)
  obtain ⟨A, cc, hu⟩ := ho.form
  rw [List.length_append] at hu
  subst hu
  refine ⟨A, cc, c', hr, ⟨ho, ?_, hg.os.trans k.but.os, hg.tape.trans k.but.tape, hg.output.trans k.but.output, Nat.le_trans hcs hg.size, fun i hi hn => (hg.block i (by omega) fun e => ?_).trans (k.but.block i hi hn)⟩⟩
  · rcases hb with hb | hb
    · rcases k.blk with h1 | h1
      · exact .inl (hb.trans h1)
      · exact .inr fun b e => h1 b (hb.symm.trans e)
    · exact .inr fun b e => by have := Option.some.inj (hb.symm.trans e); omega
  · rcases k.blk with h1 | h1
    · exact hn (h1.symm.trans e.symm)
    · have := h1 i e.symm; omega
theorem Sit.globQ {w v c : World} {W0 R B n cc : Nat} {h : StH} {s : St} {I : Nat → Nat × Nat} {A : Option Addr} {l : List Int} (k : Sit w W0 R B v h s) (a : StApart B v I h s) (q : GlobQ (I 4).1 v (.slice h.la s.glob.length h.lc) c (.slice A n cc) l) (hn : n = l.length) :
    c.cell? ⟨W0, 4, none⟩ = some (.slice h.la s.glob.length h.lc) ∧ c.frozen? ⟨W0, 4, none⟩ = false ∧ Sit w W0 R B (c.setCell ⟨W0, 4, none⟩ (.slice A n cc)) { h with la := A, lc := cc } { s with glob := l } := k.glob a hn q.own q.blk q.but
namespace St
def pAt (s : St) (p : Int) : Pr := s.ps.getD (p - 1).toNat nilP
def gAt (s : St) (n : Int) : Gr := s.gs.getD (n - 1).toNat nilG
def mAt (s : St) (n : Int) : Int × Int := s.ms.getD (n - 1).toNat (0, 0)
def putP (s : St) (p : Int) (x : Pr) : St := { s with ps := s.ps.set (p - 1).toNat x }
def putM (s : St) (p : Int) (x : Int × Int) : St := { s with ms := s.ms.set (p - 1).toNat x }
def tail (s : St) (p g : Int) : St :=
  if 1 ≤ p ∧ p ≤ s.ps.length ∧ 1 ≤ g ∧ (s.pAt p).ring.may = true then
    if ((s.pAt p).ring.push g).2 = true then s.putP p { s.pAt p with ring := ((s.pAt p).ring.push g).1 }
    else { s.putP p { s.pAt p with ring := (s.pAt p).ring.half.1 } with glob := s.glob ++ (s.pAt p).ring.half.2 ++ [g] }
  else s
def turn (s : St) (n st m : Int) : St := { s with gs := s.gs.set (n - 1).toNat { s.gAt n with st := st, m := m, seq := (s.gAt n).seq + 1 } }
def out (s : St) (g : Int) : St := { s with w0 := s.w0.filter (· != g), w1 := s.w1.filter (· != g), w2 := s.w2.filter (· != g), w3 := s.w3.filter (· != g), timers := s.timers.filter (·.2 != g) }
def next (s : St) (p g : Int) : St := (s.putP p { s.pAt p with next := g }).tail p (s.pAt p).next
def wake (s : St) (p g : Int) : St × Int := if s.may = true ∧ (1 ≤ p ∧ p ≤ s.procs) ∧ (1 ≤ g ∧ g ≤ s.gs.length) ∧ (s.gAt g).st = 3 then (((s.out g).turn g 1 0).next p g, 0) else (St.nil, 1)
def yield (s : St) (m : Int) : St × Int := if s.may = true ∧ (1 ≤ m ∧ m ≤ s.ms.length) ∧ (s.mAt m).1 ≠ 0 ∧ (s.mAt m).2 ≠ 0 then ({ (s.putM m ((s.mAt m).1, 0)).turn (s.mAt m).2 1 0 with glob := s.glob ++ [(s.mAt m).2] }, 0) else (St.nil, 1)
def drain (s : St) (p : Int) : St × Int := if s.may = true ∧ (1 ≤ p ∧ p ≤ s.procs) then ({ s.putP p { s.pAt p with next := 0, ring := Ri.zero } with glob := s.glob ++ queueOf (s.pAt p) }, 0) else (St.nil, 1)
theorem pAt_of {s : St} {i : Nat} {x : Pr} (hi : s.ps[i]? = some x) : s.pAt ((i : Int) + 1) = x := by
  unfold pAt
  rw [show ((i : Int) + 1 - 1).toNat = i by omega, List.getD, hi]
  rfl
theorem gAt_of {s : St} {i : Nat} {x : Gr} (hi : s.gs[i]? = some x) : s.gAt ((i : Int) + 1) = x := by
  unfold gAt
  rw [show ((i : Int) + 1 - 1).toNat = i by omega, List.getD, hi]
  rfl
theorem mAt_of {s : St} {i : Nat} {x : Int × Int} (hi : s.ms[i]? = some x) : s.mAt ((i : Int) + 1) = x := by
  unfold mAt
  rw [show ((i : Int) + 1 - 1).toNat = i by omega, List.getD, hi]
  rfl
theorem putP_of {s : St} {i : Nat} {x : Pr} : s.putP ((i : Int) + 1) x = { s with ps := s.ps.set i x } := by
  unfold putP
  rw [show ((i : Int) + 1 - 1).toNat = i by omega]
theorem putM_of {s : St} {i : Nat} {x : Int × Int} : s.putM ((i : Int) + 1) x = { s with ms := s.ms.set i x } := by
  unfold putM
  rw [show ((i : Int) + 1 - 1).toNat = i by omega]
theorem tail_no {s : St} {p g : Int} (h : ¬ (1 ≤ p ∧ p ≤ s.ps.length ∧ 1 ≤ g ∧ (s.pAt p).ring.may = true)) : s.tail p g = s := if_neg h
theorem tail_push {s : St} {i : Nat} {x : Pr} {g : Int} {r : Ri} (hi : s.ps[i]? = some x) (hg : 1 ≤ g) (hm : x.ring.may = true) (hr : x.ring.push g = (r, true)) : s.tail ((i : Int) + 1) g = { s with ps := s.ps.set i { x with ring := r } } := by
  have hl := (List.getElem?_eq_some_iff.1 hi).1
  unfold tail
  rw [pAt_of hi, if_pos ⟨by omega, by omega, hg, hm⟩, hr, if_pos rfl, putP_of]
theorem tail_half {s : St} {i : Nat} {x : Pr} {g : Int} {r r' : Ri} {o : List Int} (hi : s.ps[i]? = some x) (hg : 1 ≤ g) (hm : x.ring.may = true) (hr : x.ring.push g = (r', false)) (hh : x.ring.half = (r, o)) : s.tail ((i : Int) + 1) g = { s with ps := s.ps.set i { x with ring := r }, glob := s.glob ++ o ++ [g] } := by
  have hl := (List.getElem?_eq_some_iff.1 hi).1
  unfold tail
  rw [pAt_of hi, if_pos ⟨by omega, by omega, hg, hm⟩, hr, if_neg (by simp), putP_of, hh]
end St
end Go.Proofs.Ytogcfndhcphpaaa
