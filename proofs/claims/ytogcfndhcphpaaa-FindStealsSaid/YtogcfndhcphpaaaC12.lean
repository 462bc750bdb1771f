/-
  Several texts in one: To, Tz, Tzk, Tzl, Tzm, Tzr, Gj, Tzp, Tzs, Tzu, Gk, Gl, Ua.
-/
import Derived.Test.YtogcfndhcphpaaaC07
import Derived.Test.YtogcfndhcphpaaaC08
import Derived.Test.YtogcfndhcphpaaaC11
import Derived.Test.YtogcfndhcphpaaaC09
import Derived.Test.YtogcfndhcphpaaaC04
import Derived.Test.YtogcfndhcphpaaaC01
set_option linter.unusedVariables false
set_option linter.unusedSimpArgs false
namespace Go.Proofs.Ytogcfndhcphpaaa
open Go.RowKit
theorem may_whole {s : St} (h : s.whole = false) : s.may = false := by unfold St.may; rw [h]; rfl
theorem may_goods {s : St} (h : s.goods = false) : s.may = false := by unfold St.may; rw [h]; simp
theorem may_holds {s : St} (h : s.holds = false) : s.may = false := by unfold St.may; rw [h]; simp
theorem may_counts {s : St} (h : s.counts = false) : s.may = false := by unfold St.may; rw [h]; simp
theorem may_allIn {s : St} (h : s.allIn = false) : s.may = false := by unfold St.may; rw [h]; simp
theorem may_stands {s : St} {i : Nat} {g : Gr} (hg : s.gs[i]? = some g) (h : s.stands i g = false) : s.may = false := by unfold St.may; rw [allIx_no hg h, Bool.and_false]
set_option maxRecDepth 100000 in
set_option maxHeartbeats 16000000 in
theorem rstmay_any (h : StH) (s : St) (r : Bool) (hr : s.may = r) (w : World) (hk : StOk w h s) (hf : StFew s) : Calls Try.prog 27 #[stV h s] w fun e w' => e = .returned (.bool r) ∧ Ext w w' := by
  subst hr
  have HF := Lib.hid hf
  have f1 := hf.ms
  have f2 := hf.ps
  have f3 := hf.gs
  have f5 := hf.timers
  have F2 := Lib.hid hf.w
  have HPM := Lib.hid hf.prog
  have HK := Lib.hid hk
  obtain ⟨w1, hw1⟩ : ∃ w1, w.alloc (.cells #[.slice h.pa s.prog.length h.pc, .slice h.ga s.gs.length h.gc, .slice h.qa s.ps.length h.qc, .slice h.ma s.ms.length h.mc, .slice h.la s.glob.length h.lc, .int .i64 s.c0, .int .i64 s.c1, .int .i64 s.c2, .int .i64 s.c3, .slice h.a0 s.w0.length h.k0, .slice h.a1 s.w1.length h.k1, .slice h.a2 s.w2.length h.k2, .slice h.a3 s.w3.length h.k3, .slice h.ta s.timers.length h.tc, .int .i64 s.clock, .int .i64 s.procs] 32) = w1 := ⟨_, rfl⟩
  have HX1 : Hid (Ext w w1) := Lib.hid (by rw [← hw1]; exact (Ext.refl w).alloc _)
  have HB1 : Hid (w1.heap[w.heap.size]? = some (.cells (stC h s) 32 (0, 0))) := Lib.hid (by rw [← hw1]; exact blk_new w _)
  have HK1 := Lib.hid (hk.ext HX1.out)
  have HW1 := Lib.hid hw1
  clear hw1 hk
  clear hf
  have HWE := Lib.hid (whole_eq s)
  obtain ⟨bp, hbp⟩ : ∃ bp, Pg.may s.prog = bp := ⟨_, rfl⟩
  have HPC := Lib.hid (rpmay_any _ s.prog bp hbp w1 HK1.out.prog HPM.out.1 HPM.out.2)
  rw [hbp] at HWE
  clear hbp
  have q0 := st0 HB1.out
  unfold stV
  go_enter Try.func27, Try.ntmps27
  go_upto_region 1 with fail
  rw [HW1.out]
  generalize Value.agg #[.slice h.pa s.prog.length h.pc, .slice h.ga s.gs.length h.gc, .slice h.qa s.ps.length h.qc, .slice h.ma s.ms.length h.mc, .slice h.la s.glob.length h.lc, .int .i64 s.c0, .int .i64 s.c1, .int .i64 s.c2, .int .i64 s.c3, .slice h.a0 s.w0.length h.k0, .slice h.a1 s.w1.length h.k1, .slice h.a2 s.w2.length h.k2, .slice h.a3 s.w3.length h.k3, .slice h.ta s.timers.length h.tc, .int .i64 s.clock, .int .i64 s.procs] = sv0
  go_wp2_with fail
  refine HPC.out.mono ?_
  rintro e w3 ⟨rfl, hx3⟩
  have HX3 := Lib.hid hx3
  clear hx3 q0
  have q1 := st1 (HX3.out.blk HB1.out)
  have q2 := st2 (HX3.out.blk HB1.out)
  have q3 := st3 (HX3.out.blk HB1.out)
  have q15 := st15 (HX3.out.blk HB1.out)
  have q14 := st14 (HX3.out.blk HB1.out)
  have q13 := st13 (HX3.out.blk HB1.out)
  cases bp with
  | false =>
    have HNO : Hid (s.may = false) := Lib.hid (may_whole (by rw [HWE.out]; rfl))
    go_wp2
    (go_ret; exact ⟨by rw [HNO.out] <;> rfl, HX1.out.trans HX3.out⟩)
  | true =>
  by_cases g1 : (s.gs.length : Int) < 1
  · have HNO : Hid (s.may = false) := Lib.hid (may_whole (by rw [HWE.out, wiB_no (by omega)]; rfl))
    go_wp2
    (go_ret; exact ⟨by rw [HNO.out] <;> rfl, HX1.out.trans HX3.out⟩)
  by_cases g2 : (1000 : Int) < (s.gs.length : Int)
  · have HNO : Hid (s.may = false) := Lib.hid (may_whole (by rw [HWE.out, wiB_no (by omega)]; rfl))
    go_wp2
    (go_ret; exact ⟨by rw [HNO.out] <;> rfl, HX1.out.trans HX3.out⟩)
  by_cases g3 : s.ps.length = 8
  rotate_left 1
  · have HNO : Hid (s.may = false) := Lib.hid (may_whole (by rw [HWE.out, decide_eq_false g3]; simp))
    have g3' : ((s.ps.length : Int) != 8) = true := by simp; omega
    go_wp2
    (go_ret; exact ⟨by rw [HNO.out] <;> rfl, HX1.out.trans HX3.out⟩)
  have g3' : ((s.ps.length : Int) != 8) = false := by simp; omega
  have G3 := Lib.hid g3
  clear g3
  by_cases g4 : s.procs < 1
  · have HNO : Hid (s.may = false) := Lib.hid (may_whole (by rw [HWE.out, wiB_no (n := s.procs) (by omega)]; simp))
    go_wp2
    (go_ret; exact ⟨by rw [HNO.out] <;> rfl, HX1.out.trans HX3.out⟩)
  by_cases g5 : 8 < s.procs
  · have HNO : Hid (s.may = false) := Lib.hid (may_whole (by rw [HWE.out, wiB_no (n := s.procs) (by omega)]; simp))
    go_wp2
    (go_ret; exact ⟨by rw [HNO.out] <;> rfl, HX1.out.trans HX3.out⟩)
  by_cases g6 : (1000 : Int) < (s.ms.length : Int)
  · have HNO : Hid (s.may = false) := Lib.hid (may_whole (by rw [HWE.out, decide_eq_false (p := s.ms.length ≤ 1000) (by omega)]; simp))
    go_wp2
    (go_ret; exact ⟨by rw [HNO.out] <;> rfl, HX1.out.trans HX3.out⟩)
  have HWE2 : Hid (s.whole = (St.low s.clock && decide (Sl.May s.timers))) := Lib.hid (by
    rw [HWE.out, wiB_yes (n := (s.gs.length : Int)) (by omega) (by omega), decide_eq_true G3.out, decide_eq_true (show s.ms.length ≤ 1000 by omega), wiB_yes (n := s.procs) (by omega) (by omega)]; rfl)
  go_wp2_with fail
  refine (rlow_k s.clock _ rfl _).mono ?_
  rintro e w' ⟨rfl, rfl⟩
  cases b5 : St.low s.clock with
  | false =>
    have HNO : Hid (s.may = false) := Lib.hid (may_whole (by rw [HWE2.out, b5]; rfl))
    go_wp2
    (go_ret; exact ⟨by rw [HNO.out] <;> rfl, HX1.out.trans HX3.out⟩)
  | true =>
  have HWE3 : Hid (s.whole = decide (Sl.May s.timers)) := Lib.hid (by rw [HWE2.out, b5]; rfl)
  have HSM := Lib.hid (fun w (hx : Ext w1 w) => srmay_any _ s.timers w (HK1.out.timers.ext hx) (by omega))
  obtain ⟨bt, hbt⟩ : ∃ bt, decide (Sl.May s.timers) = bt := ⟨_, rfl⟩
  rw [hbt] at HWE3 HSM
  clear hbt
  go_wp2_with fail
  refine (HSM.out _ HX3.out).mono ?_
  rintro e w4 ⟨rfl, hx4⟩
  have HX4 := Lib.hid (HX3.out.trans hx4)
  clear hx4 q1 q2 q3 q13 q14 q15 HX3
  have HX3 := Lib.hid HX4.out
  cases bt with
  | false =>
    have HNO : Hid (s.may = false) := Lib.hid (may_whole HWE3.out)
    go_wp2
    (go_ret; exact ⟨by rw [HNO.out] <;> rfl, HX1.out.trans HX3.out⟩)
  | true =>
  obtain ⟨⟨⟨q0, q1, q2, q3⟩, q4, q5, q6, q7⟩, ⟨q8, q9, q10, q11⟩, q12, q13, q14, q15⟩ := st16 (HX4.out.blk HB1.out)
  go_wp2_with fail
  refine (rgoods_any h s _ rfl _ (HK1.out.ext HX4.out) HF.out).mono ?_
  rintro e w5 ⟨rfl, hx5⟩
  have HX5 := Lib.hid (HX4.out.trans hx5)
  clear q0 q1 q2 q3 q4 q5 q6 q7 q8 q9 q10 q11 q12 q13 q14 q15
  clear hx5 HX3
  have HX3 := Lib.hid HX5.out
  cases bg : s.goods with
  | false =>
    have HNO : Hid (s.may = false) := Lib.hid (may_goods bg)
    go_wp2
    (go_ret; exact ⟨by rw [HNO.out] <;> rfl, HX1.out.trans HX3.out⟩)
  | true =>
  generalize Value.agg #[.slice h.pa s.prog.length h.pc, .slice h.ga s.gs.length h.gc, .slice h.qa s.ps.length h.qc, .slice h.ma s.ms.length h.mc, .slice h.la s.glob.length h.lc, .int .i64 s.c0, .int .i64 s.c1, .int .i64 s.c2, .int .i64 s.c3, .slice h.a0 s.w0.length h.k0, .slice h.a1 s.w1.length h.k1, .slice h.a2 s.w2.length h.k2, .slice h.a3 s.w3.length h.k3, .slice h.ta s.timers.length h.tc, .int .i64 s.clock, .int .i64 s.procs] = sv1
  obtain ⟨⟨⟨q0, q1, q2, q3⟩, q4, q5, q6, q7⟩, ⟨q8, q9, q10, q11⟩, q12, q13, q14, q15⟩ := st16 (HX5.out.blk HB1.out)
  go_wp2_with fail
  refine (rholds_any h s _ rfl _ (HK1.out.ext HX5.out) HF.out).mono ?_
  rintro e w6 ⟨rfl, hx6⟩
  have HX6 := Lib.hid (HX5.out.trans hx6)
  clear q0 q1 q2 q3 q4 q5 q6 q7 q8 q9 q10 q11 q12 q13 q14 q15
  clear hx6 HX3
  have HX3 := Lib.hid HX6.out
  cases bh : s.holds with
  | false =>
    have HNO : Hid (s.may = false) := Lib.hid (may_holds bh)
    go_wp2
    (go_ret; exact ⟨by rw [HNO.out] <;> rfl, HX1.out.trans HX3.out⟩)
  | true =>
  generalize Value.agg #[.slice h.pa s.prog.length h.pc, .slice h.ga s.gs.length h.gc, .slice h.qa s.ps.length h.qc, .slice h.ma s.ms.length h.mc, .slice h.la s.glob.length h.lc, .int .i64 s.c0, .int .i64 s.c1, .int .i64 s.c2, .int .i64 s.c3, .slice h.a0 s.w0.length h.k0, .slice h.a1 s.w1.length h.k1, .slice h.a2 s.w2.length h.k2, .slice h.a3 s.w3.length h.k3, .slice h.ta s.timers.length h.tc, .int .i64 s.clock, .int .i64 s.procs] = sv2
  have HMAY : Hid (s.may = (s.counts && s.allIn && allIx s.stands 0 s.gs)) := Lib.hid (by unfold St.may; rw [HWE3.out, bg, bh]; rfl)
  clear bg bh b5
  go_wp2_with fail
  go_loopw [3] (fun iv wr => ∃ k : Nat, k ≤ 4 ∧ iv = .int .i64 k ∧ (∀ j, j < k → s.okAt j) ∧ Ext w1 wr) (fun iv _ => 4 - (intOf iv).toNat)
  case atStart => exact ⟨0, by omega, rfl, fun j h => by omega, HX6.out⟩
  case round =>
    clear HX3 HX4 HX5 HX6
    obtain ⟨k, hk, rfl, hall, hx⟩ := hrel
    have HALL := Lib.hid hall
    have HX3 := Lib.hid hx
    clear hall hx
    by_cases hlt : k < 4
    · as_aux_lemma =>
      obtain ⟨c, hc1, hc2⟩ := stC_cnt (h := h) (s := s) hlt
      obtain ⟨A0, d0, l, hcell, hI, hl⟩ := HK1.out.wait hlt
      have HNK : Hid (St.okCnt c l = false → s.counts = false) := Lib.hid (St.counts_no hc2 hl)
      have HYK : Hid (St.okCnt c l = true → s.okAt k) := Lib.hid fun h c' l' h1 h2 => by rw [hc2] at h1; rw [hl] at h2; injection h1 with h1; injection h2 with h2; subst h1 h2; exact h
      have q9 := blk_cell (HX3.out.blk HB1.out) (9 + k) _ hcell
      have q5 := blk_cell (HX3.out.blk HB1.out) (5 + k) _ hc1
      have hll := wts_few F2.out hl
      clear hc1 hc2 hl hI hcell
      by_cases c1 : c < 0
      · have HNO : Hid (s.may = false) := Lib.hid (may_counts (HNK.out (by unfold St.okCnt; rw [decide_eq_false (by omega)]; rfl)))
        go_wp2
        (go_ret; exact ⟨by rw [HNO.out] <;> rfl, HX1.out.trans HX3.out⟩)
      by_cases c2 : 1000000 < c
      · have HNO : Hid (s.may = false) := Lib.hid (may_counts (HNK.out (by unfold St.okCnt; rw [decide_eq_false (by omega)]; rfl)))
        go_wp2
        (go_ret; exact ⟨by rw [HNO.out] <;> rfl, HX1.out.trans HX3.out⟩)
      by_cases c0 : 0 < c
      · by_cases l0 : 0 < l.length
        · have HNO : Hid (s.may = false) := Lib.hid (may_counts (HNK.out (by unfold St.okCnt; rw [decide_eq_true c0, decide_eq_true l0]; simp)))
          have l0' : (0 : Int) < (l.length : Int) := by omega
          go_wp2
          (go_ret; exact ⟨by rw [HNO.out] <;> rfl, HX1.out.trans HX3.out⟩)
        · have HOKK : Hid (s.okAt k) := Lib.hid (HYK.out (by unfold St.okCnt; rw [decide_eq_true (show 0 ≤ c ∧ c ≤ 1000000 by omega), decide_eq_false l0, Bool.and_false]; rfl))
          obtain rfl : l = [] := by cases l with | nil => rfl | cons a b => simp at l0
          simp only [List.length_nil] at *
          go_wp2
          go_roundw
          case rel =>
            refine ⟨k + 1, by omega, by go_num, fun j hj => ?_, HX3.out⟩
            by_cases hjk : j < k
            · exact HALL.out j hjk
            · obtain rfl : j = k := by omega
              exact HOKK.out
          case measure => simp [intOf]; omega
      · have HOKK : Hid (s.okAt k) := Lib.hid (HYK.out (by unfold St.okCnt; rw [decide_eq_true (show 0 ≤ c ∧ c ≤ 1000000 by omega), decide_eq_false c0]; rfl))
        go_wp2
        go_roundw
        case rel =>
          refine ⟨k + 1, by omega, by go_num, fun j hj => ?_, HX3.out⟩
          by_cases hjk : j < k
          · exact HALL.out j hjk
          · obtain rfl : j = k := by omega
            exact HOKK.out
        case measure => simp [intOf]; omega
    · as_aux_lemma =>
      have HCO : Hid (s.counts = true) := Lib.hid (St.counts_yes fun j hj => HALL.out j (by omega))
      have q1 := st1 (HX3.out.blk HB1.out)
      go_upto_region 9 with fail
      clear q1
      obtain ⟨⟨⟨q0, q1, q2, q3⟩, q4, q5, q6, q7⟩, ⟨q8, q9, q10, q11⟩, q12, q13, q14, q15⟩ := st16 (HX3.out.blk HB1.out)
      go_wp2_with fail
      refine (rruns_any h s _ (HK1.out.ext HX3.out) HF.out).mono ?_
      rintro e w7 ⟨A7, c7, rfl, ho7, hx7⟩
      have HX7 := Lib.hid (HX3.out.trans hx7)
      have HI7 := Lib.hid ho7.at.2
      clear q0 q1 q2 q3 q4 q5 q6 q7 q8 q9 q10 q11 q12 q13 q14 q15
      generalize Value.agg #[.slice h.pa s.prog.length h.pc, .slice h.ga s.gs.length h.gc, .slice h.qa s.ps.length h.qc, .slice h.ma s.ms.length h.mc, .slice h.la s.glob.length h.lc, .int .i64 s.c0, .int .i64 s.c1, .int .i64 s.c2, .int .i64 s.c3, .slice h.a0 s.w0.length h.k0, .slice h.a1 s.w1.length h.k1, .slice h.a2 s.w2.length h.k2, .slice h.a3 s.w3.length h.k3, .slice h.ta s.timers.length h.tc, .int .i64 s.clock, .int .i64 s.procs] = sw0
      clear ho7 hx7
      go_wp2_with fail
      refine (rwithin_any (.slice A7 s.runs.length c7) s.runs s.gs.length _ rfl _ HI7.out (by have := St.runs_len HF.out; omega)).mono ?_
      rintro e w' ⟨rfl, rfl⟩
      cases bw0 : St.within s.runs s.gs.length with
      | false =>
        have HNO : Hid (s.may = false) := Lib.hid (may_allIn (by unfold St.allIn; rw [bw0]; simp))
        go_wp2
        go_ret
        exact ⟨by rw [HNO.out] <;> rfl, HX1.out.trans HX7.out⟩
      | true =>
      obtain ⟨⟨⟨q0, q1, q2, q3⟩, q4, q5, q6, q7⟩, ⟨q8, q9, q10, q11⟩, q12, q13, q14, q15⟩ := st16 (HX7.out.blk HB1.out)
      go_wp2_with fail
      refine (rwaiters_any h s _ (HK1.out.ext HX7.out) HF.out).mono ?_
      rintro e w8 ⟨A8, c8, rfl, ho8, hx8⟩
      have HX8 := Lib.hid (HX7.out.trans hx8)
      have HI8 := Lib.hid ho8.at.2
      clear q0 q1 q2 q3 q4 q5 q6 q7 q8 q9 q10 q11 q12 q13 q14 q15
      generalize Value.agg #[.slice h.pa s.prog.length h.pc, .slice h.ga s.gs.length h.gc, .slice h.qa s.ps.length h.qc, .slice h.ma s.ms.length h.mc, .slice h.la s.glob.length h.lc, .int .i64 s.c0, .int .i64 s.c1, .int .i64 s.c2, .int .i64 s.c3, .slice h.a0 s.w0.length h.k0, .slice h.a1 s.w1.length h.k1, .slice h.a2 s.w2.length h.k2, .slice h.a3 s.w3.length h.k3, .slice h.ta s.timers.length h.tc, .int .i64 s.clock, .int .i64 s.procs] = sw1
      clear ho8 hx8
      go_wp2_with fail
      refine (rwithin_any (.slice A8 s.waiters.length c8) s.waiters s.gs.length _ rfl _ HI8.out (by have := St.waiters_len HF.out; omega)).mono ?_
      rintro e w' ⟨rfl, rfl⟩
      cases bw1 : St.within s.waiters s.gs.length with
      | false =>
        have HNO : Hid (s.may = false) := Lib.hid (may_allIn (by unfold St.allIn; rw [bw1]; simp))
        go_wp2
        go_ret
        exact ⟨by rw [HNO.out] <;> rfl, HX1.out.trans HX8.out⟩
      | true =>
      obtain ⟨⟨⟨q0, q1, q2, q3⟩, q4, q5, q6, q7⟩, ⟨q8, q9, q10, q11⟩, q12, q13, q14, q15⟩ := st16 (HX8.out.blk HB1.out)
      go_wp2_with fail
      refine (ronM_any h s true _ (HK1.out.ext HX8.out) HF.out).mono ?_
      rintro e w9 ⟨A9, c9, rfl, ho9, hx9⟩
      have HX9 := Lib.hid (HX8.out.trans hx9)
      have HI9 := Lib.hid ho9.at.2
      clear q0 q1 q2 q3 q4 q5 q6 q7 q8 q9 q10 q11 q12 q13 q14 q15
      generalize Value.agg #[.slice h.pa s.prog.length h.pc, .slice h.ga s.gs.length h.gc, .slice h.qa s.ps.length h.qc, .slice h.ma s.ms.length h.mc, .slice h.la s.glob.length h.lc, .int .i64 s.c0, .int .i64 s.c1, .int .i64 s.c2, .int .i64 s.c3, .slice h.a0 s.w0.length h.k0, .slice h.a1 s.w1.length h.k1, .slice h.a2 s.w2.length h.k2, .slice h.a3 s.w3.length h.k3, .slice h.ta s.timers.length h.tc, .int .i64 s.clock, .int .i64 s.procs] = sw2
      clear ho9 hx9
      go_wp2_with fail
      refine (rwithin_any (.slice A9 (s.onM true).length c9) (s.onM true) s.gs.length _ rfl _ HI9.out (by have := St.onM_len HF.out true; omega)).mono ?_
      rintro e w' ⟨rfl, rfl⟩
      cases bw2 : St.within (s.onM true) s.gs.length with
      | false =>
        have HNO : Hid (s.may = false) := Lib.hid (may_allIn (by unfold St.allIn; rw [bw2]; simp))
        go_wp2
        go_ret
        exact ⟨by rw [HNO.out] <;> rfl, HX1.out.trans HX9.out⟩
      | true =>
      obtain ⟨⟨⟨q0, q1, q2, q3⟩, q4, q5, q6, q7⟩, ⟨q8, q9, q10, q11⟩, q12, q13, q14, q15⟩ := st16 (HX9.out.blk HB1.out)
      go_wp2_with fail
      refine (ronM_any h s false _ (HK1.out.ext HX9.out) HF.out).mono ?_
      rintro e w10 ⟨A10, c10, rfl, ho10, hx10⟩
      have HX10 := Lib.hid (HX9.out.trans hx10)
      have HI10 := Lib.hid ho10.at.2
      clear q0 q1 q2 q3 q4 q5 q6 q7 q8 q9 q10 q11 q12 q13 q14 q15
      generalize Value.agg #[.slice h.pa s.prog.length h.pc, .slice h.ga s.gs.length h.gc, .slice h.qa s.ps.length h.qc, .slice h.ma s.ms.length h.mc, .slice h.la s.glob.length h.lc, .int .i64 s.c0, .int .i64 s.c1, .int .i64 s.c2, .int .i64 s.c3, .slice h.a0 s.w0.length h.k0, .slice h.a1 s.w1.length h.k1, .slice h.a2 s.w2.length h.k2, .slice h.a3 s.w3.length h.k3, .slice h.ta s.timers.length h.tc, .int .i64 s.clock, .int .i64 s.procs] = sw3
      clear ho10 hx10
      go_wp2_with fail
      refine (rwithin_any (.slice A10 (s.onM false).length c10) (s.onM false) s.gs.length _ rfl _ HI10.out (by have := St.onM_len HF.out false; omega)).mono ?_
      rintro e w' ⟨rfl, rfl⟩
      cases bw3 : St.within (s.onM false) s.gs.length with
      | false =>
        have HNO : Hid (s.may = false) := Lib.hid (may_allIn (by unfold St.allIn; rw [bw3]; simp))
        go_wp2
        go_ret
        exact ⟨by rw [HNO.out] <;> rfl, HX1.out.trans HX10.out⟩
      | true =>
      have HMA2 : Hid (s.may = allIx s.stands 0 s.gs) := Lib.hid (by rw [HMAY.out, HCO.out]; unfold St.allIn; rw [bw0, bw1, bw2, bw3]; rfl)
      clear bw0 bw1 bw2 bw3
      go_wp2_with fail
      go_loopw [5] (fun iv wr => ∃ k : Nat, k ≤ s.gs.length ∧ iv = .int .i64 ((k : Int) + 1) ∧ (∀ (j : Nat) g, s.gs[j]? = some g → j < k → s.stands j g = true) ∧ Ext w1 wr) (fun iv _ => s.gs.length + 1 - (intOf iv).toNat)
      case atStart => exact ⟨0, by omega, by simp, fun j g _ h => by omega, HX10.out⟩
      case round =>
        obtain ⟨k, hk, rfl, hall, hx⟩ := hrel
        have HAL := Lib.hid hall
        have HXR := Lib.hid hx
        clear hall hx
        by_cases hlt2 : k < s.gs.length
        · as_aux_lemma =>
          obtain ⟨g, hg⟩ : ∃ g, s.gs[k]? = some g := ⟨_, List.getElem?_eq_getElem hlt2⟩
          have HG := Lib.hid hg
          have HSD := Lib.hid (fun w (hx : Ext w1 w) => rstands_any h s k g hg _ rfl w (HK1.out.ext hx) HF.out)
          have e1 : (k : Int) + 1 ≤ (s.gs.length : Int) := by omega
          clear hg
          obtain ⟨⟨⟨q0, q1, q2, q3⟩, q4, q5, q6, q7⟩, ⟨q8, q9, q10, q11⟩, q12, q13, q14, q15⟩ := st16 (HXR.out.blk HB1.out)
          go_wp2_with fail
          refine (HSD.out _ HXR.out).mono ?_
          rintro e wz ⟨rfl, hxz⟩
          have HXZ := Lib.hid (HXR.out.trans hxz)
          clear hxz
          clear q0 q1 q2 q3 q4 q5 q6 q7 q8 q9 q10 q11 q12 q13 q14 q15
          generalize Value.agg #[.slice h.pa s.prog.length h.pc, .slice h.ga s.gs.length h.gc, .slice h.qa s.ps.length h.qc, .slice h.ma s.ms.length h.mc, .slice h.la s.glob.length h.lc, .int .i64 s.c0, .int .i64 s.c1, .int .i64 s.c2, .int .i64 s.c3, .slice h.a0 s.w0.length h.k0, .slice h.a1 s.w1.length h.k1, .slice h.a2 s.w2.length h.k2, .slice h.a3 s.w3.length h.k3, .slice h.ta s.timers.length h.tc, .int .i64 s.clock, .int .i64 s.procs] = sx
          cases bs : s.stands k g with
          | false =>
            have HNO : Hid (s.may = false) := Lib.hid (may_stands HG.out bs)
            go_wp2
            go_ret
            exact ⟨by rw [HNO.out] <;> rfl, HX1.out.trans HXZ.out⟩
          | true =>
            have HBS := Lib.hid bs
            clear bs
            go_wp2
            go_roundw
            case rel =>
              refine ⟨k + 1, by omega, by simp, fun j y hj hjk => ?_, HXZ.out⟩
              by_cases hjk2 : j < k
              · exact HAL.out j y hj hjk2
              · obtain rfl : j = k := by omega
                rw [← some_eq HG.out hj]
                exact HBS.out
            case measure => simp [intOf]; omega
        · have e1 : decide ((k : Int) + 1 ≤ (s.gs.length : Int)) = false := by simp; omega
          have HY : Hid (s.may = true) := Lib.hid (by rw [HMA2.out]; exact allIx_yes fun j g hj => HAL.out j g hj (by have := (List.getElem?_eq_some_iff.1 hj).1; omega))
          go_wp2
          go_ret
          exact ⟨by rw [HY.out] <;> rfl, HX1.out.trans HXR.out⟩
def St.placeOf (s : St) (n : Int) (g : Gr) : Int × Int := if g.st = 1 then placeAt n s.ps 0 else if g.st = 2 then (4, g.m) else if g.st = 4 then (7, g.m) else if g.st = 5 then (8, 0) else waitAt n s.wts 0
def St.place (s : St) (n : Int) : Int × Int := if 1 ≤ n ∧ n ≤ s.gs.length ∧ s.may = true then s.placeOf n (s.gs.getD (n - 1).toNat St.nilG) else (0, 0)
theorem St.place_no {s : St} {p : Int} (h : ¬ (1 ≤ p ∧ p ≤ s.gs.length ∧ s.may = true)) : s.place p = (0, 0) := if_neg h
theorem St.place_yes {s : St} {j : Nat} {g : Gr} (h2 : s.may = true) (hg : s.gs[j]? = some g) : s.place ((j : Int) + 1) = s.placeOf ((j : Int) + 1) g := by
  have := (List.getElem?_eq_some_iff.1 hg).1
  unfold St.place
  rw [if_pos ⟨by omega, by omega, h2⟩, show ((j : Int) + 1 - 1).toNat = j by omega, List.getD, hg]
  rfl
theorem St.may_stands {s : St} (h : s.may = true) {j : Nat} {g : Gr} (hg : s.gs[j]? = some g) : s.stands j g = true := by
  unfold St.may at h
  rw [Bool.and_eq_true] at h
  have := allIx_iff.1 h.2 j g hg
  rwa [Nat.zero_add] at this
theorem St.may_st {s : St} (h : s.may = true) {j : Nat} {g : Gr} (hg : s.gs[j]? = some g) : 1 ≤ g.st ∧ g.st ≤ 5 := by
  have := St.may_stands h hg
  unfold St.stands at this
  rw [Bool.and_eq_true, Bool.and_eq_true, decide_eq_true_eq] at this
  exact this.1.1
set_option maxRecDepth 100000 in
set_option maxHeartbeats 8000000 in
theorem sPlace_any (h : StH) (s : St) (n : Int) (q : Int × Int) (hq : s.place n = q) (w : World) (hk : StOk w h s) (hf : StFew s) : Calls Try.prog 39 #[stV h s, .int .i64 n] w fun e w' => e = .returned (plV q) ∧ Ext w w' := by
  have HF := Lib.hid hf
  have f1 := hf.gs
  have F2 := Lib.hid hf.w
  have HK := Lib.hid hk
  obtain ⟨w1, hw1⟩ : ∃ w1, w.alloc (.cells #[.slice h.pa s.prog.length h.pc, .slice h.ga s.gs.length h.gc, .slice h.qa s.ps.length h.qc, .slice h.ma s.ms.length h.mc, .slice h.la s.glob.length h.lc, .int .i64 s.c0, .int .i64 s.c1, .int .i64 s.c2, .int .i64 s.c3, .slice h.a0 s.w0.length h.k0, .slice h.a1 s.w1.length h.k1, .slice h.a2 s.w2.length h.k2, .slice h.a3 s.w3.length h.k3, .slice h.ta s.timers.length h.tc, .int .i64 s.clock, .int .i64 s.procs] 32) = w1 := ⟨_, rfl⟩
  have HX1 : Hid (Ext w w1) := Lib.hid (by rw [← hw1]; exact (Ext.refl w).alloc _)
  have HB1 : Hid (w1.heap[w.heap.size]? = some (.cells (stC h s) 32 (0, 0))) := Lib.hid (by rw [← hw1]; exact blk_new w _)
  have HK1 := Lib.hid (hk.ext HX1.out)
  have HW1 := Lib.hid hw1
  clear hw1 hk
  clear hf
  obtain ⟨B, hB⟩ : ∃ B, w1.heap.size = B := ⟨_, rfl⟩
  have HB := Lib.hid hB
  obtain ⟨w2, hw2⟩ : ∃ w2, w1.alloc (.cells #[.int .i64 0, .int .i64 0] 52) = w2 := ⟨_, rfl⟩
  have HW2 := Lib.hid hw2
  have HX2 : Hid (Ext w1 w2) := Lib.hid (by rw [← hw2]; exact (Ext.refl w1).alloc _)
  have HP2 : Hid (w2.heap[B]? = some (.cells #[.int .i64 0, .int .i64 0] 52 (0, 0))) := Lib.hid (by rw [← hw2, ← hB]; exact blk_new w1 _)
  have HBW : Hid (w.heap.size ≤ B) := Lib.hid (by rw [← hB]; exact HX1.out.size)
  clear hB hw2
  have HQ0 := Lib.hid hq
  clear hq
  have q1 := st1 (HX2.out.blk HB1.out)
  have HLD := Lib.hid (HX2.out.blk HB1.out)
  unfold stV
  go_enter Try.func39, Try.ntmps39
  go_upto_region 1 with (first | rw [HW1.out] | rw [HW2.out])
  rw [HB.out]
  generalize Value.agg #[.slice h.pa s.prog.length h.pc, .slice h.ga s.gs.length h.gc, .slice h.qa s.ps.length h.qc, .slice h.ma s.ms.length h.mc, .slice h.la s.glob.length h.lc, .int .i64 s.c0, .int .i64 s.c1, .int .i64 s.c2, .int .i64 s.c3, .slice h.a0 s.w0.length h.k0, .slice h.a1 s.w1.length h.k1, .slice h.a2 s.w2.length h.k2, .slice h.a3 s.w3.length h.k3, .slice h.ta s.timers.length h.tc, .int .i64 s.clock, .int .i64 s.procs] = sv0
  by_cases a1 : n < 1
  · have HQ : Hid ((0, 0) = q) := Lib.hid (by rw [← HQ0.out, St.place_no (by omega)])
    have HPR := Lib.hid HP2.out
    have HXR := Lib.hid HX2.out
    obtain ⟨⟨r0, r1⟩, y0, y1⟩ := place_cells HPR.out
    go_wp2
    refine bodyPost_ret (v := .agg #[.int .i64 _, .int .i64 _]) (results_cell_row rfl _ _ B _ _ _ _ rfl (place_set HPR.out) Try.underlying52 rfl (by kernel_rfl)) rfl ⟨by rw [← HQ.out] <;> rfl, (HX1.out.trans HXR.out).set2 HBW.out _ _⟩
  by_cases a2 : (s.gs.length : Int) < n
  · have HQ : Hid ((0, 0) = q) := Lib.hid (by rw [← HQ0.out, St.place_no (by omega)])
    have HPR := Lib.hid HP2.out
    have HXR := Lib.hid HX2.out
    obtain ⟨⟨r0, r1⟩, y0, y1⟩ := place_cells HPR.out
    go_wp2
    refine bodyPost_ret (v := .agg #[.int .i64 _, .int .i64 _]) (results_cell_row rfl _ _ B _ _ _ _ rfl (place_set HPR.out) Try.underlying52 rfl (by kernel_rfl)) rfl ⟨by rw [← HQ.out] <;> rfl, (HX1.out.trans HXR.out).set2 HBW.out _ _⟩
  go_wp2_with (refine wpList_load_rowW rfl 32 _ rfl w.heap.size rfl (stL h s) (stV h s) rfl _ (range_row HLD.out) Try.underlying32 rfl (by kernel_rfl) ?_)
  refine (sstmay_any h s _ rfl _ (HK1.out.ext HX2.out) HF.out).mono ?_
  rintro e w3 ⟨rfl, hx3⟩
  have HX3 := Lib.hid (HX2.out.trans hx3)
  have HP3 := Lib.hid (hx3.blk HP2.out)
  clear hx3 q1 HLD
  cases bm : s.may with
  | false =>
    have HQ : Hid ((0, 0) = q) := Lib.hid (by rw [← HQ0.out, St.place_no (fun h => by rw [bm] at h; exact absurd h.2.2 (by simp))])
    have HPR := Lib.hid HP3.out
    have HXR := Lib.hid HX3.out
    obtain ⟨⟨r0, r1⟩, y0, y1⟩ := place_cells HPR.out
    go_wp2
    refine bodyPost_ret (v := .agg #[.int .i64 _, .int .i64 _]) (results_cell_row rfl _ _ B _ _ _ _ rfl (place_set HPR.out) Try.underlying52 rfl (by kernel_rfl)) rfl ⟨by rw [← HQ.out] <;> rfl, (HX1.out.trans HXR.out).set2 HBW.out _ _⟩
  | true =>
    obtain ⟨j, rfl⟩ : ∃ j : Nat, n = (j : Int) + 1 := ⟨(n - 1).toNat, by omega⟩
    obtain ⟨g, hg⟩ : ∃ g, s.gs[j]? = some g := ⟨_, List.getElem?_eq_getElem (by omega)⟩
    have hst := St.may_st bm hg
    have HPO : Hid (s.placeOf ((j : Int) + 1) g = q) := Lib.hid (by rw [← HQ0.out, St.place_yes bm hg])
    obtain ⟨b, o, hA, hb, p0, p1, p2, p3, p4⟩ := gs_get (HK1.out.ext HX3.out).gs hg
    obtain ⟨fn, pc, st, m, sq⟩ := g
    simp only at p0 p1 p2 p3 p4 hst
    have e1 : (j : Int) + 1 - 1 = (j : Int) := by omega
    have e4 : (j : Int) < (s.gs.length : Int) := by omega
    obtain ⟨w4, hw4⟩ : ∃ w4, w3.alloc (.cells #[.int .i64 fn, .int .i64 pc, .int .i64 st, .int .i64 m, .int .i64 sq] 55) = w4 := ⟨_, rfl⟩
    have HW4 := Lib.hid hw4
    have HX4 : Hid (Ext w1 w4) := Lib.hid (by rw [← hw4]; exact HX3.out.alloc _)
    have HG4 : Hid (w4.heap[w3.heap.size]? = some (.cells #[.int .i64 fn, .int .i64 pc, .int .i64 st, .int .i64 m, .int .i64 sq] 55 (0, 0))) := Lib.hid (by rw [← hw4]; exact blk_new w3 _)
    have HP4 : Hid (w4.heap[B]? = some (.cells #[.int .i64 0, .int .i64 0] 52 (0, 0))) := Lib.hid (by rw [← hw4]; exact blk_alloc HP3.out _)
    have q1 := st1 (HX3.out.blk HB1.out)
    have HA := Lib.hid hA
    clear hg hb a1 a2 hw4 hA
    have hA := HA.out
    go_upto_region 4 with fail
    rw [HW4.out]
    clear p0 p1 p2 p3 p4 q1 hA e1 e4
    have HLD := Lib.hid (HX4.out.blk HB1.out)
    have z2 := blk_cell HG4.out 2 _ rfl
    by_cases s1 : st = 1
    · subst s1
      obtain ⟨qa, qb, hqq⟩ : ∃ qa qb, (qa, qb) = q := ⟨q.1, q.2, rfl⟩
      have HQ := Lib.hid hqq
      clear hqq
      have HSC : Hid (Calls Try.prog 94 #[stV h s, .int .i64 ((j : Int) + 1)] w4 fun e w' => e = .returned (.agg #[.int .i64 qa, .int .i64 qb]) ∧ Ext w4 w') := Lib.hid (squeued_any h s ((j : Int) + 1) (qa, qb) (by rw [HQ.out, ← HPO.out]; rfl) w4 (HK1.out.ext HX4.out) HF.out)
      go_wp2_with (refine wpList_load_rowW rfl 32 _ rfl w.heap.size rfl (stL h s) (stV h s) rfl _ (range_row HLD.out) Try.underlying32 rfl (by kernel_rfl) ?_)
      refine HSC.out.mono ?_
      rintro e w5 ⟨rfl, hx5⟩
      have HXR := Lib.hid (HX4.out.trans hx5)
      have HPR := Lib.hid (hx5.blk HP4.out)
      clear z2 hx5
      obtain ⟨⟨r0, r1⟩, y0, y1⟩ := place_cells HPR.out
      go_wp2
      refine bodyPost_ret (v := .agg #[.int .i64 _, .int .i64 _]) (results_cell_row rfl _ _ B _ _ _ _ rfl (place_set HPR.out) Try.underlying52 rfl (by kernel_rfl)) rfl ⟨by rw [← HQ.out] <;> rfl, (HX1.out.trans HXR.out).set2 HBW.out _ _⟩
    have HXR := Lib.hid HX4.out
    have HPR := Lib.hid HP4.out
    have s1' : (st == 1) = false := by simpa using s1
    by_cases s2 : st = 2
    · subst s2
      have HQ : Hid ((4, m) = q) := Lib.hid (by rw [← HPO.out]; rfl)
      have z3 := blk_cell HG4.out 3 _ rfl
      clear s1
      obtain ⟨⟨r0, r1⟩, y0, y1⟩ := place_cells HPR.out
      go_wp2
      refine bodyPost_ret (v := .agg #[.int .i64 _, .int .i64 _]) (results_cell_row rfl _ _ B _ _ _ _ rfl (place_set HPR.out) Try.underlying52 rfl (by kernel_rfl)) rfl ⟨by rw [← HQ.out] <;> rfl, (HX1.out.trans HXR.out).set2 HBW.out _ _⟩
    have s2' : (st == 2) = false := by simpa using s2
    by_cases s3 : st = 3
    · subst s3
      obtain ⟨qa, qb, hqq⟩ : ∃ qa qb, (qa, qb) = q := ⟨q.1, q.2, rfl⟩
      have HQ := Lib.hid hqq
      clear hqq
      have HSC : Hid (Calls Try.prog 95 #[stV h s, .int .i64 ((j : Int) + 1)] w4 fun e w' => e = .returned (.agg #[.int .i64 qa, .int .i64 qb]) ∧ Ext w4 w') := Lib.hid (swaiting_any h s ((j : Int) + 1) (qa, qb) (by rw [HQ.out, ← HPO.out]; rfl) w4 (HK1.out.ext HX4.out) HF.out)
      clear s1 s2
      go_wp2_with (refine wpList_load_rowW rfl 32 _ rfl w.heap.size rfl (stL h s) (stV h s) rfl _ (range_row HLD.out) Try.underlying32 rfl (by kernel_rfl) ?_)
      refine HSC.out.mono ?_
      rintro e w5 ⟨rfl, hx5⟩
      clear HXR HPR
      have HXR := Lib.hid (HX4.out.trans hx5)
      have HPR := Lib.hid (hx5.blk HP4.out)
      clear z2 hx5
      obtain ⟨⟨r0, r1⟩, y0, y1⟩ := place_cells HPR.out
      go_wp2
      refine bodyPost_ret (v := .agg #[.int .i64 _, .int .i64 _]) (results_cell_row rfl _ _ B _ _ _ _ rfl (place_set HPR.out) Try.underlying52 rfl (by kernel_rfl)) rfl ⟨by rw [← HQ.out] <;> rfl, (HX1.out.trans HXR.out).set2 HBW.out _ _⟩
    have s3' : (st == 3) = false := by simpa using s3
    by_cases s4 : st = 4
    · subst s4
      have HQ : Hid ((7, m) = q) := Lib.hid (by rw [← HPO.out]; rfl)
      have z3 := blk_cell HG4.out 3 _ rfl
      clear s1 s2
      obtain ⟨⟨r0, r1⟩, y0, y1⟩ := place_cells HPR.out
      go_wp2
      refine bodyPost_ret (v := .agg #[.int .i64 _, .int .i64 _]) (results_cell_row rfl _ _ B _ _ _ _ rfl (place_set HPR.out) Try.underlying52 rfl (by kernel_rfl)) rfl ⟨by rw [← HQ.out] <;> rfl, (HX1.out.trans HXR.out).set2 HBW.out _ _⟩
    have s4' : (st == 4) = false := by simpa using s4
    obtain rfl : st = 5 := by omega
    have HQ : Hid ((8, 0) = q) := Lib.hid (by rw [← HPO.out]; rfl)
    clear s1 s2 s3 s4
    obtain ⟨⟨r0, r1⟩, y0, y1⟩ := place_cells HPR.out
    go_wp2
    refine bodyPost_ret (v := .agg #[.int .i64 _, .int .i64 _]) (results_cell_row rfl _ _ B _ _ _ _ rfl (place_set HPR.out) Try.underlying52 rfl (by kernel_rfl)) rfl ⟨by rw [← HQ.out] <;> rfl, (HX1.out.trans HXR.out).set2 HBW.out _ _⟩
set_option maxRecDepth 100000 in
set_option maxHeartbeats 8000000 in
theorem rPlace_any (h : StH) (s : St) (n : Int) (q : Int × Int) (hq : s.place n = q) (w : World) (hk : StOk w h s) (hf : StFew s) : Calls Try.prog 28 #[stV h s, .int .i64 n] w fun e w' => e = .returned (plV q) ∧ Ext w w' := by
  have HF := Lib.hid hf
  have f1 := hf.gs
  have F2 := Lib.hid hf.w
  have HK := Lib.hid hk
  obtain ⟨w1, hw1⟩ : ∃ w1, w.alloc (.cells #[.slice h.pa s.prog.length h.pc, .slice h.ga s.gs.length h.gc, .slice h.qa s.ps.length h.qc, .slice h.ma s.ms.length h.mc, .slice h.la s.glob.length h.lc, .int .i64 s.c0, .int .i64 s.c1, .int .i64 s.c2, .int .i64 s.c3, .slice h.a0 s.w0.length h.k0, .slice h.a1 s.w1.length h.k1, .slice h.a2 s.w2.length h.k2, .slice h.a3 s.w3.length h.k3, .slice h.ta s.timers.length h.tc, .int .i64 s.clock, .int .i64 s.procs] 32) = w1 := ⟨_, rfl⟩
  have HX1 : Hid (Ext w w1) := Lib.hid (by rw [← hw1]; exact (Ext.refl w).alloc _)
  have HB1 : Hid (w1.heap[w.heap.size]? = some (.cells (stC h s) 32 (0, 0))) := Lib.hid (by rw [← hw1]; exact blk_new w _)
  have HK1 := Lib.hid (hk.ext HX1.out)
  have HW1 := Lib.hid hw1
  clear hw1 hk
  clear hf
  obtain ⟨B, hB⟩ : ∃ B, w1.heap.size = B := ⟨_, rfl⟩
  have HB := Lib.hid hB
  obtain ⟨w2, hw2⟩ : ∃ w2, w1.alloc (.cells #[.int .i64 0, .int .i64 0] 52) = w2 := ⟨_, rfl⟩
  have HW2 := Lib.hid hw2
  have HX2 : Hid (Ext w1 w2) := Lib.hid (by rw [← hw2]; exact (Ext.refl w1).alloc _)
  have HP2 : Hid (w2.heap[B]? = some (.cells #[.int .i64 0, .int .i64 0] 52 (0, 0))) := Lib.hid (by rw [← hw2, ← hB]; exact blk_new w1 _)
  have HBW : Hid (w.heap.size ≤ B) := Lib.hid (by rw [← hB]; exact HX1.out.size)
  clear hB hw2
  have HQ0 := Lib.hid hq
  clear hq
  have q1 := st1 (HX2.out.blk HB1.out)
  have HLD := Lib.hid (HX2.out.blk HB1.out)
  unfold stV
  go_enter Try.func28, Try.ntmps28
  go_upto_region 1 with (first | rw [HW1.out] | rw [HW2.out])
  rw [HB.out]
  generalize Value.agg #[.slice h.pa s.prog.length h.pc, .slice h.ga s.gs.length h.gc, .slice h.qa s.ps.length h.qc, .slice h.ma s.ms.length h.mc, .slice h.la s.glob.length h.lc, .int .i64 s.c0, .int .i64 s.c1, .int .i64 s.c2, .int .i64 s.c3, .slice h.a0 s.w0.length h.k0, .slice h.a1 s.w1.length h.k1, .slice h.a2 s.w2.length h.k2, .slice h.a3 s.w3.length h.k3, .slice h.ta s.timers.length h.tc, .int .i64 s.clock, .int .i64 s.procs] = sv0
  by_cases a1 : n < 1
  · have HQ : Hid ((0, 0) = q) := Lib.hid (by rw [← HQ0.out, St.place_no (by omega)])
    have HPR := Lib.hid HP2.out
    have HXR := Lib.hid HX2.out
    obtain ⟨⟨r0, r1⟩, y0, y1⟩ := place_cells HPR.out
    go_wp2
    refine bodyPost_ret (v := .agg #[.int .i64 _, .int .i64 _]) (results_cell_row rfl _ _ B _ _ _ _ rfl (place_set HPR.out) Try.underlying52 rfl (by kernel_rfl)) rfl ⟨by rw [← HQ.out] <;> rfl, (HX1.out.trans HXR.out).set2 HBW.out _ _⟩
  by_cases a2 : (s.gs.length : Int) < n
  · have HQ : Hid ((0, 0) = q) := Lib.hid (by rw [← HQ0.out, St.place_no (by omega)])
    have HPR := Lib.hid HP2.out
    have HXR := Lib.hid HX2.out
    obtain ⟨⟨r0, r1⟩, y0, y1⟩ := place_cells HPR.out
    go_wp2
    refine bodyPost_ret (v := .agg #[.int .i64 _, .int .i64 _]) (results_cell_row rfl _ _ B _ _ _ _ rfl (place_set HPR.out) Try.underlying52 rfl (by kernel_rfl)) rfl ⟨by rw [← HQ.out] <;> rfl, (HX1.out.trans HXR.out).set2 HBW.out _ _⟩
  go_wp2_with (refine wpList_load_rowW rfl 32 _ rfl w.heap.size rfl (stL h s) (stV h s) rfl _ (range_row HLD.out) Try.underlying32 rfl (by kernel_rfl) ?_)
  refine (rstmay_any h s _ rfl _ (HK1.out.ext HX2.out) HF.out).mono ?_
  rintro e w3 ⟨rfl, hx3⟩
  have HX3 := Lib.hid (HX2.out.trans hx3)
  have HP3 := Lib.hid (hx3.blk HP2.out)
  clear hx3 q1 HLD
  cases bm : s.may with
  | false =>
    have HQ : Hid ((0, 0) = q) := Lib.hid (by rw [← HQ0.out, St.place_no (fun h => by rw [bm] at h; exact absurd h.2.2 (by simp))])
    have HPR := Lib.hid HP3.out
    have HXR := Lib.hid HX3.out
    obtain ⟨⟨r0, r1⟩, y0, y1⟩ := place_cells HPR.out
    go_wp2
    refine bodyPost_ret (v := .agg #[.int .i64 _, .int .i64 _]) (results_cell_row rfl _ _ B _ _ _ _ rfl (place_set HPR.out) Try.underlying52 rfl (by kernel_rfl)) rfl ⟨by rw [← HQ.out] <;> rfl, (HX1.out.trans HXR.out).set2 HBW.out _ _⟩
  | true =>
    obtain ⟨j, rfl⟩ : ∃ j : Nat, n = (j : Int) + 1 := ⟨(n - 1).toNat, by omega⟩
    obtain ⟨g, hg⟩ : ∃ g, s.gs[j]? = some g := ⟨_, List.getElem?_eq_getElem (by omega)⟩
    have hst := St.may_st bm hg
    have HPO : Hid (s.placeOf ((j : Int) + 1) g = q) := Lib.hid (by rw [← HQ0.out, St.place_yes bm hg])
    obtain ⟨b, o, hA, hb, p0, p1, p2, p3, p4⟩ := gs_get (HK1.out.ext HX3.out).gs hg
    obtain ⟨fn, pc, st, m, sq⟩ := g
    simp only at p0 p1 p2 p3 p4 hst
    have e1 : (j : Int) + 1 - 1 = (j : Int) := by omega
    have e4 : (j : Int) < (s.gs.length : Int) := by omega
    obtain ⟨w4, hw4⟩ : ∃ w4, w3.alloc (.cells #[.int .i64 fn, .int .i64 pc, .int .i64 st, .int .i64 m, .int .i64 sq] 55) = w4 := ⟨_, rfl⟩
    have HW4 := Lib.hid hw4
    have HX4 : Hid (Ext w1 w4) := Lib.hid (by rw [← hw4]; exact HX3.out.alloc _)
    have HG4 : Hid (w4.heap[w3.heap.size]? = some (.cells #[.int .i64 fn, .int .i64 pc, .int .i64 st, .int .i64 m, .int .i64 sq] 55 (0, 0))) := Lib.hid (by rw [← hw4]; exact blk_new w3 _)
    have HP4 : Hid (w4.heap[B]? = some (.cells #[.int .i64 0, .int .i64 0] 52 (0, 0))) := Lib.hid (by rw [← hw4]; exact blk_alloc HP3.out _)
    have q1 := st1 (HX3.out.blk HB1.out)
    have HA := Lib.hid hA
    clear hg hb a1 a2 hw4 hA
    have hA := HA.out
    go_upto_region 4 with fail
    rw [HW4.out]
    clear p0 p1 p2 p3 p4 q1 hA e1 e4
    have HLD := Lib.hid (HX4.out.blk HB1.out)
    have z2 := blk_cell HG4.out 2 _ rfl
    by_cases s1 : st = 1
    · subst s1
      obtain ⟨qa, qb, hqq⟩ : ∃ qa qb, (qa, qb) = q := ⟨q.1, q.2, rfl⟩
      have HQ := Lib.hid hqq
      clear hqq
      have HSC : Hid (Calls Try.prog 82 #[stV h s, .int .i64 ((j : Int) + 1)] w4 fun e w' => e = .returned (.agg #[.int .i64 qa, .int .i64 qb]) ∧ Ext w4 w') := Lib.hid (ratP_any h s ((j : Int) + 1) (qa, qb) (by rw [HQ.out, ← HPO.out]; rfl) w4 (HK1.out.ext HX4.out) HF.out)
      go_wp2_with (refine wpList_load_rowW rfl 32 _ rfl w.heap.size rfl (stL h s) (stV h s) rfl _ (range_row HLD.out) Try.underlying32 rfl (by kernel_rfl) ?_)
      refine HSC.out.mono ?_
      rintro e w5 ⟨rfl, hx5⟩
      have HXR := Lib.hid (HX4.out.trans hx5)
      have HPR := Lib.hid (hx5.blk HP4.out)
      clear z2 hx5
      obtain ⟨⟨r0, r1⟩, y0, y1⟩ := place_cells HPR.out
      go_wp2
      refine bodyPost_ret (v := .agg #[.int .i64 _, .int .i64 _]) (results_cell_row rfl _ _ B _ _ _ _ rfl (place_set HPR.out) Try.underlying52 rfl (by kernel_rfl)) rfl ⟨by rw [← HQ.out] <;> rfl, (HX1.out.trans HXR.out).set2 HBW.out _ _⟩
    have HXR := Lib.hid HX4.out
    have HPR := Lib.hid HP4.out
    have s1' : (st == 1) = false := by simpa using s1
    by_cases s2 : st = 2
    · subst s2
      have HQ : Hid ((4, m) = q) := Lib.hid (by rw [← HPO.out]; rfl)
      have z3 := blk_cell HG4.out 3 _ rfl
      clear s1
      obtain ⟨⟨r0, r1⟩, y0, y1⟩ := place_cells HPR.out
      go_wp2
      refine bodyPost_ret (v := .agg #[.int .i64 _, .int .i64 _]) (results_cell_row rfl _ _ B _ _ _ _ rfl (place_set HPR.out) Try.underlying52 rfl (by kernel_rfl)) rfl ⟨by rw [← HQ.out] <;> rfl, (HX1.out.trans HXR.out).set2 HBW.out _ _⟩
    have s2' : (st == 2) = false := by simpa using s2
    by_cases s4 : st = 4
    · subst s4
      have HQ : Hid ((7, m) = q) := Lib.hid (by rw [← HPO.out]; rfl)
      have z3 := blk_cell HG4.out 3 _ rfl
      clear s1 s2
      obtain ⟨⟨r0, r1⟩, y0, y1⟩ := place_cells HPR.out
      go_wp2
      refine bodyPost_ret (v := .agg #[.int .i64 _, .int .i64 _]) (results_cell_row rfl _ _ B _ _ _ _ rfl (place_set HPR.out) Try.underlying52 rfl (by kernel_rfl)) rfl ⟨by rw [← HQ.out] <;> rfl, (HX1.out.trans HXR.out).set2 HBW.out _ _⟩
    have s4' : (st == 4) = false := by simpa using s4
    by_cases s5 : st = 5
    · subst s5
      have HQ : Hid ((8, 0) = q) := Lib.hid (by rw [← HPO.out]; rfl)
      clear s1 s2 s4
      obtain ⟨⟨r0, r1⟩, y0, y1⟩ := place_cells HPR.out
      go_wp2
      refine bodyPost_ret (v := .agg #[.int .i64 _, .int .i64 _]) (results_cell_row rfl _ _ B _ _ _ _ rfl (place_set HPR.out) Try.underlying52 rfl (by kernel_rfl)) rfl ⟨by rw [← HQ.out] <;> rfl, (HX1.out.trans HXR.out).set2 HBW.out _ _⟩
    obtain rfl : st = 3 := by omega
    have HWT : Hid (waitAt ((j : Int) + 1) s.wts 0 = q) := Lib.hid (by rw [← HPO.out]; rfl)
    clear s1 s2 s4 s5 HLD s1' s2' s4' hst
    go_wp2_with fail
    clear z2
    go_loopw [6] (fun iv wr => ∃ k : Nat, k ≤ 4 ∧ iv = .int .i64 k ∧ waitAt ((j : Int) + 1) (s.wts.drop k) k = q ∧ wr = w4) (fun iv _ => 4 - (intOf iv).toNat)
    case atStart => exact ⟨0, by omega, rfl, HWT.out, rfl⟩
    case round =>
      obtain ⟨k, hk, rfl, hpl, rfl⟩ := hrel
      have HPL := Lib.hid hpl
      clear hpl
      by_cases hlt : k < 4
      · obtain ⟨A0, d0, l, hcell, hI, hl⟩ := HK1.out.wait hlt
        have HL := Lib.hid (wts_few F2.out hl)
        have HCN := Lib.hid (rtimes_any _ l ((j : Int) + 1) wr (hI.ext HX4.out) (by have := HL.out; omega))
        have HTL : Hid (St.times l ((j : Int) + 1) ≤ 100000) := Lib.hid (Nat.le_trans (times_le l _) HL.out)
        have HD : Hid (waitAt ((j : Int) + 1) (s.wts.drop k) k = if ((j : Int) + 1) ∈ l then (5, (k : Int)) else waitAt ((j : Int) + 1) (s.wts.drop (k + 1)) (k + 1)) := Lib.hid (by rw [drop_next hl, waitAt])
        have q9 := blk_cell (HX4.out.blk HB1.out) (9 + k) _ hcell
        clear hcell hI hl
        go_wp2_with fail
        refine HCN.out.mono ?_
        rintro e w' ⟨rfl, rfl⟩
        clear q9
        by_cases hm : ((j : Int) + 1) ∈ l
        · have HQ : Hid ((5, (k : Int)) = q) := Lib.hid (by rw [← HPL.out, HD.out, if_pos hm])
          have hmt : ((0 : Int) < (St.times l ((j : Int) + 1) : Int)) := by have := List.count_pos_iff.2 hm; unfold St.times; omega
          obtain ⟨⟨r0, r1⟩, y0, y1⟩ := place_cells HPR.out
          clear hm
          go_wp2
          refine bodyPost_ret (v := .agg #[.int .i64 _, .int .i64 _]) (results_cell_row rfl _ _ B _ _ _ _ rfl (place_set HPR.out) Try.underlying52 rfl (by kernel_rfl)) rfl ⟨by rw [← HQ.out] <;> rfl, (HX1.out.trans HXR.out).set2 HBW.out _ _⟩
        · have HN : Hid (waitAt ((j : Int) + 1) (s.wts.drop (k + 1)) (k + 1) = q) := Lib.hid (by rw [← HPL.out, HD.out, if_neg hm])
          have hmt : St.times l ((j : Int) + 1) = 0 := by unfold St.times; exact List.count_eq_zero.2 hm
          rw [hmt]
          clear hm hmt
          go_wp2
          go_roundw
          case rel => exact ⟨k + 1, by omega, by go_num, HN.out, trivial⟩
          case measure => simp [intOf]; omega
      · have HQ : Hid ((6, 0) = q) := Lib.hid (by
          obtain rfl : k = 4 := by omega
          rw [← HPL.out]; rfl)
        obtain ⟨⟨r0, r1⟩, y0, y1⟩ := place_cells HPR.out
        go_wp2
        refine bodyPost_ret (v := .agg #[.int .i64 _, .int .i64 _]) (results_cell_row rfl _ _ B _ _ _ _ rfl (place_set HPR.out) Try.underlying52 rfl (by kernel_rfl)) rfl ⟨by rw [← HQ.out] <;> rfl, (HX1.out.trans HXR.out).set2 HBW.out _ _⟩
set_option maxRecDepth 100000 in
set_option maxHeartbeats 2000000 in
theorem rQueue_any (h : StH) (s : St) (p : Int) (q : List Int) (hq : s.queue p = q) (w : World) (hk : StOk w h s) (hf : StFew s) : Calls Try.prog 29 #[stV h s, .int .i64 p] w (IntsP q w) := by
  have HF := Lib.hid hf
  have f1 := hf.ps
  have HK := Lib.hid hk
  obtain ⟨w1, hw1⟩ : ∃ w1, w.alloc (.cells #[.slice h.pa s.prog.length h.pc, .slice h.ga s.gs.length h.gc, .slice h.qa s.ps.length h.qc, .slice h.ma s.ms.length h.mc, .slice h.la s.glob.length h.lc, .int .i64 s.c0, .int .i64 s.c1, .int .i64 s.c2, .int .i64 s.c3, .slice h.a0 s.w0.length h.k0, .slice h.a1 s.w1.length h.k1, .slice h.a2 s.w2.length h.k2, .slice h.a3 s.w3.length h.k3, .slice h.ta s.timers.length h.tc, .int .i64 s.clock, .int .i64 s.procs] 32) = w1 := ⟨_, rfl⟩
  have HX1 : Hid (Ext w w1) := Lib.hid (by rw [← hw1]; exact (Ext.refl w).alloc _)
  have HB1 : Hid (w1.heap[w.heap.size]? = some (.cells (stC h s) 32 (0, 0))) := Lib.hid (by rw [← hw1]; exact blk_new w _)
  have HK1 := Lib.hid (hk.ext HX1.out)
  have HW1 := Lib.hid hw1
  clear hw1 hk
  clear hf
  have HQ := Lib.hid hq
  have HQN : Hid (¬ (1 ≤ p ∧ p ≤ s.procs ∧ s.may = true) → ∀ w', Ext w1 w' → IntsP q w (.returned (.slice none 0 0)) w') := Lib.hid fun hn w' hx => by
    rw [St.queue_no hn] at hq
    subst hq
    exact IntsP.mk' (OwnInts.nil _ _) (Nat.le_refl _) (HX1.out.trans hx)
  clear hq
  have HLD := Lib.hid HB1.out
  have q15 := st15 HB1.out
  unfold stV
  go_enter Try.func29, Try.ntmps29
  go_upto_region 1 with fail
  rw [HW1.out]
  generalize Value.agg #[.slice h.pa s.prog.length h.pc, .slice h.ga s.gs.length h.gc, .slice h.qa s.ps.length h.qc, .slice h.ma s.ms.length h.mc, .slice h.la s.glob.length h.lc, .int .i64 s.c0, .int .i64 s.c1, .int .i64 s.c2, .int .i64 s.c3, .slice h.a0 s.w0.length h.k0, .slice h.a1 s.w1.length h.k1, .slice h.a2 s.w2.length h.k2, .slice h.a3 s.w3.length h.k3, .slice h.ta s.timers.length h.tc, .int .i64 s.clock, .int .i64 s.procs] = sv0
  by_cases a1 : p < 1
  · have HE := Lib.hid (HQN.out (fun h => by omega) w1 (Ext.refl _))
    go_wp2
    go_ret
    exact HE.out
  by_cases a2 : s.procs < p
  · have HE := Lib.hid (HQN.out (fun h => by omega) w1 (Ext.refl _))
    go_wp2
    go_ret
    exact HE.out
  go_wp2_with (refine wpList_load_rowW rfl 32 _ rfl w.heap.size rfl (stL h s) (stV h s) rfl _ (range_row HLD.out) Try.underlying32 rfl (by kernel_rfl) ?_)
  refine (rstmay_any h s _ rfl _ HK1.out HF.out).mono ?_
  rintro e w3 ⟨rfl, hx3⟩
  have HX3 := Lib.hid hx3
  clear hx3 q15 HLD
  cases bm : s.may with
  | false =>
    have HE := Lib.hid (HQN.out (fun h => by rw [bm] at h; exact absurd h.2.2 (by simp)) w3 HX3.out)
    go_wp2
    go_ret
    exact HE.out
  | true =>
    have hps := St.may_procs bm
    obtain ⟨j, rfl⟩ : ∃ j : Nat, p = (j : Int) + 1 := ⟨(p - 1).toNat, by omega⟩
    obtain ⟨x, hp⟩ : ∃ x, s.ps[j]? = some x := ⟨_, List.getElem?_eq_getElem (by omega)⟩
    obtain ⟨m, nx, r, sq⟩ := x
    obtain ⟨b0, b1, b2, b3, b4, b5, b6, b7, hd, nn, rfl⟩ := Ri.open8 (HK.out.buf _ (List.mem_of_getElem? hp))
    have HQY : Hid (St.queueOf ⟨m, nx, ⟨[b0, b1, b2, b3, b4, b5, b6, b7], hd, nn⟩, sq⟩ = q) := Lib.hid (by rw [← HQ.out]; exact (St.queue_yes (by omega) bm hp).symm)
    obtain ⟨b, o, hA, hb, hc⟩ := ps_get (HK1.out.ext HX3.out).ps hp
    obtain ⟨⟨p0, p1, p2, p3, p4, p5, p6⟩, p7, p8, p9, p10, p11, p12⟩ := hc
    have e1 : (j : Int) + 1 - 1 = (j : Int) := by omega
    have e4 : (j : Int) < (s.ps.length : Int) := by omega
    have q2 := st2 (HX3.out.blk HB1.out)
    clear hps hp hb a1 a2
    go_wp2_with fail
    refine (rqueueOf_any m nx b0 b1 b2 b3 b4 b5 b6 b7 hd nn sq w3).mono ?_
    rintro e w5 he
    rw [HQY.out] at he
    obtain ⟨A3, c3, rfl, ho3, hx3⟩ := he
    have HE : Hid (IntsP q w (.returned (.slice A3 q.length c3)) w5) := Lib.hid (IntsP.mk' ho3 (by have := HX1.out.size; have := HX3.out.size; omega) (HX1.out.trans (HX3.out.trans hx3)))
    clear p0 p1 p2 p3 p4 p5 p6 p7 p8 p9 p10 p11 p12
    go_wp2
    go_ret
    exact HE.out
theorem st_box (wa : World) (h : StH) (s : St) : ∃ wb wc, wa.alloc (.cells #[.slice none 0 0, .slice none 0 0, .slice none 0 0, .slice none 0 0, .slice none 0 0, .int .i64 0, .int .i64 0, .int .i64 0, .int .i64 0, .slice none 0 0, .slice none 0 0, .slice none 0 0, .slice none 0 0, .slice none 0 0, .int .i64 0, .int .i64 0] 32) = wb ∧ wb.setCells wa.heap.size 0 (stL h s) = wc ∧ wb.there wa.heap.size 0 (stL h s).length ∧ wc.heap[wa.heap.size]? = some (.cells (stC h s) 32 (0, 0)) ∧ Ext wa wc := by
  have hb := blk_new wa (.cells #[.slice none 0 0, .slice none 0 0, .slice none 0 0, .slice none 0 0, .slice none 0 0, .int .i64 0, .int .i64 0, .int .i64 0, .int .i64 0, .slice none 0 0, .slice none 0 0, .slice none 0 0, .slice none 0 0, .slice none 0 0, .int .i64 0, .int .i64 0] 32)
  refine ⟨_, _, rfl, rfl, there_row hb (Nat.le_refl 16), setCells_at [.slice none 0 0, .slice none 0 0, .slice none 0 0, .slice none 0 0, .slice none 0 0, .int .i64 0, .int .i64 0, .int .i64 0, .int .i64 0, .slice none 0 0, .slice none 0 0, .slice none 0 0, .slice none 0 0, .slice none 0 0, .int .i64 0, .int .i64 0] (stL h s) rfl hb, ?_⟩
  exact ((Ext.refl wa).alloc _).upd (setCells_upd _ _ _ _) (Nat.le_refl _)
theorem nest_one {w : World} {b g n : Nat} {l : List (Int × Int)} (hg : w.heap[g]? = some (.cells #[.slice (some ⟨b, 0, none⟩) n n] 69 (0, 0))) (hr : RowsAt 2 pairL w (.slice (some ⟨b, 0, none⟩) n n) l) : NestAt 2 pairL w (.slice (some ⟨g, 0, none⟩) 1 1) [l] := by
  refine ⟨[.slice (some ⟨b, 0, none⟩) n n], rfl, ⟨_, _, rfl, Nat.le_refl 1, fun _ => ⟨g, 0, rfl, blk_lt hg, fun j x hj i u hu => ?_⟩⟩, fun i u xs hu hx => ?_⟩
  · match j, i with
    | 0, 0 => simp at hj; subst hj; simp [oneL] at hu; subst hu; exact blk_cell hg _ _ rfl
    | 0, i + 1 => simp [oneL] at hu
    | j + 1, _ => simp at hj
  · match i with
    | 0 => simp at hu hx; subst hu hx; exact hr
    | i + 1 => simp at hu
theorem St.may_parts {s : St} (h : s.may = true) : s.whole = true ∧ s.goods = true ∧ s.holds = true ∧ s.counts = true ∧ s.allIn = true ∧ ∀ (j : Nat) g, s.gs[j]? = some g → s.stands j g = true := by
  have h0 := h
  unfold St.may at h
  simp only [Bool.and_eq_true] at h
  obtain ⟨⟨⟨⟨⟨h1, h2⟩, h3⟩, h4⟩, h5⟩, h6⟩ := h
  exact ⟨h1, h2, h3, h4, h5, fun j g hg => St.may_stands h0 hg⟩
theorem St.stands_times {s : St} {j : Nat} {g : Gr} (h : s.stands j g = true) : St.times s.runs ((j : Int) + 1) = St.want g.st 1 ∧ St.times (s.onM true) ((j : Int) + 1) = St.want g.st 2 ∧ St.times s.waiters ((j : Int) + 1) = St.want g.st 3 ∧ St.times (s.onM false) ((j : Int) + 1) = St.want g.st 4 := by
  unfold St.stands at h
  rw [Bool.and_eq_true, Bool.and_eq_true, decide_eq_true_eq, decide_eq_true_eq] at h
  exact h.1.2
theorem St.may_holdP {s : St} (h : s.may = true) {j : Nat} {p : Pr} (hp : s.ps[j]? = some p) : s.holdP j p = true := by
  have := (St.may_parts h).2.2.1
  unfold St.holds at this
  rw [Bool.and_eq_true] at this
  have := allIx_iff.1 this.1 j p hp
  rwa [Nat.zero_add] at this
theorem OwnRows.but {α : Type} {e : TypeId} {m : Nat} {f : α → List Value} {w w' : World} {B : Nat} {v : Value} {xs : List α} {S : Nat → Prop} (h : OwnRows e m f w B v xs) (k : But S w w') (hs : ∀ b, v.ownBlock = some b → ¬ S b) : OwnRows e m f w' B v xs := by
  refine ⟨h.1, ?_⟩
  rcases h.2 with h1 | ⟨g, cap, cur, rfl, hb, hg, rest⟩
  · exact .inl h1
  · exact .inr ⟨g, cap, cur, rfl, hb, (k.block g (blk_lt hg) (hs g rfl)).trans hg, rest⟩
theorem OwnInts.but {w w' : World} {B : Nat} {v : Value} {xs : List Int} {S : Nat → Prop} (h : OwnInts w B v xs) (k : But S w w') (hs : ∀ b, v.ownBlock = some b → ¬ S b) : OwnInts w' B v xs := by
  refine ⟨h.1, ?_⟩
  rcases h.2 with h1 | ⟨g, cap, cur, rfl, hb, hg, rest⟩
  · exact .inl h1
  · exact .inr ⟨g, cap, cur, rfl, hb, (k.block g (blk_lt hg) (hs g rfl)).trans hg, rest⟩
theorem StApart.but {B T : Nat} {w w' : World} {I : Nat → Nat × Nat} {h : StH} {s : St} {S : Nat → Prop} (k : StApart B w I h s) (c : But S w w') (hT : ∀ i, i < 10 → (I i).2 ≤ T) (hs : ∀ b, B ≤ b → b < T → ¬ S b) : StApart B w' I h s := by
  have r := fun (i : Nat) (hi : i < 10) (b : Nat) (h1 : (I i).1 ≤ b) (h2 : b < (I i).2) => hs b (Nat.le_trans (k.low i hi).1 h1) (Nat.lt_of_lt_of_le h2 (hT i hi))
  exact ⟨fun i hi => ⟨(k.low i hi).1, (k.low i hi).2.1, Nat.le_trans (k.low i hi).2.2 c.size⟩, k.apart, k.prog.but c (r 0 (by omega)),
    ⟨k.gs.1.but c fun b hb => r 1 (by omega) b (k.gs.1.lt b hb).1 (k.gs.2 b hb), k.gs.2⟩,
    ⟨k.ps.1.but c fun b hb => r 2 (by omega) b (k.ps.1.lt b hb).1 (k.ps.2 b hb), k.ps.2⟩,
    ⟨k.ms.1.but c fun b hb => r 3 (by omega) b (k.ms.1.lt b hb).1 (k.ms.2 b hb), k.ms.2⟩,
    ⟨k.glob.1.but c fun b hb => r 4 (by omega) b (World.ownsRow.lt k.glob.1 b hb).1 (k.glob.2 b hb), k.glob.2⟩,
    ⟨k.w0.1.but c fun b hb => r 5 (by omega) b (World.ownsRow.lt k.w0.1 b hb).1 (k.w0.2 b hb), k.w0.2⟩,
    ⟨k.w1.1.but c fun b hb => r 6 (by omega) b (World.ownsRow.lt k.w1.1 b hb).1 (k.w1.2 b hb), k.w1.2⟩,
    ⟨k.w2.1.but c fun b hb => r 7 (by omega) b (World.ownsRow.lt k.w2.1 b hb).1 (k.w2.2 b hb), k.w2.2⟩,
    ⟨k.w3.1.but c fun b hb => r 8 (by omega) b (World.ownsRow.lt k.w3.1 b hb).1 (k.w3.2 b hb), k.w3.2⟩,
    ⟨OwnRows.but k.timers.1 c fun b hb => r 9 (by omega) b (OwnRows.lt k.timers.1 b hb).1 (k.timers.2 b hb), k.timers.2⟩⟩
def advK (A : Option Addr) (k c : Nat) : Option Addr := if c = k then A else A.map fun a => a.add k
theorem isize_run : ∀ w, (sizeOf 3).run Try.prog w = .ok 1 w := fun w => by kernel_rfl
theorem irun_to (A : Option Addr) (n c k : Nat) (h1 : k ≤ n) (h2 : n ≤ c) (v : World) : (Instr.slice 27 (.slice A n c) none (some (.int .i64 k)) none).run Try.prog v = .ok (.slice A k c) v := by
  have hk : (k : Int) ≤ (c : Int) := by omega
  simp [Instr.slice, run_underlying Try.underlying27, Instr.sliceBounds, Instr.sliceBound, asIntOf, hk, isize_run]
  rw [if_pos (by omega)]
  have hA' : (if c = 0 then A else Option.map (fun x => x.add 0) A) = A := by cases A <;> simp [Addr.add]
  rw [hA']
theorem irun_from (A : Option Addr) (n c k : Nat) (h1 : k ≤ n) (h2 : n ≤ c) (v : World) : (Instr.slice 27 (.slice A n c) (some (.int .i64 k)) none none).run Try.prog v = .ok (.slice (advK A k c) (n - k) (c - k)) v := by
  have hk : (k : Int) ≤ (n : Int) := by omega
  simp [Instr.slice, run_underlying Try.underlying27, Instr.sliceBounds, Instr.sliceBound, asIntOf, hk, isize_run]
  rw [if_pos h1]
  rfl
theorem IntsAt.behind {A : Option Addr} {n c k : Nat} {w : World} {xs : List Int} (h : IntsAt w (.slice A n c) xs) (hk : k ≤ xs.length) (hc : n ≤ c) : IntsAt w (.slice (advK A k c) (n - k) (c - k)) (xs.drop k) := by
  obtain ⟨A', c', hv, hA⟩ := h
  simp only [Value.slice.injEq] at hv
  obtain ⟨rfl, rfl, rfl⟩ := hv
  refine ⟨_, _, by rw [List.length_drop], fun h0 => ?_⟩
  rw [List.length_drop] at h0
  obtain ⟨b, o, hb, hlt, hcell⟩ := hA (by omega)
  refine ⟨b, o + k, ?_, hlt, fun j x hj => ?_⟩
  · unfold advK
    rw [if_neg (by omega), hb]
    simp [Addr.add]
  · rw [List.getElem?_drop] at hj
    have := hcell (k + j) x hj
    rwa [show o + (k + j) = o + k + j by omega] at this
theorem setCells_mid {g : Nat} {T : TypeId} : ∀ (ds : List Value) (w : World) (cs : Array Value) (i : Nat), w.heap[g]? = some (.cells cs T (0, 0)) → i + ds.length ≤ cs.size → ∃ cs', (w.setCells g i ds).heap[g]? = some (.cells cs' T (0, 0)) ∧ cs'.size = cs.size ∧ ∀ j, cs'[j]? = if i ≤ j ∧ j < i + ds.length then ds[j - i]? else cs[j]?
  | [], w, cs, i, h, _ => ⟨cs, h, rfl, fun j => by rw [if_neg (by simp <;> omega)]⟩
  | d :: ds, w, cs, i, h, hl => by
    simp only [List.length_cons] at hl
    obtain ⟨cs', h1, h2, h3⟩ := setCells_mid ds (w.setCell ⟨g, i, none⟩ d) (cs.setIfInBounds i d) (i + 1) (blk_set h i d) (by simp; omega)
    refine ⟨cs', h1, by simpa using h2, fun j => ?_⟩
    rw [h3 j, List.length_cons]
    by_cases hj : j = i
    · subst hj
      rw [if_neg (by omega), if_pos (by omega), Nat.sub_self, List.getElem?_cons_zero, Array.getElem?_setIfInBounds_self_of_lt (by omega)]
    · by_cases hin : i + 1 ≤ j ∧ j < i + 1 + ds.length
      · rw [if_pos hin, if_pos (by omega), show j - i = (j - (i + 1)) + 1 by omega, List.getElem?_cons_succ]
      · rw [if_neg hin, if_neg (by omega), Array.getElem?_setIfInBounds_ne (Ne.symm hj)]
theorem OwnRows.setCells {α : Type} {e : TypeId} {m : Nat} {f : α → List Value} {w : World} {B : Nat} {v : Value} {xs : List α} (hf : ∀ x, (f x).length = m) (h : OwnRows e m f w B v xs) {i : Nat} {x x' : α} (hi : xs[i]? = some x) {j : Nat} {ds : List Value} (hj : j + ds.length ≤ m)
    (hx : ∀ t, t < m → (f x')[t]? = if j ≤ t ∧ t < j + ds.length then ds[t - j]? else (f x)[t]?) :
    ∃ g c, v = .slice (some ⟨g, 0, none⟩) xs.length c ∧ v.ownBlock = some g ∧ B ≤ g ∧ g < w.heap.size ∧ w.there g (i * m + j) ds.length ∧ OwnRows e m f (w.setCells g (i * m + j) ds) B v (xs.set i x') ∧ Upd g w (w.setCells g (i * m + j) ds) := by
  have hil := (List.getElem?_eq_some_iff.1 hi).1
  rcases h.2 with ⟨_, h0⟩ | ⟨g, cap, cur, rfl, hb, hg, hnc, hcm, hcs, htake⟩
  · omega
  · have hlt : i * m + j + ds.length ≤ cur.size := by
      have h1 : (i + 1) * m ≤ cap * m := Nat.mul_le_mul_right _ (by omega)
      rw [Nat.add_mul] at h1
      rw [hcs]
      omega
    obtain ⟨cs', h1, h2, h3⟩ := setCells_mid ds w cur (i * m + j) hg hlt
    refine ⟨g, cap, rfl, rfl, hb, blk_lt hg, fun k hk => ⟨?_, frozen_of_row _ _ _ _ _ hg⟩, ⟨?_, .inr ⟨g, cap, cs', ?_, hb, h1, ?_, hcm, h2.trans hcs, ?_⟩⟩, setCells_upd _ _ _ _⟩
    · rw [blk_cell hg _ _ (Array.getElem?_eq_getElem (by omega))]; rfl
    · rw [flatMap_len hf]
    · rw [List.length_set]
    · rw [List.length_set]; exact hnc
    · rw [List.length_set]
      apply List.ext_getElem?
      intro t
      by_cases ht : t < xs.length * m
      · have hm : 0 < m := Nat.pos_of_ne_zero fun e => by subst e; omega
        have hq : t / m < xs.length := Nat.div_lt_of_lt_mul (by rw [Nat.mul_comm]; exact ht)
        have hr : t % m < m := Nat.mod_lt _ hm
        have hjj : t / m * m + t % m = t := by rw [Nat.mul_comm]; exact Nat.div_add_mod t m
        have key : ∀ (y : α), (xs.set i x')[t / m]? = some y → ((xs.set i x').flatMap f)[t]? = (f y)[t % m]? := fun y hy => by
          have := flatMap_get hf (xs.set i x') (t / m) y hy (t % m) _ (List.getElem?_eq_getElem (by rw [hf]; exact hr))
          rw [hjj] at this
          rw [this, List.getElem?_eq_getElem (by rw [hf]; exact hr)]
        have key0 : ∀ (y : α), xs[t / m]? = some y → cur.toList[t]? = (f y)[t % m]? := fun y hy => by
          have := flatMap_get hf xs (t / m) y hy (t % m) _ (List.getElem?_eq_getElem (by rw [hf]; exact hr))
          rw [hjj, ← htake, List.getElem?_take, if_pos ht] at this
          rw [this, List.getElem?_eq_getElem (by rw [hf]; exact hr)]
        rw [List.getElem?_take, if_pos ht, Array.getElem?_toList, h3 t]
        by_cases hqi : t / m = i
        · subst hqi
          rw [key x' (List.getElem?_set_self hq), hx _ hr, ← key0 x hi]
          by_cases hin : j ≤ t % m ∧ t % m < j + ds.length
          · rw [if_pos hin, if_pos (by omega), show t - (t / m * m + j) = t % m - j by omega]
          · rw [if_neg hin, if_neg (by omega), Array.getElem?_toList]
        · have hout : ¬ (i * m + j ≤ t ∧ t < i * m + j + ds.length) := by
            rcases Nat.lt_or_gt_of_ne hqi with hl | hl
            · have h1 : (t / m + 1) * m ≤ i * m := Nat.mul_le_mul_right _ hl
              rw [Nat.add_mul] at h1
              omega
            · have h1 : (i + 1) * m ≤ t / m * m := Nat.mul_le_mul_right _ hl
              rw [Nat.add_mul] at h1
              omega
          rw [if_neg hout, key _ ((List.getElem?_set_ne (Ne.symm hqi)).trans (List.getElem?_eq_getElem hq)), ← key0 _ (List.getElem?_eq_getElem hq), Array.getElem?_toList]
      · rw [List.getElem?_take, if_neg ht, List.getElem?_eq_none (by rw [flatMap_len hf, List.length_set]; omega)]
def putI (I : Nat → Nat × Nat) (k : Nat) (J : Nat × Nat) : Nat → Nat × Nat := fun i => if i = k then J else I i
theorem putI_low {B n n' k : Nat} {I : Nat → Nat × Nat} {J : Nat × Nat} (h : ∀ i, i < 10 → B ≤ (I i).1 ∧ (I i).1 ≤ (I i).2 ∧ (I i).2 ≤ n) (hn : n ≤ n') (hJ : J = I k ∨ (n ≤ J.1 ∧ J.1 ≤ J.2 ∧ J.2 ≤ n')) (hk : k < 10) : ∀ i, i < 10 → B ≤ (putI I k J i).1 ∧ (putI I k J i).1 ≤ (putI I k J i).2 ∧ (putI I k J i).2 ≤ n' := fun i hi => by
  have h1 := h i hi
  have h2 := h k hk
  unfold putI
  split
  · rcases hJ with rfl | hJ
    · omega
    · omega
  · omega
theorem putI_apart {B n n' k : Nat} {I : Nat → Nat × Nat} {J : Nat × Nat} (h : ∀ i, i < 10 → B ≤ (I i).1 ∧ (I i).1 ≤ (I i).2 ∧ (I i).2 ≤ n) (ha : ∀ i j, i < 10 → j < 10 → i ≠ j → (I i).2 ≤ (I j).1 ∨ (I j).2 ≤ (I i).1) (hJ : J = I k ∨ (n ≤ J.1 ∧ J.1 ≤ J.2 ∧ J.2 ≤ n')) (hk : k < 10) :
    ∀ i j, i < 10 → j < 10 → i ≠ j → (putI I k J i).2 ≤ (putI I k J j).1 ∨ (putI I k J j).2 ≤ (putI I k J i).1 := fun i j hi hj hne => by
  have h1 := h i hi
  have h2 := h j hj
  have h3 := ha i j hi hj hne
  unfold putI
  split
  · split
    · omega
    · rcases hJ with rfl | hJ
      · rename_i e _; subst e; exact h3
      · omega
  · split
    · rcases hJ with rfl | hJ
      · rename_i e; subst e; exact h3
      · omega
    · exact h3
theorem StApart.withGs {B : Nat} {w w' : World} {I : Nat → Nat × Nat} {h : StH} {s : St} {S : Nat → Prop} (k : StApart B w I h s) (c : But S w w') (hs : ∀ b, B ≤ b → b < w.heap.size → S b → (I 1).1 ≤ b ∧ b < (I 1).2) {J : Nat × Nat} (hJ : J = I 1 ∨ (w.heap.size ≤ J.1 ∧ J.1 ≤ J.2 ∧ J.2 ≤ w'.heap.size)) {A : Option Addr} {cc : Nat} {l : List Gr} (hg : OwnRows 55 5 gL w' J.1 (.slice A l.length cc) l ∧ UnderB (.slice A l.length cc) J.2) : StApart B w' (putI I 1 J) { h with ga := A, gc := cc } { s with gs := l } := by
  have r := fun (i : Nat) (hi : i < 10) (h4 : i ≠ 1) (b : Nat) (h1 : (I i).1 ≤ b) (h2 : b < (I i).2) => show ¬ S b from fun hS => by
    have a1 := k.low i hi
    have a3 := hs b (by omega) (by omega) hS
    have a4 := k.apart i 1 hi (by omega) h4
    omega
  refine ⟨putI_low k.low c.size hJ (by omega), putI_apart k.low k.apart hJ (by omega), ?_, ?_, ?_, ?_, ?_, ?_, ?_, ?_, ?_, ?_⟩
  · exact k.prog.but c (r 0 (by omega) (by omega))
  · exact hg
  · exact ⟨k.ps.1.but c fun b hb => r 2 (by omega) (by omega) b (k.ps.1.lt b hb).1 (k.ps.2 b hb), k.ps.2⟩
  · exact ⟨k.ms.1.but c fun b hb => r 3 (by omega) (by omega) b (k.ms.1.lt b hb).1 (k.ms.2 b hb), k.ms.2⟩
  · exact ⟨k.glob.1.but c fun b hb => r 4 (by omega) (by omega) b (World.ownsRow.lt k.glob.1 b hb).1 (k.glob.2 b hb), k.glob.2⟩
  · exact ⟨k.w0.1.but c fun b hb => r 5 (by omega) (by omega) b (World.ownsRow.lt k.w0.1 b hb).1 (k.w0.2 b hb), k.w0.2⟩
  · exact ⟨k.w1.1.but c fun b hb => r 6 (by omega) (by omega) b (World.ownsRow.lt k.w1.1 b hb).1 (k.w1.2 b hb), k.w1.2⟩
  · exact ⟨k.w2.1.but c fun b hb => r 7 (by omega) (by omega) b (World.ownsRow.lt k.w2.1 b hb).1 (k.w2.2 b hb), k.w2.2⟩
  · exact ⟨k.w3.1.but c fun b hb => r 8 (by omega) (by omega) b (World.ownsRow.lt k.w3.1 b hb).1 (k.w3.2 b hb), k.w3.2⟩
  · exact ⟨OwnRows.but k.timers.1 c fun b hb => r 9 (by omega) (by omega) b (OwnRows.lt k.timers.1 b hb).1 (k.timers.2 b hb), k.timers.2⟩
theorem StApart.withPs {B : Nat} {w w' : World} {I : Nat → Nat × Nat} {h : StH} {s : St} {S : Nat → Prop} (k : StApart B w I h s) (c : But S w w') (hs : ∀ b, B ≤ b → b < w.heap.size → S b → (I 2).1 ≤ b ∧ b < (I 2).2) {J : Nat × Nat} (hJ : J = I 2 ∨ (w.heap.size ≤ J.1 ∧ J.1 ≤ J.2 ∧ J.2 ≤ w'.heap.size)) {A : Option Addr} {cc : Nat} {l : List Pr} (hg : OwnRows 40 13 pL w' J.1 (.slice A l.length cc) l ∧ UnderB (.slice A l.length cc) J.2) : StApart B w' (putI I 2 J) { h with qa := A, qc := cc } { s with ps := l } := by
  have r := fun (i : Nat) (hi : i < 10) (h4 : i ≠ 2) (b : Nat) (h1 : (I i).1 ≤ b) (h2 : b < (I i).2) => show ¬ S b from fun hS => by
    have a1 := k.low i hi
    have a3 := hs b (by omega) (by omega) hS
    have a4 := k.apart i 2 hi (by omega) h4
    omega
  refine ⟨putI_low k.low c.size hJ (by omega), putI_apart k.low k.apart hJ (by omega), ?_, ?_, ?_, ?_, ?_, ?_, ?_, ?_, ?_, ?_⟩
  · exact k.prog.but c (r 0 (by omega) (by omega))
  · exact ⟨k.gs.1.but c fun b hb => r 1 (by omega) (by omega) b (k.gs.1.lt b hb).1 (k.gs.2 b hb), k.gs.2⟩
  · exact hg
  · exact ⟨k.ms.1.but c fun b hb => r 3 (by omega) (by omega) b (k.ms.1.lt b hb).1 (k.ms.2 b hb), k.ms.2⟩
  · exact ⟨k.glob.1.but c fun b hb => r 4 (by omega) (by omega) b (World.ownsRow.lt k.glob.1 b hb).1 (k.glob.2 b hb), k.glob.2⟩
  · exact ⟨k.w0.1.but c fun b hb => r 5 (by omega) (by omega) b (World.ownsRow.lt k.w0.1 b hb).1 (k.w0.2 b hb), k.w0.2⟩
  · exact ⟨k.w1.1.but c fun b hb => r 6 (by omega) (by omega) b (World.ownsRow.lt k.w1.1 b hb).1 (k.w1.2 b hb), k.w1.2⟩
  · exact ⟨k.w2.1.but c fun b hb => r 7 (by omega) (by omega) b (World.ownsRow.lt k.w2.1 b hb).1 (k.w2.2 b hb), k.w2.2⟩
  · exact ⟨k.w3.1.but c fun b hb => r 8 (by omega) (by omega) b (World.ownsRow.lt k.w3.1 b hb).1 (k.w3.2 b hb), k.w3.2⟩
  · exact ⟨OwnRows.but k.timers.1 c fun b hb => r 9 (by omega) (by omega) b (OwnRows.lt k.timers.1 b hb).1 (k.timers.2 b hb), k.timers.2⟩
theorem StApart.withMs {B : Nat} {w w' : World} {I : Nat → Nat × Nat} {h : StH} {s : St} {S : Nat → Prop} (k : StApart B w I h s) (c : But S w w') (hs : ∀ b, B ≤ b → b < w.heap.size → S b → (I 3).1 ≤ b ∧ b < (I 3).2) {J : Nat × Nat} (hJ : J = I 3 ∨ (w.heap.size ≤ J.1 ∧ J.1 ≤ J.2 ∧ J.2 ≤ w'.heap.size)) {A : Option Addr} {cc : Nat} {l : List (Int × Int)} (hg : OwnRows 57 2 pairL w' J.1 (.slice A l.length cc) l ∧ UnderB (.slice A l.length cc) J.2) : StApart B w' (putI I 3 J) { h with ma := A, mc := cc } { s with ms := l } := by
  have r := fun (i : Nat) (hi : i < 10) (h4 : i ≠ 3) (b : Nat) (h1 : (I i).1 ≤ b) (h2 : b < (I i).2) => show ¬ S b from fun hS => by
    have a1 := k.low i hi
    have a3 := hs b (by omega) (by omega) hS
    have a4 := k.apart i 3 hi (by omega) h4
    omega
  refine ⟨putI_low k.low c.size hJ (by omega), putI_apart k.low k.apart hJ (by omega), ?_, ?_, ?_, ?_, ?_, ?_, ?_, ?_, ?_, ?_⟩
  · exact k.prog.but c (r 0 (by omega) (by omega))
  · exact ⟨k.gs.1.but c fun b hb => r 1 (by omega) (by omega) b (k.gs.1.lt b hb).1 (k.gs.2 b hb), k.gs.2⟩
  · exact ⟨k.ps.1.but c fun b hb => r 2 (by omega) (by omega) b (k.ps.1.lt b hb).1 (k.ps.2 b hb), k.ps.2⟩
  · exact hg
  · exact ⟨k.glob.1.but c fun b hb => r 4 (by omega) (by omega) b (World.ownsRow.lt k.glob.1 b hb).1 (k.glob.2 b hb), k.glob.2⟩
  · exact ⟨k.w0.1.but c fun b hb => r 5 (by omega) (by omega) b (World.ownsRow.lt k.w0.1 b hb).1 (k.w0.2 b hb), k.w0.2⟩
  · exact ⟨k.w1.1.but c fun b hb => r 6 (by omega) (by omega) b (World.ownsRow.lt k.w1.1 b hb).1 (k.w1.2 b hb), k.w1.2⟩
  · exact ⟨k.w2.1.but c fun b hb => r 7 (by omega) (by omega) b (World.ownsRow.lt k.w2.1 b hb).1 (k.w2.2 b hb), k.w2.2⟩
  · exact ⟨k.w3.1.but c fun b hb => r 8 (by omega) (by omega) b (World.ownsRow.lt k.w3.1 b hb).1 (k.w3.2 b hb), k.w3.2⟩
  · exact ⟨OwnRows.but k.timers.1 c fun b hb => r 9 (by omega) (by omega) b (OwnRows.lt k.timers.1 b hb).1 (k.timers.2 b hb), k.timers.2⟩
theorem StApart.withGlob {B : Nat} {w w' : World} {I : Nat → Nat × Nat} {h : StH} {s : St} {S : Nat → Prop} (k : StApart B w I h s) (c : But S w w') (hs : ∀ b, B ≤ b → b < w.heap.size → S b → (I 4).1 ≤ b ∧ b < (I 4).2) {J : Nat × Nat} (hJ : J = I 4 ∨ (w.heap.size ≤ J.1 ∧ J.1 ≤ J.2 ∧ J.2 ≤ w'.heap.size)) {A : Option Addr} {cc : Nat} {l : List Int} (hg : OwnInts w' J.1 (.slice A l.length cc) l ∧ UnderB (.slice A l.length cc) J.2) : StApart B w' (putI I 4 J) { h with la := A, lc := cc } { s with glob := l } := by
  have r := fun (i : Nat) (hi : i < 10) (h4 : i ≠ 4) (b : Nat) (h1 : (I i).1 ≤ b) (h2 : b < (I i).2) => show ¬ S b from fun hS => by
    have a1 := k.low i hi
    have a3 := hs b (by omega) (by omega) hS
    have a4 := k.apart i 4 hi (by omega) h4
    omega
  refine ⟨putI_low k.low c.size hJ (by omega), putI_apart k.low k.apart hJ (by omega), ?_, ?_, ?_, ?_, ?_, ?_, ?_, ?_, ?_, ?_⟩
  · exact k.prog.but c (r 0 (by omega) (by omega))
  · exact ⟨k.gs.1.but c fun b hb => r 1 (by omega) (by omega) b (k.gs.1.lt b hb).1 (k.gs.2 b hb), k.gs.2⟩
  · exact ⟨k.ps.1.but c fun b hb => r 2 (by omega) (by omega) b (k.ps.1.lt b hb).1 (k.ps.2 b hb), k.ps.2⟩
  · exact ⟨k.ms.1.but c fun b hb => r 3 (by omega) (by omega) b (k.ms.1.lt b hb).1 (k.ms.2 b hb), k.ms.2⟩
  · exact hg
  · exact ⟨k.w0.1.but c fun b hb => r 5 (by omega) (by omega) b (World.ownsRow.lt k.w0.1 b hb).1 (k.w0.2 b hb), k.w0.2⟩
  · exact ⟨k.w1.1.but c fun b hb => r 6 (by omega) (by omega) b (World.ownsRow.lt k.w1.1 b hb).1 (k.w1.2 b hb), k.w1.2⟩
  · exact ⟨k.w2.1.but c fun b hb => r 7 (by omega) (by omega) b (World.ownsRow.lt k.w2.1 b hb).1 (k.w2.2 b hb), k.w2.2⟩
  · exact ⟨k.w3.1.but c fun b hb => r 8 (by omega) (by omega) b (World.ownsRow.lt k.w3.1 b hb).1 (k.w3.2 b hb), k.w3.2⟩
  · exact ⟨OwnRows.but k.timers.1 c fun b hb => r 9 (by omega) (by omega) b (OwnRows.lt k.timers.1 b hb).1 (k.timers.2 b hb), k.timers.2⟩
theorem StOwn.apart {w : World} {B : Nat} {L : Nat → Nat} {h : StH} {s : St} (k : StOwn w L h s) (hB : B ≤ L 0) : StApart B w (fun i => (L i, L (i + 1))) h s := by
  have up : ∀ n, n ≤ 10 → ∀ i, i ≤ n → L i ≤ L n := fun n => by
    induction n with
    | zero => intro _ i hi; obtain rfl : i = 0 := by omega
              exact Nat.le_refl _
    | succ n ih =>
      intro hn i hi
      by_cases he : i = n + 1
      · subst he; exact Nat.le_refl _
      · exact Nat.le_trans (ih (by omega) i (by omega)) (k.mono n (by omega))
  have top := k.top
  refine ⟨fun i hi => ?_, fun i j hi hj hne => ?_, k.prog, k.gs, k.ps, k.ms, k.glob, k.w0, k.w1, k.w2, k.w3, k.timers⟩
  · have a1 := up i (by omega) 0 (by omega)
    have a2 := up (i + 1) (by omega) i (by omega)
    have a3 := up 10 (by omega) (i + 1) (by omega)
    simp only
    omega
  · simp only
    rcases Nat.lt_or_gt_of_ne hne with hl | hl
    · have := up j (by omega) (i + 1) (by omega); omega
    · have := up i (by omega) (j + 1) (by omega); omega
theorem StApart.lower {B B' : Nat} {w : World} {I : Nat → Nat × Nat} {h : StH} {s : St} (k : StApart B w I h s) (hB : B' ≤ B) : StApart B' w I h s :=
  ⟨fun i hi => ⟨Nat.le_trans hB (k.low i hi).1, (k.low i hi).2⟩, k.apart, k.prog, k.gs, k.ps, k.ms, k.glob, k.w0, k.w1, k.w2, k.w3, k.timers⟩
theorem StApart.far {B : Nat} {w w' : World} {I : Nat → Nat × Nat} {h : StH} {s : St} {S : Nat → Prop} (k : StApart B w I h s) (c : But S w w') (hs : ∀ b, S b → b < B ∨ w.heap.size ≤ b) : StApart B w' I h s :=
  k.but c (T := w.heap.size) (fun i hi => (k.low i hi).2.2) fun b h1 h2 h3 => by have := hs b h3; omega
theorem StApart.ext {B : Nat} {w w' : World} {I : Nat → Nat × Nat} {h : StH} {s : St} (k : StApart B w I h s) (c : Ext w w') : StApart B w' I h s := k.far (S := fun _ => False) (But.ext c) fun _ h => h.elim
theorem StApart.putI_same {B k : Nat} {w : World} {I : Nat → Nat × Nat} {h : StH} {s : St} (a : StApart B w (putI I k (I k)) h s) : StApart B w I h s := by
  have e : putI I k (I k) = I := funext fun i => by unfold putI; split; (· rename_i e; rw [e]); rfl
  rwa [e] at a
theorem StApart.setG {B : Nat} {w : World} {I : Nat → Nat × Nat} {h : StH} {s : St} (k : StApart B w I h s) {i : Nat} {x x' : Gr} (hi : s.gs[i]? = some x) {j : Nat} {ds : List Value} (hj : j + ds.length ≤ 5)
    (hx : ∀ t, t < 5 → (gL x')[t]? = if j ≤ t ∧ t < j + ds.length then ds[t - j]? else (gL x)[t]?) :
    ∃ g, h.ga = some ⟨g, 0, none⟩ ∧ B ≤ g ∧ g < w.heap.size ∧ w.there g (i * 5 + j) ds.length ∧ StApart B (w.setCells g (i * 5 + j) ds) I h { s with gs := s.gs.set i x' } ∧ Upd g w (w.setCells g (i * 5 + j) ds) := by
  obtain ⟨g, c, e, hob, hB, hlt, hth, ho, hu⟩ := OwnRows.setCells gL_len k.gs.1 hi hj hx
  have hl := (k.low 1 (by omega)).1
  have hgu := k.gs.2 g hob
  simp only [Value.slice.injEq, true_and] at e
  refine ⟨g, e.1, by omega, hlt, hth, ?_, hu⟩
  have := k.withGs (But.upd (S := fun b => b = g) hu rfl) (fun b _ _ hb => by subst hb; exact ⟨hB, hgu⟩) (.inl rfl) (A := h.ga) (cc := h.gc) (l := s.gs.set i x') (by rw [List.length_set]; exact ⟨ho, k.gs.2⟩)
  exact StApart.putI_same this
theorem StApart.setP {B : Nat} {w : World} {I : Nat → Nat × Nat} {h : StH} {s : St} (k : StApart B w I h s) {i : Nat} {x x' : Pr} (hi : s.ps[i]? = some x) {j : Nat} {ds : List Value} (hj : j + ds.length ≤ 13)
    (hx : ∀ t, t < 13 → (pL x')[t]? = if j ≤ t ∧ t < j + ds.length then ds[t - j]? else (pL x)[t]?) :
    ∃ g, h.qa = some ⟨g, 0, none⟩ ∧ B ≤ g ∧ g < w.heap.size ∧ w.there g (i * 13 + j) ds.length ∧ StApart B (w.setCells g (i * 13 + j) ds) I h { s with ps := s.ps.set i x' } ∧ Upd g w (w.setCells g (i * 13 + j) ds) := by
  obtain ⟨g, c, e, hob, hB, hlt, hth, ho, hu⟩ := OwnRows.setCells pL_len k.ps.1 hi hj hx
  have hl := (k.low 2 (by omega)).1
  have hgu := k.ps.2 g hob
  simp only [Value.slice.injEq, true_and] at e
  refine ⟨g, e.1, by omega, hlt, hth, ?_, hu⟩
  have := k.withPs (But.upd (S := fun b => b = g) hu rfl) (fun b _ _ hb => by subst hb; exact ⟨hB, hgu⟩) (.inl rfl) (A := h.qa) (cc := h.qc) (l := s.ps.set i x') (by rw [List.length_set]; exact ⟨ho, k.ps.2⟩)
  exact StApart.putI_same this
theorem StApart.setM {B : Nat} {w : World} {I : Nat → Nat × Nat} {h : StH} {s : St} (k : StApart B w I h s) {i : Nat} {x x' : Int × Int} (hi : s.ms[i]? = some x) {j : Nat} {ds : List Value} (hj : j + ds.length ≤ 2)
    (hx : ∀ t, t < 2 → (pairL x')[t]? = if j ≤ t ∧ t < j + ds.length then ds[t - j]? else (pairL x)[t]?) :
    ∃ g, h.ma = some ⟨g, 0, none⟩ ∧ B ≤ g ∧ g < w.heap.size ∧ w.there g (i * 2 + j) ds.length ∧ StApart B (w.setCells g (i * 2 + j) ds) I h { s with ms := s.ms.set i x' } ∧ Upd g w (w.setCells g (i * 2 + j) ds) := by
  obtain ⟨g, c, e, hob, hB, hlt, hth, ho, hu⟩ := OwnRows.setCells pairL_len k.ms.1 hi hj hx
  have hl := (k.low 3 (by omega)).1
  have hgu := k.ms.2 g hob
  simp only [Value.slice.injEq, true_and] at e
  refine ⟨g, e.1, by omega, hlt, hth, ?_, hu⟩
  have := k.withMs (But.upd (S := fun b => b = g) hu rfl) (fun b _ _ hb => by subst hb; exact ⟨hB, hgu⟩) (.inl rfl) (A := h.ma) (cc := h.mc) (l := s.ms.set i x') (by rw [List.length_set]; exact ⟨ho, k.ms.2⟩)
  exact StApart.putI_same this
theorem StApart.newGlob {B : Nat} {w w' : World} {I : Nat → Nat × Nat} {h : StH} {s : St} (k : StApart B w I h s) {A : Option Addr} {cc : Nat} {l : List Int} (ho : OwnInts w' (I 4).1 (.slice A l.length cc) l) (hn : (Value.slice A l.length cc).ownBlock = (Value.slice h.la s.glob.length h.lc).ownBlock ∨ ∀ b, (Value.slice A l.length cc).ownBlock = some b → w.heap.size ≤ b)
    (hc : But (fun b => (Value.slice h.la s.glob.length h.lc).ownBlock = some b) w w') : ∃ I', StApart B w' I' { h with la := A, lc := cc } { s with glob := l } := by
  have hs : ∀ b, B ≤ b → b < w.heap.size → (Value.slice h.la s.glob.length h.lc).ownBlock = some b → (I 4).1 ≤ b ∧ b < (I 4).2 := fun b _ _ hb => ⟨(World.ownsRow.lt k.glob.1 b hb).1, k.glob.2 b hb⟩
  rcases hn with hn | hn
  · exact ⟨_, k.withGlob hc hs (.inl rfl) ⟨ho, fun b hb => k.glob.2 b (hn ▸ hb)⟩⟩
  · refine ⟨_, k.withGlob hc hs (J := (w.heap.size, w'.heap.size)) (.inr ⟨Nat.le_refl _, hc.size, Nat.le_refl _⟩) ⟨?_, fun b hb => (World.ownsRow.lt ho b hb).2⟩⟩
    refine ⟨ho.1, ?_⟩
    rcases ho.2 with h1 | ⟨g, cap, cur, e, _, rest⟩
    · exact .inl h1
    · exact .inr ⟨g, cap, cur, e, hn g (by rw [e]; rfl), rest⟩
end Go.Proofs.Ytogcfndhcphpaaa
