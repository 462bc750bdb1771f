/-
  Several texts in one: Tn, Tw, Hzj, Sd, Se, Sf, Sg, Ls, Si.
-/
import Derived.Test.YtdcbaddndoilfaaE13
import Derived.Test.YtdcbaddndoilfaaE11
import Derived.Test.YtdcbaddndoilfaaE03
import Derived.Test.YtdcbaddndoilfaaE01
import Derived.Deep.Slices
import Derived.Deep.Fields
import Derived.ChangeSame
import Derived.SliceStrings
set_option linter.unusedVariables false
set_option linter.unusedSimpArgs false
namespace Go.Proofs.Ytdcbaddndoilfaa
open Go.RowKit
theorem whole_eq (s : St) : s.whole = (Pg.may s.prog && wiB s.gs.length 1 1000 && decide (s.ps.length = 8) && decide (s.ms.length ≤ 1000) && wiB s.procs 1 8 && St.low s.clock && decide (Sl.May s.timers)) := by
  unfold St.whole
  rw [Bool.eq_iff_iff]
  simp only [Bool.and_eq_true, decide_eq_true_eq, wiB_iff]
  constructor
  · rintro ⟨⟨⟨a, b1, b2, b3, b4, b5, b6⟩, c⟩, d⟩
    exact ⟨⟨⟨⟨⟨⟨a, by omega, by omega⟩, b3⟩, b6⟩, b4, b5⟩, c⟩, d⟩
  · rintro ⟨⟨⟨⟨⟨⟨a, b1, b2⟩, b3⟩, b6⟩, b4, b5⟩, c⟩, d⟩
    exact ⟨⟨⟨a, by omega, by omega, b3, b4, b5, b6⟩, c⟩, d⟩
def St.okAt (s : St) (j : Nat) : Prop := ∀ c l, s.cnts[j]? = some c → s.wts[j]? = some l → St.okCnt c l = true
theorem St.counts_no {s : St} {j : Nat} {c : Int} {l : List Int} (hc : s.cnts[j]? = some c) (hl : s.wts[j]? = some l) (h : St.okCnt c l = false) : s.counts = false := by
  have hj : j < 4 := by have := (List.getElem?_eq_some_iff.1 hc).1; simpa [St.cnts] using this
  unfold St.counts
  obtain rfl | rfl | rfl | rfl : j = 0 ∨ j = 1 ∨ j = 2 ∨ j = 3 := by omega
  · simp only [St.cnts, St.wts, List.getElem?_cons_zero, Option.some.injEq] at hc hl
    subst hc hl
    rw [h]; simp
  · simp only [St.cnts, St.wts, List.getElem?_cons_zero, List.getElem?_cons_succ, Option.some.injEq] at hc hl
    subst hc hl
    rw [h]; simp
  · simp only [St.cnts, St.wts, List.getElem?_cons_zero, List.getElem?_cons_succ, Option.some.injEq] at hc hl
    subst hc hl
    rw [h]; simp
  · simp only [St.cnts, St.wts, List.getElem?_cons_zero, List.getElem?_cons_succ, Option.some.injEq] at hc hl
    subst hc hl
    rw [h]; simp
theorem St.counts_yes {s : St} (h : ∀ j, j < 4 → s.okAt j) : s.counts = true := by
  unfold St.counts
  rw [h 0 (by omega) _ _ rfl rfl, h 1 (by omega) _ _ rfl rfl, h 2 (by omega) _ _ rfl rfl, h 3 (by omega) _ _ rfl rfl]
  rfl
set_option maxRecDepth 100000 in
set_option maxHeartbeats 16000000 in
theorem smayWhole_any (h : StH) (s : St) (r : Bool) (hr : (s.whole && s.counts) = r) (w : World) (hk : StOk w h s) (hf : StFew s) : Calls Try.prog 62 #[stV h s] w fun e w' => e = .returned (.bool r) ∧ Ext w w' := by
  subst hr
  have f1 := hf.ms
  have f2 := hf.ps
  have f3 := hf.gs
  have f4 := hf.prog.1
  have f5 := hf.timers
  have F2 := Lib.hid hf.w
  have HPM := Lib.hid hf.prog
  have HTN := Lib.hid hf.tnum
  have HK := Lib.hid hk
  obtain ⟨w1, hw1⟩ : ∃ w1, w.alloc (.cells #[.slice h.pa s.prog.length h.pc, .slice h.ga s.gs.length h.gc, .slice h.qa s.ps.length h.qc, .slice h.ma s.ms.length h.mc, .slice h.la s.glob.length h.lc, .int .i64 s.c0, .int .i64 s.c1, .int .i64 s.c2, .int .i64 s.c3, .slice h.a0 s.w0.length h.k0, .slice h.a1 s.w1.length h.k1, .slice h.a2 s.w2.length h.k2, .slice h.a3 s.w3.length h.k3, .slice h.ta s.timers.length h.tc, .int .i64 s.clock, .int .i64 s.procs] 47) = w1 := ⟨_, rfl⟩
  have HX1 : Hid (Ext w w1) := Lib.hid (by rw [← hw1]; exact (Ext.refl w).alloc _)
  have HB1 : Hid (w1.heap[w.heap.size]? = some (.cells (stC h s) 47 (0, 0))) := Lib.hid (by rw [← hw1]; exact blk_new w _)
  have HK1 := Lib.hid (hk.ext HX1.out)
  have HW1 := Lib.hid hw1
  clear hw1 hk
  clear hf
  have HWE := Lib.hid (whole_eq s)
  obtain ⟨bp, hbp⟩ : ∃ bp, Pg.may s.prog = bp := ⟨_, rfl⟩
  have HBP := Lib.hid hbp
  have HPC := Lib.hid (pmay_any _ s.prog bp hbp w1 HK1.out.prog HPM.out.1 HPM.out.2)
  rw [hbp] at HWE
  clear hbp
  have q0 := st0 HB1.out
  unfold stV
  go_enter Try.func62, Try.ntmps62
  go_upto_region 1 with fail
  rw [HW1.out]
  generalize Value.agg #[.slice h.pa s.prog.length h.pc, .slice h.ga s.gs.length h.gc, .slice h.qa s.ps.length h.qc, .slice h.ma s.ms.length h.mc, .slice h.la s.glob.length h.lc, .int .i64 s.c0, .int .i64 s.c1, .int .i64 s.c2, .int .i64 s.c3, .slice h.a0 s.w0.length h.k0, .slice h.a1 s.w1.length h.k1, .slice h.a2 s.w2.length h.k2, .slice h.a3 s.w3.length h.k3, .slice h.ta s.timers.length h.tc, .int .i64 s.clock, .int .i64 s.procs] = sv0
  go_wp2_with fail
  refine HPC.out.mono ?_
  rintro e w3 ⟨rfl, hx3⟩
  have HX3 := Lib.hid hx3
  clear hx3 q0
  have q1 := st1 (HX3.out.blk HB1.out)
  have q2 := st2 (HX3.out.blk HB1.out)
  have q3 := st3 (HX3.out.blk HB1.out)
  have q15 := st15 (HX3.out.blk HB1.out)
  have q14 := st14 (HX3.out.blk HB1.out)
  have q13 := st13 (HX3.out.blk HB1.out)
  cases bp with
  | false =>
    have HNO : Hid ((s.whole && s.counts) = false) := Lib.hid (by rw [HWE.out]; rfl)
    go_wp2
    (go_ret; exact ⟨by rw [HNO.out] <;> rfl, HX1.out.trans HX3.out⟩)
  | true =>
  cases bg : wiB s.gs.length 1 1000 with
  | false =>
    have HNO : Hid ((s.whole && s.counts) = false) := Lib.hid (by rw [HWE.out, bg]; rfl)
    go_wp2_with fail
    refine (swithin_any s.gs.length 1 1000 _).mono ?_
    rintro e w' ⟨rfl, rfl⟩
    go_wp2
    (go_ret; exact ⟨by rw [HNO.out] <;> rfl, HX1.out.trans HX3.out⟩)
  | true =>
  go_wp2_with fail
  refine (swithin_any s.gs.length 1 1000 _).mono ?_
  rintro e w' ⟨rfl, rfl⟩
  by_cases a2 : s.ps.length = 8
  · have a2' : ((s.ps.length : Int) != 8) = false := by simp; omega
    have A2 := Lib.hid a2
    clear a2
    by_cases a3 : s.ms.length ≤ 1000
    · have a3' : (s.ms.length : Int) ≤ 1000 := by omega
      have HWE2 : Hid (s.whole = (wiB s.procs 1 8 && St.low s.clock && decide (Sl.May s.timers))) := Lib.hid (by
        rw [HWE.out, bg, decide_eq_true A2.out, decide_eq_true a3]; rfl)
      clear a3
      cases b4 : wiB s.procs 1 8 with
      | false =>
        have HNO : Hid ((s.whole && s.counts) = false) := Lib.hid (by rw [HWE2.out, b4]; rfl)
        go_wp2_with fail
        refine (swithin_any s.procs 1 8 _).mono ?_
        rintro e w' ⟨rfl, rfl⟩
        go_wp2
        (go_ret; exact ⟨by rw [HNO.out] <;> rfl, HX1.out.trans HX3.out⟩)
      | true =>
      go_wp2_with fail
      refine (swithin_any s.procs 1 8 _).mono ?_
      rintro e w' ⟨rfl, rfl⟩
      cases b5 : St.low s.clock with
      | false =>
        have HNO : Hid ((s.whole && s.counts) = false) := Lib.hid (by rw [HWE2.out, b5, Bool.and_false]; rfl)
        go_wp2_with fail
        refine (smayNumber_any s.clock _).mono ?_
        rintro e w' ⟨rfl, rfl⟩
        go_wp2
        (go_ret; exact ⟨by rw [HNO.out] <;> rfl, HX1.out.trans HX3.out⟩)
      | true =>
      go_wp2_with fail
      refine (smayNumber_any s.clock _).mono ?_
      rintro e w' ⟨rfl, rfl⟩
      have HWE3 : Hid (s.whole = decide (Sl.May s.timers)) := Lib.hid (by rw [HWE2.out, b4, b5]; rfl)
      have HSM := Lib.hid (fun w (hx : Ext w1 w) => smay_any _ s.timers w (HK1.out.timers.ext hx) (by omega) HTN.out)
      obtain ⟨bt, hbt⟩ : ∃ bt, decide (Sl.May s.timers) = bt := ⟨_, rfl⟩
      rw [hbt] at HWE3 HSM
      clear hbt
      go_wp2_with fail
      refine (HSM.out _ HX3.out).mono ?_
      rintro e w4 ⟨rfl, hx4⟩
      have HX4 := Lib.hid (HX3.out.trans hx4)
      clear hx4 q1 q2 q3 q13 q14 q15
      cases bt with
      | false =>
        have HNO : Hid ((s.whole && s.counts) = false) := Lib.hid (by rw [HWE3.out]; rfl)
        go_wp2
        go_ret
        exact ⟨by rw [HNO.out] <;> rfl, HX1.out.trans HX4.out⟩
      | true =>
        have HCO : Hid ((s.whole && s.counts) = s.counts) := Lib.hid (by rw [HWE3.out, Bool.true_and])
        have q5 := st5 (HX4.out.blk HB1.out)
        have q6 := st6 (HX4.out.blk HB1.out)
        have q7 := st7 (HX4.out.blk HB1.out)
        have q8 := st8 (HX4.out.blk HB1.out)
        go_wp2_with fail
        clear q5 q6 q7 q8
        go_loopw [46] (fun iv wr => ∃ k : Nat, k ≤ 4 ∧ iv = .int .i64 k ∧ (∀ j, j < k → s.okAt j) ∧ Ext w1 wr) (fun iv _ => 4 - (intOf iv).toNat)
        case atStart => exact ⟨0, by omega, rfl, fun j h => by omega, HX4.out⟩
        case round =>
          clear HX4
          obtain ⟨k, hk, rfl, hall, hx⟩ := hrel
          have HALL := Lib.hid hall
          have HX4 := Lib.hid hx
          clear hall hx
          by_cases hlt : k < 4
          · obtain ⟨c, hc1, hc2⟩ := stC_cnt (h := h) (s := s) hlt
            obtain ⟨A0, d0, l, hcell, hI, hl⟩ := HK1.out.wait hlt
            have HNK : Hid (St.okCnt c l = false → s.counts = false) := Lib.hid (St.counts_no hc2 hl)
            have HYK : Hid (St.okCnt c l = true → s.okAt k) := Lib.hid fun h c' l' h1 h2 => by rw [hc2] at h1; rw [hl] at h2; injection h1 with h1; injection h2 with h2; subst h1 h2; exact h
            have q9 := blk_cell (HX4.out.blk HB1.out) (9 + k) _ hcell
            have hidx : ∀ w, (Instr.index 43 (.agg #[.int .i64 s.c0, .int .i64 s.c1, .int .i64 s.c2, .int .i64 s.c3]) (.int .i64 (k : Int))).run Try.prog w = .ok (.int .i64 c) w := fun w => by
              obtain rfl | rfl | rfl | rfl : k = 0 ∨ k = 1 ∨ k = 2 ∨ k = 3 := by omega
              · simp only [St.cnts, List.getElem?_cons_zero, Option.some.injEq] at hc2
                rw [← hc2]; kernel_rfl
              · simp only [St.cnts, List.getElem?_cons_zero, List.getElem?_cons_succ, Option.some.injEq] at hc2
                rw [← hc2]; kernel_rfl
              · simp only [St.cnts, List.getElem?_cons_zero, List.getElem?_cons_succ, Option.some.injEq] at hc2
                rw [← hc2]; kernel_rfl
              · simp only [St.cnts, List.getElem?_cons_zero, List.getElem?_cons_succ, Option.some.injEq] at hc2
                rw [← hc2]; kernel_rfl
            have hll := wts_few F2.out hl
            clear hc1 hc2 hl hI hcell
            go_wp2_with fail
            refine (swithin_any c 0 1000000 _).mono ?_
            rintro e w' ⟨rfl, rfl⟩
            cases bc : wiB c 0 1000000 with
            | false =>
              have HNO : Hid ((s.whole && s.counts) = false) := Lib.hid (by
                rw [HCO.out]
                refine HNK.out ?_
                unfold St.okCnt
                rw [decide_eq_false (fun h => by rw [wiB_iff.2 h] at bc; cases bc)]
                rfl)
              go_wp2
              go_ret
              exact ⟨by rw [HNO.out] <;> rfl, HX1.out.trans HX4.out⟩
            | true =>
              have HBC := Lib.hid (wiB_iff.1 bc)
              by_cases c0 : 0 < c
              · by_cases l0 : 0 < l.length
                · have HNO : Hid ((s.whole && s.counts) = false) := Lib.hid (by
                    rw [HCO.out]
                    refine HNK.out ?_
                    unfold St.okCnt
                    rw [decide_eq_true c0, decide_eq_true l0]
                    simp)
                  have l0' : (0 : Int) < (l.length : Int) := by omega
                  go_wp2
                  go_ret
                  exact ⟨by rw [HNO.out] <;> rfl, HX1.out.trans HX4.out⟩
                · have HOKK : Hid (s.okAt k) := Lib.hid (HYK.out (by
                    unfold St.okCnt
                    rw [decide_eq_true (show 0 ≤ c ∧ c ≤ 1000000 from HBC.out), decide_eq_false l0, Bool.and_false]; rfl))
                  obtain rfl : l = [] := by cases l with | nil => rfl | cons a b => simp at l0
                  simp only [List.length_nil] at *
                  go_wp2
                  go_roundw
                  case rel =>
                    refine ⟨k + 1, by omega, by go_num, fun j hj => ?_, HX4.out⟩
                    by_cases hjk : j < k
                    · exact HALL.out j hjk
                    · obtain rfl : j = k := by omega
                      exact HOKK.out
                  case measure => simp [intOf]; omega
              · have HOKK : Hid (s.okAt k) := Lib.hid (HYK.out (by
                  unfold St.okCnt
                  rw [decide_eq_true (show 0 ≤ c ∧ c ≤ 1000000 from HBC.out), decide_eq_false c0]; rfl))
                have c0' : decide (0 < c) = false := by simpa using c0
                clear c0
                go_wp2
                go_roundw
                case rel =>
                  refine ⟨k + 1, by omega, by go_num, fun j hj => ?_, HX4.out⟩
                  by_cases hjk : j < k
                  · exact HALL.out j hjk
                  · obtain rfl : j = k := by omega
                    exact HOKK.out
                case measure => simp [intOf]; omega
          · have HY : Hid ((s.whole && s.counts) = true) := Lib.hid (by rw [HCO.out]; exact St.counts_yes fun j hj => HALL.out j (by omega))
            go_wp2
            go_ret
            exact ⟨by rw [HY.out] <;> rfl, HX1.out.trans HX4.out⟩
    · have HNO : Hid ((s.whole && s.counts) = false) := Lib.hid (by rw [HWE.out, decide_eq_false a3]; simp)
      have a3' : (1000 : Int) < (s.ms.length : Int) := by omega
      go_wp2
      (go_ret; exact ⟨by rw [HNO.out] <;> rfl, HX1.out.trans HX3.out⟩)
  · have HNO : Hid ((s.whole && s.counts) = false) := Lib.hid (by rw [HWE.out, decide_eq_false a2]; simp)
    have a2' : ((s.ps.length : Int) != 8) = true := by simp; omega
    go_wp2
    (go_ret; exact ⟨by rw [HNO.out] <;> rfl, HX1.out.trans HX3.out⟩)
set_option maxRecDepth 100000 in
set_option maxHeartbeats 16000000 in
theorem sstmay_any (h : StH) (s : St) (r : Bool) (hr : s.may = r) (w : World) (hk : StOk w h s) (hf : StFew s) : Calls Try.prog 33 #[stV h s] w fun e w' => e = .returned (.bool r) ∧ Ext w w' := by
  subst hr
  have HF := Lib.hid hf
  have HK := Lib.hid hk
  obtain ⟨w1, hw1⟩ : ∃ w1, w.alloc (.cells #[.slice h.pa s.prog.length h.pc, .slice h.ga s.gs.length h.gc, .slice h.qa s.ps.length h.qc, .slice h.ma s.ms.length h.mc, .slice h.la s.glob.length h.lc, .int .i64 s.c0, .int .i64 s.c1, .int .i64 s.c2, .int .i64 s.c3, .slice h.a0 s.w0.length h.k0, .slice h.a1 s.w1.length h.k1, .slice h.a2 s.w2.length h.k2, .slice h.a3 s.w3.length h.k3, .slice h.ta s.timers.length h.tc, .int .i64 s.clock, .int .i64 s.procs] 47) = w1 := ⟨_, rfl⟩
  have HX1 : Hid (Ext w w1) := Lib.hid (by rw [← hw1]; exact (Ext.refl w).alloc _)
  have HB1 : Hid (w1.heap[w.heap.size]? = some (.cells (stC h s) 47 (0, 0))) := Lib.hid (by rw [← hw1]; exact blk_new w _)
  have HK1 := Lib.hid (hk.ext HX1.out)
  have HW1 := Lib.hid hw1
  clear hw1 hk
  clear hf
  have HE := Lib.hid s.may_eq
  have HLD := Lib.hid HB1.out
  unfold stV
  go_enter Try.func33, Try.ntmps33
  go_upto_region 1 with fail
  rw [HW1.out]
  generalize Value.agg #[.slice h.pa s.prog.length h.pc, .slice h.ga s.gs.length h.gc, .slice h.qa s.ps.length h.qc, .slice h.ma s.ms.length h.mc, .slice h.la s.glob.length h.lc, .int .i64 s.c0, .int .i64 s.c1, .int .i64 s.c2, .int .i64 s.c3, .slice h.a0 s.w0.length h.k0, .slice h.a1 s.w1.length h.k1, .slice h.a2 s.w2.length h.k2, .slice h.a3 s.w3.length h.k3, .slice h.ta s.timers.length h.tc, .int .i64 s.clock, .int .i64 s.procs] = sv0
  go_wp2_with (refine wpList_load_rowW rfl 47 _ rfl w.heap.size rfl (stL h s) (stV h s) rfl _ (range_row HLD.out) Try.underlying47 rfl (by kernel_rfl) ?_)
  refine (smayWhole_any h s _ rfl _ HK1.out HF.out).mono ?_
  rintro e w3 ⟨rfl, hx3⟩
  have HX3 := Lib.hid hx3
  clear HLD
  clear hx3
  cases b1 : (s.whole && s.counts) with
  | false =>
    have HNO : Hid (s.may = false) := Lib.hid (by rw [← HE.out, b1]; rfl)
    go_wp2
    (go_ret; exact ⟨by rw [HNO.out] <;> rfl, HX1.out.trans HX3.out⟩)
  | true =>
  have HLD := Lib.hid (HX3.out.blk HB1.out)
  go_wp2_with (refine wpList_load_rowW rfl 47 _ rfl w.heap.size rfl (stL h s) (stV h s) rfl _ (range_row HLD.out) Try.underlying47 rfl (by kernel_rfl) ?_)
  refine (smayGs_any h s _ rfl _ (HK1.out.ext HX3.out) HF.out).mono ?_
  rintro e w4 ⟨rfl, hx4⟩
  have HX4 := Lib.hid (HX3.out.trans hx4)
  clear HLD
  clear hx4 HX3
  have HX3 := Lib.hid HX4.out
  cases b2 : s.gs.all s.pGood with
  | false =>
    have HNO : Hid (s.may = false) := Lib.hid (by rw [← HE.out, b1, b2]; rfl)
    go_wp2
    (go_ret; exact ⟨by rw [HNO.out] <;> rfl, HX1.out.trans HX3.out⟩)
  | true =>
  have HLD := Lib.hid (HX3.out.blk HB1.out)
  go_wp2_with (refine wpList_load_rowW rfl 47 _ rfl w.heap.size rfl (stL h s) (stV h s) rfl _ (range_row HLD.out) Try.underlying47 rfl (by kernel_rfl) ?_)
  refine (smayPs_any h s _ rfl _ (HK1.out.ext HX3.out) HF.out).mono ?_
  rintro e w5 ⟨rfl, hx5⟩
  have HX5 := Lib.hid (HX3.out.trans hx5)
  clear HLD
  clear hx5 HX3 HX4
  have HX3 := Lib.hid HX5.out
  cases b3 : allIx s.holdP 0 s.ps with
  | false =>
    have HNO : Hid (s.may = false) := Lib.hid (by rw [← HE.out, b1, b2, b3]; rfl)
    go_wp2
    (go_ret; exact ⟨by rw [HNO.out] <;> rfl, HX1.out.trans HX3.out⟩)
  | true =>
  have HLD := Lib.hid (HX3.out.blk HB1.out)
  go_wp2_with (refine wpList_load_rowW rfl 47 _ rfl w.heap.size rfl (stL h s) (stV h s) rfl _ (range_row HLD.out) Try.underlying47 rfl (by kernel_rfl) ?_)
  refine (smayMs_any h s _ rfl _ (HK1.out.ext HX3.out) HF.out).mono ?_
  rintro e w6 ⟨rfl, hx6⟩
  have HX6 := Lib.hid (HX3.out.trans hx6)
  clear HLD
  clear hx6 HX3 HX5
  have HX3 := Lib.hid HX6.out
  cases b4 : allIx s.holdM 0 s.ms with
  | false =>
    have HNO : Hid (s.may = false) := Lib.hid (by rw [← HE.out, b1, b2, b3, b4]; rfl)
    go_wp2
    (go_ret; exact ⟨by rw [HNO.out] <;> rfl, HX1.out.trans HX3.out⟩)
  | true =>
  have HP : Hid (s.places = s.may) := Lib.hid (by rw [← HE.out, b1, b2, b3, b4]; rfl)
  have HLD := Lib.hid (HX3.out.blk HB1.out)
  go_wp2_with (refine wpList_load_rowW rfl 47 _ rfl w.heap.size rfl (stL h s) (stV h s) rfl _ (range_row HLD.out) Try.underlying47 rfl (by kernel_rfl) ?_)
  refine (smayPlaces_any h s _ HP.out _ (HK1.out.ext HX3.out) HF.out).mono ?_
  rintro e w7 ⟨rfl, hx7⟩
  have HX7 := Lib.hid (HX3.out.trans hx7)
  clear HLD
  clear hx7
  go_wp2
  go_ret
  exact ⟨rfl, HX1.out.trans HX7.out⟩
theorem of_two (w : World) (x : Array Value) (X : TypeId) (z : Array Value) (Z : TypeId) : ∃ w1, ((w.alloc (.cells x X)).alloc (.cells z Z)) = w1 ∧ Ext w w1 ∧ w1.heap[w.heap.size]? = some (.cells x X (0, 0)) ∧ w1.heap[w.heap.size + 1]? = some (.cells z Z (0, 0)) := by
  have s1 := World.size_alloc w (.cells x X)
  refine ⟨_, rfl, ((Ext.refl w).alloc _).alloc _, blk_alloc (blk_new w _) _, ?_⟩
  rw [← s1]; exact blk_new _ _
theorem of_start {w0 w : World} (hx : Ext w0 w) (t : Int) : ∃ wz, w.alloc (.cells #[.int .i64 0, .slice none 0 0, .slice none 0 0] 25) = wz ∧ wz.there w.heap.size 0 [Value.int .i64 t, .slice none 0 0, .slice none 0 0].length ∧ ∃ wa, wz.setCells w.heap.size 0 [.int .i64 t, .slice none 0 0, .slice none 0 0] = wa ∧ OfBox w0 wa w.heap.size t (.slice none 0 0) (.slice none 0 0) [] [] := by
  have hb := blk_new w (.cells #[.int .i64 0, .slice none 0 0, .slice none 0 0] 25)
  refine ⟨_, rfl, there_row hb (by simp), _, rfl, ⟨setCells_at [.int .i64 0, .slice none 0 0, .slice none 0 0] _ rfl hb, OwnRows.nil _ _, OwnRows.nil _ _, (fun k hk => by cases hk), ?_, hx.size⟩⟩
  exact Ext.upd (hx.alloc _) (setCells_upd _ _ _ _) hx.size
set_option maxRecDepth 100000 in
set_option maxHeartbeats 16000000 in
theorem mOf_any (h : StH) (s : St) (w : World) (hk : StOk w h s) (hf : StFew s) (o : Sn) (ho : Md.of s = o) : Calls Try.prog 16 #[stV h s] w (SnRet w o) := by
  subst ho
  have HF := Lib.hid hf
  have f1 := hf.gs
  have f2 := hf.ps
  have HK := Lib.hid hk
  obtain ⟨w1, hw1, hx1, hb1, hz1⟩ := of_two w #[.slice h.pa s.prog.length h.pc, .slice h.ga s.gs.length h.gc, .slice h.qa s.ps.length h.qc, .slice h.ma s.ms.length h.mc, .slice h.la s.glob.length h.lc, .int .i64 s.c0, .int .i64 s.c1, .int .i64 s.c2, .int .i64 s.c3, .slice h.a0 s.w0.length h.k0, .slice h.a1 s.w1.length h.k1, .slice h.a2 s.w2.length h.k2, .slice h.a3 s.w3.length h.k3, .slice h.ta s.timers.length h.tc, .int .i64 s.clock, .int .i64 s.procs] 47 #[.int .i64 0, .slice none 0 0, .slice none 0 0] 25
  have HW1 := Lib.hid hw1
  have HX1 := Lib.hid hx1
  have HB1 : Hid (w1.heap[w.heap.size]? = some (.cells (stC h s) 47 (0, 0))) := Lib.hid hb1
  have HZ1 := Lib.hid hz1
  have HK1 := Lib.hid (hk.ext hx1)
  clear hw1 hx1 hb1 hz1 hk hf
  have HLD := Lib.hid HB1.out
  unfold stV
  go_enter Try.func16, Try.ntmps16
  go_upto_region 1 with fail
  rw [HW1.out]
  generalize Value.agg #[.slice h.pa s.prog.length h.pc, .slice h.ga s.gs.length h.gc, .slice h.qa s.ps.length h.qc, .slice h.ma s.ms.length h.mc, .slice h.la s.glob.length h.lc, .int .i64 s.c0, .int .i64 s.c1, .int .i64 s.c2, .int .i64 s.c3, .slice h.a0 s.w0.length h.k0, .slice h.a1 s.w1.length h.k1, .slice h.a2 s.w2.length h.k2, .slice h.a3 s.w3.length h.k3, .slice h.ta s.timers.length h.tc, .int .i64 s.clock, .int .i64 s.procs] = sv0
  go_wp2_with (refine wpList_load_rowW rfl 47 _ rfl w.heap.size rfl (stL h s) (stV h s) rfl _ (range_row HLD.out) Try.underlying47 rfl (by kernel_rfl) ?_)
  refine (sstmay_any h s _ rfl _ HK1.out HF.out).mono ?_
  rintro e w2 ⟨rfl, hx2⟩
  have HX2 := Lib.hid hx2
  clear hx2 HLD
  obtain ⟨my, hmy⟩ : ∃ my, s.may = my := ⟨_, rfl⟩
  have HMY := Lib.hid hmy
  rw [hmy]
  clear hmy
  cases my with
  | false =>
    have hlay := sn_lay (y := Md.zero) (A := none) (B := none) (c := 0) (d := 0) (time := 0) (HX1.out.trans HX2.out) (show w.heap.size ≤ w.heap.size + 1 by omega) (HX2.out.blk HZ1.out) (snZ_at _)
    simp only [Md.zero, List.length_nil] at hlay
    obtain ⟨hth6, w6, hw6, hb6, hret⟩ := hlay
    have HTH6 := Lib.hid hth6
    have HW6 := Lib.hid hw6
    have HB6 := Lib.hid hb6
    have HRET := Lib.hid hret
    clear hth6 hw6 hb6 hret
    have HN : Hid (Md.of s = Md.zero) := Lib.hid (by unfold Md.of; rw [HMY.out]; rfl)
    go_wp2_with (refine wpList_store_rowN rfl 25 _ _ rfl (w.heap.size + 1) 0 [.int .i64 0, .slice none 0 0, .slice none 0 0] (.agg ([.int .i64 0, .slice none 0 0, .slice none 0 0]).toArray) (by go_simp) (by go_simp) rfl HTH6.out (by kernel_rfl) (sn3_one _ _ _ rfl rfl) HW6.out ?_)
    refine bodyPost_ret (v := .agg ([.int .i64 0, .slice none 0 0, .slice none 0 0]).toArray) (results_cell_row rfl _ _ (w.heap.size + 1) _ _ _ _ rfl HB6.out Try.underlying25 rfl (by kernel_rfl)) rfl ?_
    rw [HN.out]
    exact HRET.out
  | true =>
  have HN : Hid (Md.of s = ⟨s.clock, Md.psOf s.ps, Md.gsOf s.gs 1⟩) := Lib.hid (by unfold Md.of; rw [HMY.out]; rfl)
  have q14 := st14 (HX2.out.blk HB1.out)
  obtain ⟨wz, hwz, hth, wa, hwa, hof⟩ := of_start HX2.out s.clock
  obtain ⟨X, hX⟩ : ∃ X, w2.heap.size = X := ⟨_, rfl⟩
  rw [hX] at hth hwa hof
  have HWZ := Lib.hid hwz
  have HTH := Lib.hid hth
  have HWA := Lib.hid hwa
  have HOF := Lib.hid hof
  have HXX := Lib.hid hX
  clear hwz hth hwa hof hX
  go_upto_region 4 with (first | rw [HWZ.out, HXX.out] | (refine wpList_store_rowN rfl 25 _ _ rfl X 0 [.int .i64 s.clock, .slice none 0 0, .slice none 0 0] (.agg ([.int .i64 s.clock, .slice none 0 0, .slice none 0 0]).toArray) (by go_simp) (by go_simp) rfl HTH.out (by kernel_rfl) (sn3_one _ _ _ rfl rfl) HWA.out ?_))
  clear q14
  have q2 := st2 (HOF.out.ext.blk HB1.out)
  go_wp2_with fail
  clear q2
  obtain ⟨qa, hqa⟩ : ∃ qa, h.qa = qa := ⟨_, rfl⟩
  have HQA := Lib.hid hqa
  rw [hqa]
  clear hqa
  go_loopw [18] (fun iv wr => ∃ (k : Nat) (u1 : Value), k ≤ s.ps.length ∧ iv = .int .i64 k ∧ OfBox w1 wr X s.clock u1 (.slice none 0 0) (Md.psOf (s.ps.take k)) []) (fun iv _ => s.ps.length - (intOf iv).toNat)
  case atStart => exact ⟨0, _, by omega, rfl, HOF.out⟩
  case round =>
    obtain ⟨k, u1, hk, rfl, hof⟩ := hrel
    have HO := Lib.hid hof
    clear hof
    by_cases hlt : k < s.ps.length
    · obtain ⟨p, hp⟩ : ∃ p, s.ps[k]? = some p := ⟨_, List.getElem?_eq_getElem hlt⟩
      have HTK := Lib.hid (Md.psOf_take hp)
      obtain ⟨m, nx, r, sq⟩ := p
      obtain ⟨b0, b1, b2, b3, b4, b5, b6, b7, hd, nn, rfl⟩ := Ri.open8 (HK.out.buf _ (List.mem_of_getElem? hp))
      obtain ⟨b, o, hA, hb, hc⟩ := ps_get (HK1.out.ext HO.out.ext).ps hp
      rw [HQA.out] at hA
      subst hA
      obtain ⟨⟨p0, p1, p2, p3, p4, p5, p6⟩, p7, p8, p9, p10, p11, p12⟩ := hc
      obtain ⟨w3, hw3⟩ : ∃ w3, wr.alloc (.cells #[.int .i64 m, .int .i64 nx, .int .i64 b0, .int .i64 b1, .int .i64 b2, .int .i64 b3, .int .i64 b4, .int .i64 b5, .int .i64 b6, .int .i64 b7, .int .i64 hd, .int .i64 nn, .int .i64 sq] 77) = w3 := ⟨_, rfl⟩
      have HW3 := Lib.hid hw3
      have HX3 : Hid (Ext wr w3) := Lib.hid (by rw [← hw3]; exact (Ext.refl _).alloc _)
      have HQ3 : Hid (w3.heap[wr.heap.size]? = some (.cells #[.int .i64 m, .int .i64 nx, .int .i64 b0, .int .i64 b1, .int .i64 b2, .int .i64 b3, .int .i64 b4, .int .i64 b5, .int .i64 b6, .int .i64 b7, .int .i64 hd, .int .i64 nn, .int .i64 sq] 77 (0, 0))) := Lib.hid (by rw [← hw3]; exact blk_new wr _)
      have HO3 := Lib.hid (HO.out.more HX3.out)
      clear hp hb hw3
      go_upto_region 7 with fail
      rw [HW3.out]
      clear p0 p1 p2 p3 p4 p5 p6 p7 p8 p9 p10 p11 p12
      have z0 := blk_cell HQ3.out 0 _ rfl
      have z12 := blk_cell HQ3.out 12 _ rfl
      have y1 := blk_cell HO3.out.box 1 _ rfl
      obtain ⟨un, wn, hr1, qa1, fa1, hof1⟩ := HO3.out.pushP (m, sq) (by unfold Md.psOf; rw [List.length_map, List.length_take]; omega)
      obtain ⟨An, cn, hun, -⟩ := (OwnRows.rows snPCells_len hof1.ps).form
      subst hun
      have HR1 := Lib.hid hr1
      have HO1 := Lib.hid hof1
      clear hr1 hof1
      go_wp2_with (at_builtin; refine wpList_append_run rfl _ _ 22 rfl _ _ rfl rfl HR1.out ?_)
      go_roundw
      case rel => exact ⟨k + 1, _, by omega, by go_num, by rw [HTK.out]; have hh := HO1.out; rw [List.length_append, List.length_singleton] at hh; exact hh⟩
      case measure => simp [intOf]; omega
    · obtain rfl : k = s.ps.length := by omega
      have HO2 : Hid (OfBox w1 wr X s.clock u1 (.slice none 0 0) (Md.psOf s.ps) []) := Lib.hid (by have := HO.out; rwa [List.take_length] at this)
      clear HO hk hlt
      have q1 := st1 (HO2.out.ext.blk HB1.out)
      go_wp2_with fail
      clear q1
      obtain ⟨ga, hga⟩ : ∃ ga, h.ga = ga := ⟨_, rfl⟩
      have HGA := Lib.hid hga
      rw [hga]
      clear hga
      go_loopw [36] (fun iv wr => ∃ (k : Nat) (u2 : Value), k ≤ s.gs.length ∧ iv = .int .i64 k ∧ OfBox w1 wr X s.clock u1 u2 (Md.psOf s.ps) (Md.gsOf (s.gs.take k) 1)) (fun iv _ => s.gs.length - (intOf iv).toNat)
      case atStart => exact ⟨0, _, by omega, rfl, HO2.out⟩
      case round =>
        obtain ⟨k, u2, hk, rfl, hof⟩ := hrel
        have HO := Lib.hid hof
        clear hof
        by_cases hlt : k < s.gs.length
        · obtain ⟨g, hg⟩ : ∃ g, s.gs[k]? = some g := ⟨_, List.getElem?_eq_getElem hlt⟩
          have HTK := Lib.hid (Md.gsOf_take hg)
          obtain ⟨b, o, hA, hb, hc⟩ := (HK1.out.ext HO.out.ext).gs.get hg
          rw [HGA.out] at hA
          subst hA
          have k0 := hc 0 _ rfl
          have k1 := hc 1 _ rfl
          have k2 := hc 2 _ rfl
          have k3 := hc 3 _ rfl
          have k4 := hc 4 _ rfl
          rw [Nat.add_zero] at k0
          clear hg hb hc
          go_upto_region 12 with fail
          obtain ⟨w3, hw3⟩ : ∃ w3, wr.alloc (.cells #[.int .i64 g.func, .int .i64 g.pc, .int .i64 g.st, .int .i64 g.m, .int .i64 g.seq] 72) = w3 := ⟨_, rfl⟩
          have HX3 : Hid (Ext wr w3) := Lib.hid (by rw [← hw3]; exact (Ext.refl _).alloc _)
          have HQ3 : Hid (w3.heap[wr.heap.size]? = some (.cells #[.int .i64 g.func, .int .i64 g.pc, .int .i64 g.st, .int .i64 g.m, .int .i64 g.seq] 72 (0, 0))) := Lib.hid (by rw [← hw3]; exact blk_new wr _)
          rw [hw3]
          have HO3 := Lib.hid (HO.out.more HX3.out)
          clear hw3 k0 k1 k2 k3 k4
          have z2 := blk_cell HQ3.out 2 _ rfl
          have z3 := blk_cell HQ3.out 3 _ rfl
          have z4 := blk_cell HQ3.out 4 _ rfl
          by_cases h5 : g.st = 5
          · have H5 := Lib.hid h5
            have e5 : (g.st != 5) = false := by simpa using h5
            clear h5
            go_wp2
            go_roundw
            case rel => exact ⟨k + 1, _, by omega, by go_num, by rw [HTK.out, if_pos H5.out, List.append_nil]; exact HO3.out⟩
            case measure => simp [intOf]; omega
          · have H5 := Lib.hid h5
            have e5 : (g.st != 5) = true := by simpa using h5
            clear h5
            have y2 := blk_cell HO3.out.box 2 _ rfl
            obtain ⟨un, wn, hr1, qa1, fa1, hof1⟩ := HO3.out.pushG ((k : Int) + 1, g.st, g.m, g.seq) (by have := Md.gsOf_len (s.gs.take k) 1; rw [List.length_take] at this; omega)
            obtain ⟨An, cn, hun, -⟩ := (OwnRows.rows snGCells_len hof1.gs).form
            subst hun
            have HR1 := Lib.hid hr1
            have HO1 := Lib.hid hof1
            clear hr1 hof1
            go_wp2_with (at_builtin; refine wpList_append_run rfl _ _ 23 rfl _ _ rfl rfl HR1.out ?_)
            go_roundw
            case rel => exact ⟨k + 1, _, by omega, by go_num, by rw [HTK.out, if_neg H5.out]; have hh := HO1.out; rw [List.length_append, List.length_singleton] at hh; exact hh⟩
            case measure => simp [intOf]; omega
        · obtain rfl : k = s.gs.length := by omega
          have HO3 : Hid (OfBox w1 wr X s.clock u1 u2 (Md.psOf s.ps) (Md.gsOf s.gs 1)) := Lib.hid (by have := HO.out; rwa [List.take_length] at this)
          clear HO hk hlt
          obtain ⟨A5, c5, hu1, -⟩ := (OwnRows.rows snPCells_len HO3.out.ps).form
          obtain ⟨A6, c6, hu2, -⟩ := (OwnRows.rows snGCells_len HO3.out.gs).form
          subst hu1 hu2
          have HRX := Lib.hid (range_row (cs := [.int .i64 s.clock, .slice A5 (Md.psOf s.ps).length c5, .slice A6 (Md.gsOf s.gs 1).length c6]) HO3.out.box)
          obtain ⟨hth6, w6, hw6, hb6, hret⟩ := sn_lay (y := ⟨s.clock, Md.psOf s.ps, Md.gsOf s.gs 1⟩) (HX1.out.trans HO3.out.ext) (show w.heap.size ≤ w.heap.size + 1 by omega) (HO3.out.ext.blk HZ1.out) HO3.out.snap
          have HTH6 := Lib.hid hth6
          have HW6 := Lib.hid hw6
          have HB6 := Lib.hid hb6
          have HRET := Lib.hid hret
          clear hth6 hw6 hb6 hret
          go_wp2_with (first | (refine wpList_load_rowW (by rfl) 25 _ rfl X (by go_simp) [.int .i64 s.clock, .slice A5 (Md.psOf s.ps).length c5, .slice A6 (Md.gsOf s.gs 1).length c6] (.agg ([.int .i64 s.clock, .slice A5 (Md.psOf s.ps).length c5, .slice A6 (Md.gsOf s.gs 1).length c6]).toArray) rfl _ HRX.out Try.underlying25 rfl (by kernel_rfl) ?_) | (refine wpList_store_rowN rfl 25 _ _ rfl (w.heap.size + 1) 0 [.int .i64 s.clock, .slice A5 (Md.psOf s.ps).length c5, .slice A6 (Md.gsOf s.gs 1).length c6] (.agg ([.int .i64 s.clock, .slice A5 (Md.psOf s.ps).length c5, .slice A6 (Md.gsOf s.gs 1).length c6]).toArray) (by go_simp) (by go_simp) rfl HTH6.out (by kernel_rfl) (sn3_one _ _ _ rfl rfl) HW6.out ?_))
          refine bodyPost_ret (v := .agg ([.int .i64 s.clock, .slice A5 (Md.psOf s.ps).length c5, .slice A6 (Md.gsOf s.gs 1).length c6]).toArray) (results_cell_row rfl _ _ (w.heap.size + 1) _ _ _ _ rfl HB6.out Try.underlying25 rfl (by kernel_rfl)) rfl ?_
          rw [HN.out]
          exact HRET.out
open Go.ChangeShapes Go.WideShapes Go.Deep Go.RowKit
section
variable {H : Type} {enc : TypeId × Value → H} {P : Program} {w : World} {base : Nat} {spare : Nat → Bool} {held : Bool}
end
end Go.Proofs.Ytdcbaddndoilfaa
