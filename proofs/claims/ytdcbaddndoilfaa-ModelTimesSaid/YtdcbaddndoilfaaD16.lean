/-
  Several texts in one: Tm, Ti, Tj, Tk, Tn, Tw, Hzj, Sd, Se, Sf, Sg, Ls, Si, Sm, Sn, So, To, Hzl.
-/
import Derived.Test.YtdcbaddndoilfaaD15
import Derived.Test.YtdcbaddndoilfaaD02
import Derived.Test.YtdcbaddndoilfaaD14
import Derived.Test.YtdcbaddndoilfaaD04
import Derived.Laws.EntriesVeiled
import Derived.Laws.IdiomCopy
import Derived.Test.YtdcbaddndoilfaaD03
import Derived.Test.YtdcbaddndoilfaaD01
import Derived.Deep.Slices
import Derived.Deep.Fields
import Derived.ChangeSame
import Derived.SliceStrings
import Derived.Test.YtdcbaddndoilfaaD10
set_option linter.unusedVariables false
set_option linter.unusedSimpArgs false
namespace Go.Proofs.Ytdcbaddndoilfaa
open Go.RowKit
theorem holdM_no {s : St} {i : Nat} {m : Int × Int} (h : ¬ (0 ≤ m.1 ∧ m.1 ≤ s.ps.length)) : s.holdM i m = false := by unfold St.holdM; rw [decide_eq_false h]; rfl
theorem holdM_no2 {s : St} {i : Nat} {m : Int × Int} (h : ¬ (0 < m.1 → (s.ps.getD (m.1 - 1).toNat St.nilP).m = i + 1)) : s.holdM i m = false := by unfold St.holdM; rw [decide_eq_false h, Bool.and_false]
theorem holdM_yes {s : St} {i : Nat} {m : Int × Int} (h : 0 ≤ m.1 ∧ m.1 ≤ s.ps.length) (h2 : 0 < m.1 → (s.ps.getD (m.1 - 1).toNat St.nilP).m = i + 1) : s.holdM i m = true := by unfold St.holdM; rw [decide_eq_true h, decide_eq_true h2]; rfl
set_option maxRecDepth 100000 in
set_option maxHeartbeats 8000000 in
theorem smayMs_any (h : StH) (s : St) (r : Bool) (hr : allIx s.holdM 0 s.ms = r) (w : World) (hk : StOk w h s) (hf : StFew s) : Calls Try.prog 65 #[stV h s] w fun e w' => e = .returned (.bool r) ∧ Ext w w' := by
  subst hr
  have f1 := hf.ms
  have f2 := hf.ps
  have HK := Lib.hid hk
  obtain ⟨w1, hw1⟩ : ∃ w1, w.alloc (.cells #[.slice h.pa s.prog.length h.pc, .slice h.ga s.gs.length h.gc, .slice h.qa s.ps.length h.qc, .slice h.ma s.ms.length h.mc, .slice h.la s.glob.length h.lc, .int .i64 s.c0, .int .i64 s.c1, .int .i64 s.c2, .int .i64 s.c3, .slice h.a0 s.w0.length h.k0, .slice h.a1 s.w1.length h.k1, .slice h.a2 s.w2.length h.k2, .slice h.a3 s.w3.length h.k3, .slice h.ta s.timers.length h.tc, .int .i64 s.clock, .int .i64 s.procs] 47) = w1 := ⟨_, rfl⟩
  have HX1 : Hid (Ext w w1) := Lib.hid (by rw [← hw1]; exact (Ext.refl w).alloc _)
  have HB1 : Hid (w1.heap[w.heap.size]? = some (.cells (stC h s) 47 (0, 0))) := Lib.hid (by rw [← hw1]; exact blk_new w _)
  have HK1 := Lib.hid (hk.ext HX1.out)
  have HW1 := Lib.hid hw1
  clear hw1 hk
  clear hf
  have q3 := st3 HB1.out
  unfold stV
  go_enter Try.func65, Try.ntmps65
  go_upto_region 1 with fail
  rw [HW1.out]
  generalize Value.agg #[.slice h.pa s.prog.length h.pc, .slice h.ga s.gs.length h.gc, .slice h.qa s.ps.length h.qc, .slice h.ma s.ms.length h.mc, .slice h.la s.glob.length h.lc, .int .i64 s.c0, .int .i64 s.c1, .int .i64 s.c2, .int .i64 s.c3, .slice h.a0 s.w0.length h.k0, .slice h.a1 s.w1.length h.k1, .slice h.a2 s.w2.length h.k2, .slice h.a3 s.w3.length h.k3, .slice h.ta s.timers.length h.tc, .int .i64 s.clock, .int .i64 s.procs] = sv0
  go_wp2_with fail
  clear q3
  obtain ⟨ma, hma⟩ : ∃ ma, h.ma = ma := ⟨_, rfl⟩
  have HMA := Lib.hid hma
  rw [hma]
  clear hma
  go_loopw [8] (fun iv wr => ∃ k : Nat, k ≤ s.ms.length ∧ iv = .int .i64 k ∧ (∀ (j : Nat) g, s.ms[j]? = some g → j < k → s.holdM j g = true) ∧ Ext w1 wr) (fun iv _ => s.ms.length - (intOf iv).toNat)
  case atStart => exact ⟨0, by omega, rfl, fun j l _ h => by omega, Ext.refl _⟩
  case round =>
    obtain ⟨k, hk, rfl, hall, hx⟩ := hrel
    have HALL := Lib.hid hall
    have HX := Lib.hid hx
    clear hall hx
    by_cases hlt : k < s.ms.length
    · obtain ⟨x, hx⟩ : ∃ x, s.ms[k]? = some x := ⟨_, List.getElem?_eq_getElem hlt⟩
      have HG := Lib.hid hx
      have HST : Hid (s.holdM k x = false → allIx s.holdM 0 s.ms = false) := Lib.hid fun h => allIx_no hx h
      obtain ⟨b, o, hA, hb, c0, c1⟩ := frs2_get (HK1.out.ext HX.out).ms hx
      rw [HMA.out] at hA
      subst hA
      obtain ⟨m, g⟩ := x
      simp only at c0 c1
      obtain ⟨w3, hw3⟩ : ∃ w3, wr.alloc (.cells #[.int .i64 m, .int .i64 g] 119) = w3 := ⟨_, rfl⟩
      have HW3 := Lib.hid hw3
      have HX4 : Hid (Ext w1 w3) := Lib.hid (by rw [← hw3]; exact HX.out.alloc _)
      have hq : w3.heap[wr.heap.size]? = some (.cells #[.int .i64 m, .int .i64 g] 119 (0, 0)) := by rw [← hw3]; exact blk_new wr _
      have z0 := blk_cell hq 0 _ rfl
      have y2 := st2 (HX4.out.blk HB1.out)
      clear hx hb hw3 hq
      by_cases a0 : m = 0
      · subst a0
        have HYES : Hid (s.holdM k (0, g) = true) := Lib.hid (holdM_yes (by simp) (fun h => by simp at h))
        go_wp2_with (rw [HW3.out])
        go_roundw
        case rel =>
          refine ⟨k + 1, by omega, by go_num, fun i y hi hij => ?_, HX4.out⟩
          by_cases hij2 : i < k
          · exact HALL.out i y hi hij2
          · obtain rfl : i = k := by omega
            rw [← some_eq HG.out hi]
            exact HYES.out
        case measure => simp [intOf]; omega
      · have a0' : (m != 0) = true := by simpa using a0
        have HA0 := Lib.hid a0
        clear a0
        cases bb : wiB m 1 (s.ps.length : Int) with
        | false =>
          have HNO : Hid (allIx s.holdM 0 s.ms = false) := Lib.hid (HST.out (holdM_no (fun h => by
            have := HA0.out
            rw [wiB_iff.2 (show 1 ≤ m ∧ m ≤ (s.ps.length : Int) by have := h.1; have := h.2; simp only at *; omega)] at bb
            cases bb)))
          go_wp2_with (rw [HW3.out])
          refine (swithin_any m 1 (s.ps.length : Int) _).mono ?_
          rintro e w' ⟨rfl, rfl⟩
          go_wp2
          (go_ret; exact ⟨by rw [HNO.out] <;> rfl, HX1.out.trans HX4.out⟩)
        | true =>
          obtain ⟨fb1, fb2⟩ := wiB_iff.1 bb
          obtain ⟨j, hj⟩ : ∃ j : Nat, m = (j : Int) + 1 := ⟨(m - 1).toNat, by omega⟩
          subst hj
          obtain ⟨p, hp⟩ : ∃ p, s.ps[j]? = some p := ⟨_, List.getElem?_eq_getElem (by omega)⟩
          obtain ⟨pm, nx, r, sq⟩ := p
          obtain ⟨b0, b1, b2, b3, b4, b5, b6, b7, hd, nn, rfl⟩ := Ri.open8 (HK.out.buf _ (List.mem_of_getElem? hp))
          obtain ⟨bp, op, hAp, hbp, hcp⟩ := ps_get (HK1.out.ext HX4.out).ps hp
          have c0' := hcp.1.1
          have HMX : Hid ((s.ps.getD ((j : Int) + 1 - 1).toNat St.nilP).m = pm) := Lib.hid (by
            rw [show ((j : Int) + 1 - 1).toNat = j by omega, List.getD, hp]; rfl)
          have HM3 : Hid (0 ≤ (j : Int) + 1 ∧ (j : Int) + 1 ≤ s.ps.length) := Lib.hid ⟨by omega, fb2⟩
          have e1 : (j : Int) + 1 - 1 = (j : Int) := by omega
          have e4 : (j : Int) < (s.ps.length : Int) := by omega
          clear hcp hp hbp fb1
          go_wp2_with (rw [HW3.out])
          refine (swithin_any ((j : Int) + 1) 1 (s.ps.length : Int) _).mono ?_
          rintro e w' ⟨rfl, rfl⟩
          by_cases d0 : pm = (k : Int) + 1
          · subst d0
            have HYES : Hid (s.holdM k ((j : Int) + 1, g) = true) := Lib.hid (holdM_yes HM3.out (fun _ => HMX.out))
            go_wp2
            go_roundw
            case rel =>
              refine ⟨k + 1, by omega, by go_num, fun i y hi hij => ?_, HX4.out⟩
              by_cases hij2 : i < k
              · exact HALL.out i y hi hij2
              · obtain rfl : i = k := by omega
                rw [← some_eq HG.out hi]
                exact HYES.out
            case measure => simp [intOf]; omega
          · have HNO : Hid (allIx s.holdM 0 s.ms = false) := Lib.hid (HST.out (holdM_no2 (fun h => d0 (by have := h (by simp only; omega); simp only [HMX.out] at this; exact this))))
            have d0' : (pm != (k : Int) + 1) = true := by simpa using d0
            clear d0
            go_wp2
            (go_ret; exact ⟨by rw [HNO.out] <;> rfl, HX1.out.trans HX4.out⟩)
    · obtain rfl : k = s.ms.length := by omega
      have HY : Hid (allIx s.holdM 0 s.ms = true) := Lib.hid (allIx_yes fun j l hj => HALL.out j l hj (List.getElem?_eq_some_iff.1 hj).1)
      go_wp2
      go_ret
      exact ⟨by rw [HY.out] <;> rfl, HX1.out.trans HX.out⟩
set_option maxRecDepth 100000 in
set_option maxHeartbeats 16000000 in
theorem smayPs_any (h : StH) (s : St) (r : Bool) (hr : allIx s.holdP 0 s.ps = r) (w : World) (hk : StOk w h s) (hf : StFew s) : Calls Try.prog 64 #[stV h s] w fun e w' => e = .returned (.bool r) ∧ Ext w w' := by
  subst hr
  have f1 := hf.ms
  have f2 := hf.ps
  have HK := Lib.hid hk
  obtain ⟨w1, hw1⟩ : ∃ w1, w.alloc (.cells #[.slice h.pa s.prog.length h.pc, .slice h.ga s.gs.length h.gc, .slice h.qa s.ps.length h.qc, .slice h.ma s.ms.length h.mc, .slice h.la s.glob.length h.lc, .int .i64 s.c0, .int .i64 s.c1, .int .i64 s.c2, .int .i64 s.c3, .slice h.a0 s.w0.length h.k0, .slice h.a1 s.w1.length h.k1, .slice h.a2 s.w2.length h.k2, .slice h.a3 s.w3.length h.k3, .slice h.ta s.timers.length h.tc, .int .i64 s.clock, .int .i64 s.procs] 47) = w1 := ⟨_, rfl⟩
  have HX1 : Hid (Ext w w1) := Lib.hid (by rw [← hw1]; exact (Ext.refl w).alloc _)
  have HB1 : Hid (w1.heap[w.heap.size]? = some (.cells (stC h s) 47 (0, 0))) := Lib.hid (by rw [← hw1]; exact blk_new w _)
  have HK1 := Lib.hid (hk.ext HX1.out)
  have HW1 := Lib.hid hw1
  clear hw1 hk
  clear hf
  have q2 := st2 HB1.out
  unfold stV
  go_enter Try.func64, Try.ntmps64
  go_upto_region 1 with fail
  rw [HW1.out]
  generalize Value.agg #[.slice h.pa s.prog.length h.pc, .slice h.ga s.gs.length h.gc, .slice h.qa s.ps.length h.qc, .slice h.ma s.ms.length h.mc, .slice h.la s.glob.length h.lc, .int .i64 s.c0, .int .i64 s.c1, .int .i64 s.c2, .int .i64 s.c3, .slice h.a0 s.w0.length h.k0, .slice h.a1 s.w1.length h.k1, .slice h.a2 s.w2.length h.k2, .slice h.a3 s.w3.length h.k3, .slice h.ta s.timers.length h.tc, .int .i64 s.clock, .int .i64 s.procs] = sv0
  go_wp2_with fail
  clear q2
  obtain ⟨qa, hqa⟩ : ∃ qa, h.qa = qa := ⟨_, rfl⟩
  have HQA := Lib.hid hqa
  rw [hqa]
  clear hqa
  go_loopw [8] (fun iv wr => ∃ k : Nat, k ≤ s.ps.length ∧ iv = .int .i64 k ∧ (∀ (j : Nat) g, s.ps[j]? = some g → j < k → s.holdP j g = true) ∧ Ext w1 wr) (fun iv _ => s.ps.length - (intOf iv).toNat)
  case atStart => exact ⟨0, by omega, rfl, fun j l _ h => by omega, Ext.refl _⟩
  case round =>
    obtain ⟨k, hk, rfl, hall, hx⟩ := hrel
    have HALL := Lib.hid hall
    have HX := Lib.hid hx
    clear hall hx
    by_cases hlt : k < s.ps.length
    · obtain ⟨p, hp⟩ : ∃ p, s.ps[k]? = some p := ⟨_, List.getElem?_eq_getElem hlt⟩
      have HST : Hid (s.holdP k p = false → allIx s.holdP 0 s.ps = false) := Lib.hid fun h => allIx_no hp h
      obtain ⟨m, nx, r, sq⟩ := p
      obtain ⟨b0, b1, b2, b3, b4, b5, b6, b7, hd, nn, rfl⟩ := Ri.open8 (HK.out.buf _ (List.mem_of_getElem? hp))
      have HG := Lib.hid hp
      obtain ⟨b, o, hA, hb, hc⟩ := ps_get (HK1.out.ext HX.out).ps hp
      rw [HQA.out] at hA
      subst hA
      obtain ⟨⟨p0, p1, p2, p3, p4, p5, p6⟩, p7, p8, p9, p10, p11, p12⟩ := hc
      obtain ⟨w3, hw3⟩ : ∃ w3, wr.alloc (.cells #[.int .i64 m, .int .i64 nx, .int .i64 b0, .int .i64 b1, .int .i64 b2, .int .i64 b3, .int .i64 b4, .int .i64 b5, .int .i64 b6, .int .i64 b7, .int .i64 hd, .int .i64 nn, .int .i64 sq] 77) = w3 := ⟨_, rfl⟩
      have HW3 := Lib.hid hw3
      have HX3 : Hid (Ext w1 w3) := Lib.hid (by rw [← hw3]; exact HX.out.alloc _)
      have HQ3 : Hid (w3.heap[wr.heap.size]? = some (.cells #[.int .i64 m, .int .i64 nx, .int .i64 b0, .int .i64 b1, .int .i64 b2, .int .i64 b3, .int .i64 b4, .int .i64 b5, .int .i64 b6, .int .i64 b7, .int .i64 hd, .int .i64 nn, .int .i64 sq] 77 (0, 0))) := Lib.hid (by rw [← hw3]; exact blk_new wr _)
      obtain ⟨mr, hmr⟩ : ∃ mr, Ri.may ⟨[b0, b1, b2, b3, b4, b5, b6, b7], hd, nn⟩ = mr := ⟨_, rfl⟩
      have HMR := Lib.hid hmr
      have HRM := Lib.hid (rmay_eq b0 b1 b2 b3 b4 b5 b6 b7 hd nn mr hmr w3)
      clear hp hb hw3 hmr
      go_upto_region 4 with fail
      rw [HW3.out]
      clear p0 p1 p2 p3 p4 p5 p6 p7 p8 p9 p10 p11 p12
      obtain ⟨⟨p0, p1, p2, p3, p4, p5, p6⟩, p7, p8, p9, p10, p11, p12⟩ := cells13 HQ3.out
      go_wp2_with fail
      refine HRM.out.mono ?_
      rintro e w4 ⟨rfl, hx4⟩
      have HX4 := Lib.hid (HX3.out.trans hx4)
      have HQ4 := Lib.hid (hx4.blk HQ3.out)
      clear p0 p1 p2 p3 p4 p5 p6 p7 p8 p9 p10 p11 p12
      clear hx4
      have y3 := st3 (HX4.out.blk HB1.out)
      have y15 := st15 (HX4.out.blk HB1.out)
      have z0 := blk_cell HQ4.out 0 _ rfl
      have z1 := blk_cell HQ4.out 1 _ rfl
      have z11 := blk_cell HQ4.out 11 _ rfl
      have z12 := blk_cell HQ4.out 12 _ rfl
      cases mr with
      | false =>
        have HNO : Hid (allIx s.holdP 0 s.ps = false) := Lib.hid (HST.out (holdP_no1 HMR.out))
        go_wp2
        (go_ret; exact ⟨by rw [HNO.out] <;> rfl, HX1.out.trans HX4.out⟩)
      | true =>
      have HNN : Hid (0 ≤ nn) := Lib.hid (by
        have hi : Ri.inside ⟨[b0, b1, b2, b3, b4, b5, b6, b7], hd, nn⟩ = true := by have := HMR.out; unfold Ri.may at this; rw [Bool.and_eq_true] at this; exact this.1
        exact ((Ri.inside_iff _).1 hi).2.1)
      go_wp2_with fail
      refine (smayNumber_any sq _).mono ?_
      rintro e w' ⟨rfl, rfl⟩
      cases hlow : St.low sq with
      | false =>
        have HNO : Hid (allIx s.holdP 0 s.ps = false) := Lib.hid (HST.out (holdP_no2 hlow))
        go_wp2
        (go_ret; exact ⟨by rw [HNO.out] <;> rfl, HX1.out.trans HX4.out⟩)
      | true =>
      have HLOW := Lib.hid hlow
      clear hlow
      by_cases a0 : m = 0
      · subst a0
        by_cases d1 : (k : Int) < s.procs
        · have HYES : Hid (s.holdP k ⟨0, nx, ⟨[b0, b1, b2, b3, b4, b5, b6, b7], hd, nn⟩, sq⟩ = true) := Lib.hid (holdP_yes HMR.out HLOW.out (by simp) (fun h => by simp at h) (.inl d1))
          go_wp2
          go_roundw
          case rel =>
            refine ⟨k + 1, by omega, by go_num, fun i y hi hij => ?_, HX4.out⟩
            by_cases hij2 : i < k
            · exact HALL.out i y hi hij2
            · obtain rfl : i = k := by omega
              rw [← some_eq HG.out hi]
              exact HYES.out
          case measure => simp [intOf]; omega
        · by_cases d2 : nx = 0
          · subst d2
            by_cases d3 : nn = 0
            · have HYES : Hid (s.holdP k ⟨0, 0, ⟨[b0, b1, b2, b3, b4, b5, b6, b7], hd, nn⟩, sq⟩ = true) := Lib.hid (holdP_yes HMR.out HLOW.out (by simp) (fun h => by simp at h) (.inr ⟨rfl, rfl, by simp only; omega⟩))
              subst d3
              go_wp2
              go_roundw
              case rel =>
                refine ⟨k + 1, by omega, by go_num, fun i y hi hij => ?_, HX4.out⟩
                by_cases hij2 : i < k
                · exact HALL.out i y hi hij2
                · obtain rfl : i = k := by omega
                  rw [← some_eq HG.out hi]
                  exact HYES.out
              case measure => simp [intOf]; omega
            · have HNO : Hid (allIx s.holdP 0 s.ps = false) := Lib.hid (HST.out (holdP_no5 (by omega) (.inr (.inr (by have := HNN.out; simp only; omega)))))
              have d3' : (nn != 0) = true := by simpa using d3
              clear d3
              go_wp2
              (go_ret; exact ⟨by rw [HNO.out] <;> rfl, HX1.out.trans HX4.out⟩)
          · have HNO : Hid (allIx s.holdP 0 s.ps = false) := Lib.hid (HST.out (holdP_no5 (by omega) (.inr (.inl d2))))
            have d2' : (nx != 0) = true := by simpa using d2
            clear d2
            go_wp2
            (go_ret; exact ⟨by rw [HNO.out] <;> rfl, HX1.out.trans HX4.out⟩)
      · have a0' : (m != 0) = true := by simpa using a0
        have HA0 := Lib.hid a0
        clear a0
        go_wp2_with fail
        refine (swithin_any m 1 (s.ms.length : Int) _).mono ?_
        rintro e w' ⟨rfl, rfl⟩
        cases bb : wiB m 1 (s.ms.length : Int) with
        | false =>
          have HNO : Hid (allIx s.holdP 0 s.ps = false) := Lib.hid (HST.out (holdP_no3 (fun h => by
            have := HA0.out
            rw [wiB_iff.2 (show 1 ≤ m ∧ m ≤ (s.ms.length : Int) by have := h.1; have := h.2; simp only at *; omega)] at bb
            cases bb)))
          go_wp2
          (go_ret; exact ⟨by rw [HNO.out] <;> rfl, HX1.out.trans HX4.out⟩)
        | true =>
          obtain ⟨fb1, fb2⟩ := wiB_iff.1 bb
          obtain ⟨j, hj⟩ : ∃ j : Nat, m = (j : Int) + 1 := ⟨(m - 1).toNat, by omega⟩
          subst hj
          obtain ⟨x, hx⟩ : ∃ x, s.ms[j]? = some x := ⟨_, List.getElem?_eq_getElem (by omega)⟩
          obtain ⟨bm, om, hAm, hbm, c0, c1⟩ := frs2_get (HK1.out.ext HX4.out).ms hx
          have HMX : Hid ((s.ms.getD ((j : Int) + 1 - 1).toNat (0, 0)).1 = x.1) := Lib.hid (by
            rw [show ((j : Int) + 1 - 1).toNat = j by omega, List.getD, hx]; rfl)
          have HM3 : Hid (0 ≤ (j : Int) + 1 ∧ (j : Int) + 1 ≤ s.ms.length) := Lib.hid ⟨by omega, fb2⟩
          have e1 : (j : Int) + 1 - 1 = (j : Int) := by omega
          have e4 : (j : Int) < (s.ms.length : Int) := by omega
          obtain ⟨xp, xg⟩ := x
          simp only at HMX c0
          clear hx hbm c1 fb1
          by_cases d0 : xp = (k : Int) + 1
          · subst d0
            by_cases d1 : (k : Int) < s.procs
            · have HYES : Hid (s.holdP k ⟨(j : Int) + 1, nx, ⟨[b0, b1, b2, b3, b4, b5, b6, b7], hd, nn⟩, sq⟩ = true) := Lib.hid (holdP_yes HMR.out HLOW.out HM3.out (fun _ => HMX.out) (.inl d1))
              go_wp2
              go_roundw
              case rel =>
                refine ⟨k + 1, by omega, by go_num, fun i y hi hij => ?_, HX4.out⟩
                by_cases hij2 : i < k
                · exact HALL.out i y hi hij2
                · obtain rfl : i = k := by omega
                  rw [← some_eq HG.out hi]
                  exact HYES.out
              case measure => simp [intOf]; omega
            · have HNO : Hid (allIx s.holdP 0 s.ps = false) := Lib.hid (HST.out (holdP_no5 (by omega) (.inl (by simp only; omega))))
              go_wp2
              (go_ret; exact ⟨by rw [HNO.out] <;> rfl, HX1.out.trans HX4.out⟩)
          · have HNO : Hid (allIx s.holdP 0 s.ps = false) := Lib.hid (HST.out (holdP_no4 (fun h => d0 (by have := h (by simp only; omega); simp only [HMX.out] at this; exact this))))
            have d0' : (xp != (k : Int) + 1) = true := by simpa using d0
            clear d0
            go_wp2
            (go_ret; exact ⟨by rw [HNO.out] <;> rfl, HX1.out.trans HX4.out⟩)
    · obtain rfl : k = s.ps.length := by omega
      have HY : Hid (allIx s.holdP 0 s.ps = true) := Lib.hid (allIx_yes fun j l hj => HALL.out j l hj (List.getElem?_eq_some_iff.1 hj).1)
      go_wp2
      go_ret
      exact ⟨by rw [HY.out] <;> rfl, HX1.out.trans HX.out⟩
def closF (b : Nat) : Value := .func (.func 109) #[] #[.pointer (some ⟨b, 0, none⟩)]
def closL (b : Nat) : Value := .func (.func 110) #[] #[.pointer (some ⟨b, 0, none⟩)]
def ClosAt (w : World) (v : Value) (m : Int) : Prop := ∃ b, (v = closF b ∧ w.heap[b]? = some (.cells #[.int .i64 m] 3 (0, 0))) ∨ (v = closL b ∧ w.heap[b]? = some (.cells #[.int .i64 (m + 1)] 3 (0, 0)))
theorem ClosAt.ext {w w' : World} {v : Value} {m : Int} (h : ClosAt w v m) (hx : Ext w w') : ClosAt w' v m := by
  obtain ⟨b, h | h⟩ := h
  · exact ⟨b, .inl ⟨h.1, hx.blk h.2⟩⟩
  · exact ⟨b, .inr ⟨h.1, hx.blk h.2⟩⟩
set_option maxHeartbeats 1000000 in
theorem closF_any (b : Nat) (m : Int) (w : World) (h : w.heap[b]? = some (.cells #[.int .i64 m] 3 (0, 0))) : Calls Try.prog 109 #[.pointer (some ⟨b, 0, none⟩)] w fun e w' => e = .returned (.int .i64 m) ∧ w' = w := by
  have c := blk_cell h 0 _ rfl
  clear h
  go_enter Try.func109, Try.ntmps109
  go_wp2
  go_ret
  exact ⟨rfl, rfl⟩
set_option maxHeartbeats 1000000 in
theorem closL_any (b : Nat) (m : Int) (w : World) (h : w.heap[b]? = some (.cells #[.int .i64 (m + 1)] 3 (0, 0))) (h0 : -10 ≤ m ∧ m ≤ 1000000) : Calls Try.prog 110 #[.pointer (some ⟨b, 0, none⟩)] w fun e w' => e = .returned (.int .i64 m) ∧ w' = w := by
  have c := blk_cell h 0 _ rfl
  have e1 : m + 1 - 1 = m := by omega
  obtain ⟨h1, h2⟩ := h0
  clear h
  go_enter Try.func110, Try.ntmps110
  go_wp2
  go_ret
  exact ⟨rfl, rfl⟩
set_option maxHeartbeats 1000000 in
theorem fixed_any (m : Int) (w : World) : Calls Try.prog 108 #[.int .i64 m] w fun e w' => e = .returned (closF w.heap.size) ∧ w' = w.alloc (.cells #[.int .i64 m] 3) := by
  go_enter Try.func108, Try.ntmps108
  go_wp2
  go_ret
  exact ⟨rfl, rfl⟩
set_option maxHeartbeats 2000000 in
theorem shmay_any (nm : ByteArray) (nb : Bool) (cv : Value) (m a : Int) (w : World) (h : ClosAt w cv m) (h0 : -10 ≤ m ∧ m ≤ 1000000) (r : Bool) (hr : decide (0 ≤ a ∧ a ≤ m) = r) : Calls Try.prog 101 #[.agg #[.string nm, .bool nb, cv], .int .i64 a] w fun e w' => e = .returned (.bool r) ∧ Ext w w' := by
  obtain ⟨b, h | h⟩ := h
  · obtain ⟨rfl, hb⟩ := h
    unfold closF
    obtain ⟨w1, hw1⟩ : ∃ w1, w.alloc (.cells #[.string nm, .bool nb, .func (.func 109) #[] #[.pointer (some ⟨b, 0, none⟩)]] 139) = w1 := ⟨_, rfl⟩
    have HX1 : Hid (Ext w w1) := Lib.hid (by rw [← hw1]; exact (Ext.refl w).alloc _)
    have hq : w1.heap[w.heap.size]? = some (.cells #[.string nm, .bool nb, .func (.func 109) #[] #[.pointer (some ⟨b, 0, none⟩)]] 139 (0, 0)) := by rw [← hw1]; exact blk_new w _
    have HC := Lib.hid (closF_any b m w1 (HX1.out.blk hb))
    have HW1 := Lib.hid hw1
    have q2 := blk_cell hq 2 _ rfl
    clear hb hq hw1
    by_cases a0 : a < 0
    · obtain rfl : r = false := by rw [← hr, decide_eq_false (by omega)]
      clear hr
      go_enter Try.func101, Try.ntmps101
      go_wp2_with (rw [HW1.out])
      go_ret
      exact ⟨rfl, HX1.out⟩
    · have a0' : 0 ≤ a := by omega
      clear a0
      by_cases a1 : a ≤ m
      · obtain rfl : r = true := by rw [← hr, decide_eq_true (by omega)]
        clear hr
        go_enter Try.func101, Try.ntmps101
        go_wp2_with (rw [HW1.out])
        refine HC.out.mono ?_
        rintro e w' ⟨rfl, rfl⟩
        go_wp2
        go_ret
        exact ⟨rfl, HX1.out⟩
      · obtain rfl : r = false := by rw [← hr, decide_eq_false (by omega)]
        clear hr
        have a1' : decide (a ≤ m) = false := by simpa using a1
        clear a1
        go_enter Try.func101, Try.ntmps101
        go_wp2_with (rw [HW1.out])
        refine HC.out.mono ?_
        rintro e w' ⟨rfl, rfl⟩
        go_wp2
        go_ret
        exact ⟨rfl, HX1.out⟩
  · obtain ⟨rfl, hb⟩ := h
    unfold closL
    obtain ⟨w1, hw1⟩ : ∃ w1, w.alloc (.cells #[.string nm, .bool nb, .func (.func 110) #[] #[.pointer (some ⟨b, 0, none⟩)]] 139) = w1 := ⟨_, rfl⟩
    have HX1 : Hid (Ext w w1) := Lib.hid (by rw [← hw1]; exact (Ext.refl w).alloc _)
    have hq : w1.heap[w.heap.size]? = some (.cells #[.string nm, .bool nb, .func (.func 110) #[] #[.pointer (some ⟨b, 0, none⟩)]] 139 (0, 0)) := by rw [← hw1]; exact blk_new w _
    have HC := Lib.hid (closL_any b m w1 (HX1.out.blk hb) h0)
    have HW1 := Lib.hid hw1
    have q2 := blk_cell hq 2 _ rfl
    clear hb hq hw1
    by_cases a0 : a < 0
    · obtain rfl : r = false := by rw [← hr, decide_eq_false (by omega)]
      clear hr
      go_enter Try.func101, Try.ntmps101
      go_wp2_with (rw [HW1.out])
      go_ret
      exact ⟨rfl, HX1.out⟩
    · have a0' : 0 ≤ a := by omega
      clear a0
      by_cases a1 : a ≤ m
      · obtain rfl : r = true := by rw [← hr, decide_eq_true (by omega)]
        clear hr
        go_enter Try.func101, Try.ntmps101
        go_wp2_with (rw [HW1.out])
        refine HC.out.mono ?_
        rintro e w' ⟨rfl, rfl⟩
        go_wp2
        go_ret
        exact ⟨rfl, HX1.out⟩
      · obtain rfl : r = false := by rw [← hr, decide_eq_false (by omega)]
        clear hr
        have a1' : decide (a ≤ m) = false := by simpa using a1
        clear a1
        go_enter Try.func101, Try.ntmps101
        go_wp2_with (rw [HW1.out])
        refine HC.out.mono ?_
        rintro e w' ⟨rfl, rfl⟩
        go_wp2
        go_ret
        exact ⟨rfl, HX1.out⟩
def ShapesOk (w : World) (cs : Array Value) (n : Int) : Prop := cs.size = 21 ∧ ∀ d : Nat, d < 7 → ∃ nm nb cv, cs[d * 3]? = some (.string nm) ∧ cs[d * 3 + 1]? = some (.bool nb) ∧ cs[d * 3 + 2]? = some cv ∧ ClosAt w cv (Pg.most n d)
theorem ShapesOk.ext {w w' : World} {cs : Array Value} {n : Int} (h : ShapesOk w cs n) (hx : Ext w w') : ShapesOk w' cs n := by
  refine ⟨h.1, fun d hd => ?_⟩
  obtain ⟨nm, nb, cv, h1, h2, h3, h4⟩ := h.2 d hd
  exact ⟨nm, nb, cv, h1, h2, h3, h4.ext hx⟩
def ShapesP (n : Int) (w : World) (e : Ending) (w' : World) : Prop := ∃ cs, e = .returned (.agg cs) ∧ ShapesOk w' cs n ∧ Ext w w'
set_option maxRecDepth 100000 in
set_option maxHeartbeats 8000000 in
theorem shapes_any (n : Int) (w : World) (hn : 0 ≤ n ∧ n ≤ 100000) : Calls Try.prog 100 #[.int .i64 n] w (ShapesP n w) := by
  obtain ⟨w1, hw1⟩ : ∃ w1, w.alloc (.cells #[.int .i64 n] 3) = w1 := ⟨_, rfl⟩
  obtain ⟨w2, hw2⟩ : ∃ w2, w1.alloc (.cells #[.string ⟨#[]⟩, .bool false, .nilFunc, .string ⟨#[]⟩, .bool false, .nilFunc, .string ⟨#[]⟩, .bool false, .nilFunc, .string ⟨#[]⟩, .bool false, .nilFunc, .string ⟨#[]⟩, .bool false, .nilFunc, .string ⟨#[]⟩, .bool false, .nilFunc, .string ⟨#[]⟩, .bool false, .nilFunc] 140) = w2 := ⟨_, rfl⟩
  have HX1 : Hid (Ext w w1) := Lib.hid (by rw [← hw1]; exact (Ext.refl w).alloc _)
  have HX2 : Hid (Ext w1 w2) := Lib.hid (by rw [← hw2]; exact (Ext.refl w1).alloc _)
  have HN1 : Hid (w1.heap[w.heap.size]? = some (.cells #[.int .i64 n] 3 (0, 0))) := Lib.hid (by rw [← hw1]; exact blk_new w _)
  have HB2 : Hid (w2.heap[w1.heap.size]? = some (.cells #[.string ⟨#[]⟩, .bool false, .nilFunc, .string ⟨#[]⟩, .bool false, .nilFunc, .string ⟨#[]⟩, .bool false, .nilFunc, .string ⟨#[]⟩, .bool false, .nilFunc, .string ⟨#[]⟩, .bool false, .nilFunc, .string ⟨#[]⟩, .bool false, .nilFunc, .string ⟨#[]⟩, .bool false, .nilFunc] 140 (0, 0))) := Lib.hid (by rw [← hw2]; exact blk_new w1 _)
  have HW1 := Lib.hid hw1
  have HW2 := Lib.hid hw2
  have HNN := Lib.hid hn
  clear hw1 hw2 hn
  go_enter Try.func100, Try.ntmps100
  go_wp2_with (first | rw [HW1.out] | rw [HW2.out])
  refine (fixed_any 0 w2).mono ?_
  rintro e w3 ⟨rfl, hw3⟩
  have HX3 : Hid (Ext w2 w3) := Lib.hid (by rw [hw3]; exact (Ext.refl w2).alloc _)
  have HC3 : Hid (w3.heap[w2.heap.size]? = some (.cells #[.int .i64 0] 3 (0, 0))) := Lib.hid (by rw [hw3]; exact blk_new w2 _)
  clear hw3
  unfold closF
  go_wp2_with fail
  refine (fixed_any 0 w3).mono ?_
  rintro e w4 ⟨rfl, hw4⟩
  have HX4 : Hid (Ext w3 w4) := Lib.hid (by rw [hw4]; exact (Ext.refl w3).alloc _)
  have HC4 : Hid (w4.heap[w3.heap.size]? = some (.cells #[.int .i64 0] 3 (0, 0))) := Lib.hid (by rw [hw4]; exact blk_new w3 _)
  clear hw4
  unfold closF
  go_wp2_with fail
  refine (fixed_any 3 w4).mono ?_
  rintro e w5 ⟨rfl, hw5⟩
  have HX5 : Hid (Ext w4 w5) := Lib.hid (by rw [hw5]; exact (Ext.refl w4).alloc _)
  have HC5 : Hid (w5.heap[w4.heap.size]? = some (.cells #[.int .i64 3] 3 (0, 0))) := Lib.hid (by rw [hw5]; exact blk_new w4 _)
  clear hw5
  unfold closF
  go_wp2_with fail
  refine (fixed_any 3 w5).mono ?_
  rintro e w6 ⟨rfl, hw6⟩
  have HX6 : Hid (Ext w5 w6) := Lib.hid (by rw [hw6]; exact (Ext.refl w5).alloc _)
  have HC6 : Hid (w6.heap[w5.heap.size]? = some (.cells #[.int .i64 3] 3 (0, 0))) := Lib.hid (by rw [hw6]; exact blk_new w5 _)
  clear hw6
  unfold closF
  go_wp2_with fail
  refine (fixed_any 0 w6).mono ?_
  rintro e w7 ⟨rfl, hw7⟩
  have HX7 : Hid (Ext w6 w7) := Lib.hid (by rw [hw7]; exact (Ext.refl w6).alloc _)
  have HC7 : Hid (w7.heap[w6.heap.size]? = some (.cells #[.int .i64 0] 3 (0, 0))) := Lib.hid (by rw [hw7]; exact blk_new w6 _)
  clear hw7
  unfold closF
  go_wp2_with fail
  refine (fixed_any 1000 w7).mono ?_
  rintro e w8 ⟨rfl, hw8⟩
  have HX8 : Hid (Ext w7 w8) := Lib.hid (by rw [hw8]; exact (Ext.refl w7).alloc _)
  have HC8 : Hid (w8.heap[w7.heap.size]? = some (.cells #[.int .i64 1000] 3 (0, 0))) := Lib.hid (by rw [hw8]; exact blk_new w7 _)
  clear hw8
  unfold closF
  have HXL : Hid (Ext w2 w8) := Lib.hid (((((HX3.out.trans HX4.out).trans HX5.out).trans HX6.out).trans HX7.out).trans HX8.out)
  have HBL := Lib.hid (HXL.out.blk HB2.out)
  obtain ⟨w9, hw9⟩ : ∃ w9, w8.setCells w1.heap.size 0 [.string ⟨#[119, 111, 114, 107]⟩, .bool false, .func (.func 109) #[] #[.pointer (some ⟨w2.heap.size, 0, none⟩)], .string ⟨#[115, 112, 97, 119, 110]⟩, .bool true, .func (.func 110) #[] #[.pointer (some ⟨w.heap.size, 0, none⟩)], .string ⟨#[121, 105, 101, 108, 100]⟩, .bool false, .func (.func 109) #[] #[.pointer (some ⟨w3.heap.size, 0, none⟩)], .string ⟨#[97, 99, 113, 117, 105, 114, 101]⟩, .bool true, .func (.func 109) #[] #[.pointer (some ⟨w4.heap.size, 0, none⟩)], .string ⟨#[114, 101, 108, 101, 97, 115, 101]⟩, .bool true, .func (.func 109) #[] #[.pointer (some ⟨w5.heap.size, 0, none⟩)], .string ⟨#[115, 121, 115]⟩, .bool false, .func (.func 109) #[] #[.pointer (some ⟨w6.heap.size, 0, none⟩)], .string ⟨#[115, 108, 101, 101, 112]⟩, .bool true, .func (.func 109) #[] #[.pointer (some ⟨w7.heap.size, 0, none⟩)]] = w9 := ⟨_, rfl⟩
  have HW9 := Lib.hid hw9
  have HB9 : Hid (w9.heap[w1.heap.size]? = some (.cells #[.string ⟨#[119, 111, 114, 107]⟩, .bool false, .func (.func 109) #[] #[.pointer (some ⟨w2.heap.size, 0, none⟩)], .string ⟨#[115, 112, 97, 119, 110]⟩, .bool true, .func (.func 110) #[] #[.pointer (some ⟨w.heap.size, 0, none⟩)], .string ⟨#[121, 105, 101, 108, 100]⟩, .bool false, .func (.func 109) #[] #[.pointer (some ⟨w3.heap.size, 0, none⟩)], .string ⟨#[97, 99, 113, 117, 105, 114, 101]⟩, .bool true, .func (.func 109) #[] #[.pointer (some ⟨w4.heap.size, 0, none⟩)], .string ⟨#[114, 101, 108, 101, 97, 115, 101]⟩, .bool true, .func (.func 109) #[] #[.pointer (some ⟨w5.heap.size, 0, none⟩)], .string ⟨#[115, 121, 115]⟩, .bool false, .func (.func 109) #[] #[.pointer (some ⟨w6.heap.size, 0, none⟩)], .string ⟨#[115, 108, 101, 101, 112]⟩, .bool true, .func (.func 109) #[] #[.pointer (some ⟨w7.heap.size, 0, none⟩)]] 140 (0, 0))) := Lib.hid (by rw [← hw9]; exact setCells_at [.string ⟨#[]⟩, .bool false, .nilFunc, .string ⟨#[]⟩, .bool false, .nilFunc, .string ⟨#[]⟩, .bool false, .nilFunc, .string ⟨#[]⟩, .bool false, .nilFunc, .string ⟨#[]⟩, .bool false, .nilFunc, .string ⟨#[]⟩, .bool false, .nilFunc, .string ⟨#[]⟩, .bool false, .nilFunc] _ rfl HBL.out)
  have hu9 : Upd w1.heap.size w8 w9 := by rw [← hw9]; exact setCells_upd _ _ _ _
  have HX9 : Hid (Ext w1 w9) := Lib.hid ((HX2.out.trans HXL.out).upd hu9 (Nat.le_refl _))
  have HU9 := Lib.hid hu9
  have HTH : Hid (w8.there w1.heap.size 0 21) := Lib.hid (there_row HBL.out (Nat.le_refl 21))
  have HON : Hid (∀ u ∈ ([.string ⟨#[119, 111, 114, 107]⟩, .bool false, .func (.func 109) #[] #[.pointer (some ⟨w2.heap.size, 0, none⟩)], .string ⟨#[115, 112, 97, 119, 110]⟩, .bool true, .func (.func 110) #[] #[.pointer (some ⟨w.heap.size, 0, none⟩)], .string ⟨#[121, 105, 101, 108, 100]⟩, .bool false, .func (.func 109) #[] #[.pointer (some ⟨w3.heap.size, 0, none⟩)], .string ⟨#[97, 99, 113, 117, 105, 114, 101]⟩, .bool true, .func (.func 109) #[] #[.pointer (some ⟨w4.heap.size, 0, none⟩)], .string ⟨#[114, 101, 108, 101, 97, 115, 101]⟩, .bool true, .func (.func 109) #[] #[.pointer (some ⟨w5.heap.size, 0, none⟩)], .string ⟨#[115, 121, 115]⟩, .bool false, .func (.func 109) #[] #[.pointer (some ⟨w6.heap.size, 0, none⟩)], .string ⟨#[115, 108, 101, 101, 112]⟩, .bool true, .func (.func 109) #[] #[.pointer (some ⟨w7.heap.size, 0, none⟩)]] : List Value), u.oneCell' = true) := Lib.hid (by simp [Value.oneCell'])
  clear hw9 hu9
  rename_i K hK
  refine hK _ _ ?_
  refine wpList_plain rfl fun K2 hK2 => ?_
  go_simp
  refine hK2 _ _ ?_
  refine wpList_plain rfl fun K3 hK3 => ?_
  go_simp
  refine hK3 _ _ ?_
  refine wpList_store_row rfl 140 _ _ rfl w1.heap.size [.string ⟨#[119, 111, 114, 107]⟩, .bool false, .func (.func 109) #[] #[.pointer (some ⟨w2.heap.size, 0, none⟩)], .string ⟨#[115, 112, 97, 119, 110]⟩, .bool true, .func (.func 110) #[] #[.pointer (some ⟨w.heap.size, 0, none⟩)], .string ⟨#[121, 105, 101, 108, 100]⟩, .bool false, .func (.func 109) #[] #[.pointer (some ⟨w3.heap.size, 0, none⟩)], .string ⟨#[97, 99, 113, 117, 105, 114, 101]⟩, .bool true, .func (.func 109) #[] #[.pointer (some ⟨w4.heap.size, 0, none⟩)], .string ⟨#[114, 101, 108, 101, 97, 115, 101]⟩, .bool true, .func (.func 109) #[] #[.pointer (some ⟨w5.heap.size, 0, none⟩)], .string ⟨#[115, 121, 115]⟩, .bool false, .func (.func 109) #[] #[.pointer (some ⟨w6.heap.size, 0, none⟩)], .string ⟨#[115, 108, 101, 101, 112]⟩, .bool true, .func (.func 109) #[] #[.pointer (some ⟨w7.heap.size, 0, none⟩)]] _ ?_ ?_ rfl HTH.out (by kernel_rfl) HON.out HW9.out ?_
  · go_simp
  · go_simp
  go_wp2
  refine bodyPost_ret (v := .agg #[.string ⟨#[119, 111, 114, 107]⟩, .bool false, .func (.func 109) #[] #[.pointer (some ⟨w2.heap.size, 0, none⟩)], .string ⟨#[115, 112, 97, 119, 110]⟩, .bool true, .func (.func 110) #[] #[.pointer (some ⟨w.heap.size, 0, none⟩)], .string ⟨#[121, 105, 101, 108, 100]⟩, .bool false, .func (.func 109) #[] #[.pointer (some ⟨w3.heap.size, 0, none⟩)], .string ⟨#[97, 99, 113, 117, 105, 114, 101]⟩, .bool true, .func (.func 109) #[] #[.pointer (some ⟨w4.heap.size, 0, none⟩)], .string ⟨#[114, 101, 108, 101, 97, 115, 101]⟩, .bool true, .func (.func 109) #[] #[.pointer (some ⟨w5.heap.size, 0, none⟩)], .string ⟨#[115, 121, 115]⟩, .bool false, .func (.func 109) #[] #[.pointer (some ⟨w6.heap.size, 0, none⟩)], .string ⟨#[115, 108, 101, 101, 112]⟩, .bool true, .func (.func 109) #[] #[.pointer (some ⟨w7.heap.size, 0, none⟩)]]) (results_cell_row rfl _ _ w1.heap.size _ _ _ _ rfl HB9.out Try.underlying140 rfl (by kernel_rfl)) rfl ?_
  refine ⟨_, rfl, ⟨rfl, fun d hd => ?_⟩, HX1.out.trans HX9.out⟩
  have hz1 : w.heap.size < w1.heap.size := blk_lt HN1.out
  have hz2 : w1.heap.size < w2.heap.size := blk_lt HB2.out
  have hz3 := HX3.out.size
  have hz4 := HX4.out.size
  have hz5 := HX5.out.size
  have hz6 := HX6.out.size
  have hz7 := HX7.out.size
  have hz8 := HX8.out.size
  obtain rfl | rfl | rfl | rfl | rfl | rfl | rfl : d = 0 ∨ d = 1 ∨ d = 2 ∨ d = 3 ∨ d = 4 ∨ d = 5 ∨ d = 6 := by omega
  · exact ⟨_, _, _, rfl, rfl, rfl, ⟨w2.heap.size, .inl ⟨rfl, HU9.out.blk (((((HX4.out.trans HX5.out).trans HX6.out).trans HX7.out).trans HX8.out).blk HC3.out) (by omega)⟩⟩⟩
  · exact ⟨_, _, _, rfl, rfl, rfl, ⟨w.heap.size, .inr ⟨rfl, HU9.out.blk ((HX2.out.trans HXL.out).blk (by rw [show Pg.most n ((1 : Nat) : Int) + 1 = n by simp [Pg.most]]; exact HN1.out)) (by omega)⟩⟩⟩
  · exact ⟨_, _, _, rfl, rfl, rfl, ⟨w3.heap.size, .inl ⟨rfl, HU9.out.blk ((((HX5.out.trans HX6.out).trans HX7.out).trans HX8.out).blk HC4.out) (by omega)⟩⟩⟩
  · exact ⟨_, _, _, rfl, rfl, rfl, ⟨w4.heap.size, .inl ⟨rfl, HU9.out.blk (((HX6.out.trans HX7.out).trans HX8.out).blk HC5.out) (by omega)⟩⟩⟩
  · exact ⟨_, _, _, rfl, rfl, rfl, ⟨w5.heap.size, .inl ⟨rfl, HU9.out.blk ((HX7.out.trans HX8.out).blk HC6.out) (by omega)⟩⟩⟩
  · exact ⟨_, _, _, rfl, rfl, rfl, ⟨w6.heap.size, .inl ⟨rfl, HU9.out.blk (HX8.out.blk HC7.out) (by omega)⟩⟩⟩
  · exact ⟨_, _, _, rfl, rfl, rfl, ⟨w7.heap.size, .inl ⟨rfl, HU9.out.blk (HC8.out) (by omega)⟩⟩⟩
theorem shapes_one {w : World} {cs : Array Value} {n : Int} (h : ShapesOk w cs n) : ∀ u ∈ cs.toList, u.oneCell' = true := fun u hu => by
  obtain ⟨i, hi⟩ := List.mem_iff_getElem?.1 hu
  have hlt : i < 21 := by have := (List.getElem?_eq_some_iff.1 hi).1; have h2 := h.1; simp at this; omega
  obtain ⟨nm, nb, cv, g0, g1, g2, b, hcv⟩ := h.2 (i / 3) (by omega)
  have hi' : cs[i]? = some u := by simpa using hi
  obtain hr | hr | hr : i % 3 = 0 ∨ i % 3 = 1 ∨ i % 3 = 2 := by omega
  · rw [show i / 3 * 3 = i by omega, hi'] at g0
    injection g0 with g0
    subst g0
    rfl
  · rw [show i / 3 * 3 + 1 = i by omega, hi'] at g1
    injection g1 with g1
    subst g1
    rfl
  · rw [show i / 3 * 3 + 2 = i by omega, hi'] at g2
    injection g2 with g2
    subst g2
    rcases hcv with hcv | hcv
    · rw [hcv.1]; rfl
    · rw [hcv.1]; rfl
set_option maxRecDepth 100000 in
set_option maxHeartbeats 8000000 in
theorem pmay_any (v : Value) (p : List (List (Int × Int))) (r : Bool) (hr : Pg.may p = r) (w : World) (h : NestAt 2 pairL w v p) (h1 : p.length ≤ 100000) (h2 : ∀ l ∈ p, l.length ≤ 100000) :
    Calls Try.prog 85 #[v] w fun e w' => e = .returned (.bool r) ∧ Ext w w' := by
  subst hr
  have H := Lib.hid h
  have H2 := Lib.hid h2
  obtain ⟨A, c, rfl⟩ := h.form2
  clear h h2
  by_cases a1 : p = []
  · have HT : Hid (Pg.may p = false) := Lib.hid (by subst a1; rfl)
    subst a1
    simp only [List.length_nil] at *
    go_enter Try.func85, Try.ntmps85
    go_wp2
    go_ret
    exact ⟨by rw [HT.out] <;> rfl, Ext.refl _⟩
  have hpos := List.length_pos_iff.2 a1
  have a0' : ((p.length : Int) == 0) = false := by simp; omega
  by_cases a2 : 8 < p.length
  · have HT : Hid (Pg.may p = false) := Lib.hid (by unfold Pg.may; rw [decide_eq_false (by omega)]; rfl)
    have a2' : (8 : Int) < (p.length : Int) := by omega
    clear hpos
    go_enter Try.func85, Try.ntmps85
    go_wp2
    go_ret
    exact ⟨by rw [HT.out] <;> rfl, Ext.refl _⟩
  have a1' : (1 : Int) ≤ (p.length : Int) := by omega
  have a2' : (p.length : Int) ≤ 8 := by omega
  have HST : Hid (∀ (j : Nat) l, p[j]? = some l → Pg.okC p.length l = false → Pg.may p = false) := Lib.hid fun j l hj hl => by
    unfold Pg.may; rw [all_no hj hl, Bool.and_false]
  have HOK : Hid ((∀ (j : Nat) l, p[j]? = some l → Pg.okC p.length l = true) → Pg.may p = true) := Lib.hid fun h => by
    unfold Pg.may; rw [all_yes h, decide_eq_true (by omega)]; rfl
  clear a2 hpos
  go_enter Try.func85, Try.ntmps85
  go_wp2_with fail
  refine (shapes_any p.length w ⟨by omega, by omega⟩).mono ?_
  rintro e ws ⟨cs, rfl, hsh, hxs⟩
  obtain ⟨wy, hwy⟩ : ∃ wy, ws.alloc (.cells #[.string ⟨#[]⟩, .bool false, .nilFunc, .string ⟨#[]⟩, .bool false, .nilFunc, .string ⟨#[]⟩, .bool false, .nilFunc, .string ⟨#[]⟩, .bool false, .nilFunc, .string ⟨#[]⟩, .bool false, .nilFunc, .string ⟨#[]⟩, .bool false, .nilFunc, .string ⟨#[]⟩, .bool false, .nilFunc] 140) = wy := ⟨_, rfl⟩
  have hyb : wy.heap[ws.heap.size]? = some (.cells #[.string ⟨#[]⟩, .bool false, .nilFunc, .string ⟨#[]⟩, .bool false, .nilFunc, .string ⟨#[]⟩, .bool false, .nilFunc, .string ⟨#[]⟩, .bool false, .nilFunc, .string ⟨#[]⟩, .bool false, .nilFunc, .string ⟨#[]⟩, .bool false, .nilFunc, .string ⟨#[]⟩, .bool false, .nilFunc] 140 (0, 0)) := by rw [← hwy]; exact blk_new ws _
  obtain ⟨wz, hwz⟩ : ∃ wz, wy.setCells ws.heap.size 0 cs.toList = wz := ⟨_, rfl⟩
  have hc21 : cs.toList.length = 21 := by simpa using hsh.1
  have hxy : Ext w wy := by rw [← hwy]; exact hxs.alloc _
  have HX0 : Hid (Ext w wz) := Lib.hid (by rw [← hwz]; exact hxy.upd (setCells_upd _ _ _ _) hxs.size)
  have HSB : Hid (wz.heap[ws.heap.size]? = some (.cells cs 140 (0, 0))) := Lib.hid (by
    rw [← hwz]
    have := setCells_at [.string ⟨#[]⟩, .bool false, .nilFunc, .string ⟨#[]⟩, .bool false, .nilFunc, .string ⟨#[]⟩, .bool false, .nilFunc, .string ⟨#[]⟩, .bool false, .nilFunc, .string ⟨#[]⟩, .bool false, .nilFunc, .string ⟨#[]⟩, .bool false, .nilFunc, .string ⟨#[]⟩, .bool false, .nilFunc] cs.toList (by rw [hc21]; rfl) hyb
    simpa using this)
  have HSH : Hid (ShapesOk wz cs p.length) := Lib.hid (by
    refine hsh.ext ?_
    rw [← hwz, ← hwy]
    exact ((Ext.refl ws).alloc _).upd (setCells_upd _ _ _ _) (Nat.le_refl _))
  have HTH : Hid (wy.there ws.heap.size 0 cs.toList.length) := Lib.hid (there_row hyb (by rw [hc21]; exact Nat.le_refl 21))
  have HIN0 : Hid ((Try.prog.info? 140).map (·.size) = some cs.toList.length) := Lib.hid (by rw [hc21]; kernel_rfl)
  have HONE := Lib.hid (shapes_one hsh)
  have HWY := Lib.hid hwy
  have HWZ := Lib.hid hwz
  clear hsh hxs hwz hwy hyb hc21 hxy
  rename_i K hK
  refine hK _ _ ?_
  refine wpList_plain rfl fun K2 hK2 => ?_
  go_simp
  rw [HWY.out]
  refine hK2 _ _ ?_
  refine wpList_store_row rfl 140 _ _ rfl ws.heap.size cs.toList (.agg cs) ?_ ?_ (by simp) HTH.out HIN0.out HONE.out HWZ.out ?_
  · go_simp
  · go_simp
  go_wp2_with fail
  go_loopw [21] (fun iv wr => ∃ k : Nat, k ≤ p.length ∧ iv = .int .i64 k ∧ (∀ (j : Nat) l, p[j]? = some l → j < k → Pg.okC p.length l = true) ∧ Ext wz wr) (fun iv _ => p.length - (intOf iv).toNat)
  case atStart => exact ⟨0, by omega, rfl, fun j l _ h => by omega, Ext.refl _⟩
  case round =>
    obtain ⟨k, hk, rfl, hall, hx⟩ := hrel
    have HALL := Lib.hid hall
    have HX := Lib.hid hx
    clear hall hx
    by_cases hlt : k < p.length
    · obtain ⟨l, hl⟩ : ∃ l, p[k]? = some l := ⟨_, List.getElem?_eq_getElem hlt⟩
      have hl2 := H2.out l (List.mem_of_getElem? hl)
      obtain ⟨b, o, B, d, rfl, hb, hcu, hrow⟩ := H.out.get hl
      have HCU := Lib.hid hcu
      have HB := Lib.hid hb
      have HR := Lib.hid hrow
      have HL := Lib.hid hl
      clear hl hb hcu hrow
      have c0 : wr.cell? ⟨b, o + k, none⟩ = some (.slice B l.length d) := (Below.cell (HX0.out.trans HX.out) HB.out).trans HCU.out
      by_cases b1 : 20 < l.length
      · have HT : Hid (Pg.may p = false) := Lib.hid (HST.out k l HL.out (by unfold Pg.okC; rw [decide_eq_false (by omega)]; rfl))
        have b1' : (20 : Int) < (l.length : Int) := by omega
        go_wp2
        go_ret
        rw [HT.out]
        exact ⟨rfl, HX0.out.trans HX.out⟩
      have b1' : (l.length : Int) ≤ 20 := by omega
      have HNI : Hid (∀ (j : Nat) x, l[j]? = some x → Pg.okI p.length x = false → Pg.may p = false) := Lib.hid fun j x hj hx => HST.out k l HL.out (by unfold Pg.okC; rw [all_no hj hx, Bool.and_false])
      have HYI : Hid ((∀ (j : Nat) x, l[j]? = some x → Pg.okI p.length x = true) → Pg.okC p.length l = true) := Lib.hid fun h => by unfold Pg.okC; rw [all_yes h, decide_eq_true (by omega)]; rfl
      obtain ⟨wo, rfl⟩ : ∃ wo, wo = wr := ⟨_, rfl⟩
      go_wp2_with fail
      clear c0
      go_loopw [30] (fun iv wr => ∃ j : Nat, j ≤ l.length ∧ iv = .int .i64 j ∧ (∀ (i : Nat) x, l[i]? = some x → i < j → Pg.okI p.length x = true) ∧ Ext wz wr) (fun iv _ => l.length - (intOf iv).toNat)
      case atStart => exact ⟨0, by omega, rfl, fun j l _ h => by omega, HX.out⟩
      case round =>
        clear HX
        obtain ⟨j, hj, rfl, hin, hx⟩ := hrel
        have HIN := Lib.hid hin
        have HX := Lib.hid hx
        clear hin hx
        by_cases hlt2 : j < l.length
        · obtain ⟨x, hx⟩ : ∃ x, l[j]? = some x := ⟨_, List.getElem?_eq_getElem hlt2⟩
          obtain ⟨b3, o3, rfl, hb3, e0, e1⟩ := frs2_get (HR.out.ext (HX0.out.trans HX.out)) hx
          have HXX := Lib.hid hx
          obtain ⟨d, a⟩ := x
          simp only at e0 e1
          obtain ⟨w3, hw3⟩ : ∃ w3, wr.alloc (.cells #[.int .i64 d, .int .i64 a] 106) = w3 := ⟨_, rfl⟩
          have HW3 := Lib.hid hw3
          have HX3 : Hid (Ext wz w3) := Lib.hid (by rw [← hw3]; exact HX.out.alloc _)
          have hq : w3.heap[wr.heap.size]? = some (.cells #[.int .i64 d, .int .i64 a] 106 (0, 0)) := by rw [← hw3]; exact blk_new wr _
          have q0 := blk_cell hq 0 _ rfl
          have q1 := blk_cell hq 1 _ rfl
          clear hx hb3 hq hw3
          have HQI : Hid (w3.heap[wr.heap.size]? = some (.cells #[.int .i64 d, .int .i64 a] 106 (0, 0))) := Lib.hid (by rw [← HW3.out]; exact blk_new wr _)
          by_cases t1 : d < 0
          · have HNO : Hid (Pg.may p = false) := Lib.hid (HNI.out j _ HXX.out (by unfold Pg.okI; rw [decide_eq_false (by simp only; omega)]))
            go_upto_region 12 with fail
            rw [HW3.out]
            go_quiet (fail)
            go_wp2
            go_ret
            exact ⟨by rw [HNO.out] <;> rfl, HX0.out.trans (HX3.out.drewN _)⟩
          by_cases t2 : 7 ≤ d
          · have HNO : Hid (Pg.may p = false) := Lib.hid (HNI.out j _ HXX.out (by unfold Pg.okI; rw [decide_eq_false (by simp only; omega)]))
            go_upto_region 12 with fail
            rw [HW3.out]
            go_quiet (fail)
            go_wp2
            go_ret
            exact ⟨by rw [HNO.out] <;> rfl, HX0.out.trans (HX3.out.drewN _)⟩
          obtain ⟨dd, rfl⟩ : ∃ dd : Nat, d = dd := ⟨d.toNat, by omega⟩
          obtain ⟨nm, nb, cv, g0, g1, g2, hcv⟩ := HSH.out.2 dd (by omega)
          have HCV := Lib.hid hcv
          have HSC : Hid (∀ v, Ext wz v → v.cell? ⟨ws.heap.size, dd * 3, none⟩ = some (.string nm) ∧ v.cell? ⟨ws.heap.size, dd * 3 + 1, none⟩ = some (.bool nb) ∧ v.cell? ⟨ws.heap.size, dd * 3 + 2, none⟩ = some cv) := Lib.hid fun v hv => ⟨blk_cell (hv.blk HSB.out) _ _ g0, blk_cell (hv.blk HSB.out) _ _ g1, blk_cell (hv.blk HSB.out) _ _ g2⟩
          obtain ⟨r, hr⟩ : ∃ r, decide (0 ≤ a ∧ a ≤ Pg.most p.length dd) = r := ⟨_, rfl⟩
          have HR0 := Lib.hid hr
          have HMB : Hid (-10 ≤ Pg.most p.length dd ∧ Pg.most p.length dd ≤ 1000000) := Lib.hid (by
            unfold Pg.most
            split
            · omega
            · split
              · omega
              · split <;> omega)
          have HOKI : Hid (Pg.okI p.length ((dd : Int), a) = r) := Lib.hid (by
            unfold Pg.okI
            rw [← hr]
            congr 1
            simp only [eq_iff_iff]
            omega)
          have i0 : (0 : Int) ≤ (dd : Int) := by omega
          have i1 : (dd : Int) < 7 := by omega
          have j0 : ((dd : Int) < 0) = False := by first | (simp; done) | (simp; omega)
          have j1 : decide ((7 : Int) ≤ (dd : Int)) = false := by first | (simp; done) | (simp; omega)
          clear t1 t2 g0 g1 g2 hcv hr q0 q1
          go_upto_region 12 with fail
          rw [HW3.out]
          refine region_rgx ([(15, (fun u => u = .bool r : Value → Prop), (fun _ _ => True : (Nat → GV) → World → Prop))]) (w3) (by kernel_rfl) (by kernel_rfl) ?_ ?_ ?_
          · exact List.forall_mem_cons.2 ⟨⟨⟨_, rfl⟩, fun _ _ _ _ _ => trivial, fun _ _ _ _ _ => trivial⟩, List.forall_mem_nil _⟩
          · first | assumption | exact Ext.refl _
          refine rg_pure (v := ?_) rfl (by kernel_rfl) (by kernel_rfl) (fun w hS hN => ?_) ?_
          rotate_left 1
          · clear hN
            go_simp
            try simp only [j0, j1]
            refine givesP_mk ?_
            with_reducible rfl
          refine rg_pure (v := ?_) rfl (by kernel_rfl) (by kernel_rfl) (fun w hS hN => ?_) ?_
          rotate_left 1
          · have q0 := blk_cell (hS.blk HQI.out) 0 _ rfl
            clear hN
            go_simp
            try simp only [j0, j1]
            refine givesP_mk ?_
            with_reducible rfl
          refine rg_pure (v := ?_) rfl (by kernel_rfl) (by kernel_rfl) (fun w hS hN => ?_) ?_
          rotate_left 1
          · clear hN
            go_simp
            try simp only [j0, j1]
            refine givesP_mk ?_
            with_reducible rfl
          refine rg_pure (v := ?_) rfl (by kernel_rfl) (by kernel_rfl) (fun w hS hN => ?_) ?_
          rotate_left 1
          · clear hN
            go_simp
            try simp only [j0, j1]
            refine givesP_mk ?_
            with_reducible rfl
          refine rg_pure (v := ?_) rfl (by kernel_rfl) (by kernel_rfl) (fun w hS hN => ?_) ?_
          rotate_left 1
          · clear hN
            go_simp
            try simp only [j0, j1]
            refine givesP_mk ?_
            with_reducible rfl
          refine rg_pure (v := ?_) rfl (by kernel_rfl) (by kernel_rfl) (fun w hS hN => ?_) ?_
          rotate_left 1
          · have q0 := blk_cell (hS.blk HQI.out) 0 _ rfl
            clear hN
            go_simp
            try simp only [j0, j1]
            refine givesP_mk ?_
            with_reducible rfl
          refine rg_pure (v := ?_) rfl (by kernel_rfl) (by kernel_rfl) (fun w hS hN => ?_) ?_
          rotate_left 1
          · clear hN
            go_simp
            try simp only [j0, j1]
            refine givesP_mk ?_
            with_reducible rfl
          refine rg_pure (v := ?_) rfl (by kernel_rfl) (by kernel_rfl) (fun w hS hN => ?_) ?_
          rotate_left 1
          · clear hN
            go_simp
            try simp only [j0, j1]
            refine givesP_mk ?_
            with_reducible rfl
          refine rg_pure (v := ?_) rfl (by kernel_rfl) (by kernel_rfl) (fun w hS hN => ?_) ?_
          rotate_left 1
          · clear hN
            go_simp
            try simp only [j0, j1]
            refine givesP_mk ?_
            with_reducible rfl
          refine rg_pure (v := ?_) rfl (by kernel_rfl) (by kernel_rfl) (fun w hS hN => ?_) ?_
          rotate_left 1
          · clear hN
            go_simp
            try simp only [j0, j1]
            refine givesP_mk ?_
            with_reducible rfl
          refine rg_pure (v := ?_) rfl (by kernel_rfl) (by kernel_rfl) (fun w hS hN => ?_) ?_
          rotate_left 1
          · have q0 := blk_cell (hS.blk HQI.out) 0 _ rfl
            clear hN
            go_simp
            try simp only [j0, j1]
            refine givesP_mk ?_
            with_reducible rfl
          refine rg_pure (v := ?_) rfl (by kernel_rfl) (by kernel_rfl) (fun w hS hN => ?_) ?_
          rotate_left 1
          · clear hN
            go_simp
            try simp only [j0, j1]
            refine givesP_mk ?_
            with_reducible rfl
          refine rg_pure (v := ?_) rfl (by kernel_rfl) (by kernel_rfl) (fun w hS hN => ?_) ?_
          rotate_left 1
          · obtain ⟨x0, x1, x2⟩ := HSC.out w (HX3.out.trans hS)
            clear hN
            go_simp
            try simp only [j0, j1]
            refine givesP_mk ?_
            with_reducible rfl
          refine rg_pure (v := ?_) rfl (by kernel_rfl) (by kernel_rfl) (fun w hS hN => ?_) ?_
          rotate_left 1
          · clear hN
            go_simp
            try simp only [j0, j1]
            refine givesP_mk ?_
            with_reducible rfl
          refine rg_pure (v := ?_) rfl (by kernel_rfl) (by kernel_rfl) (fun w hS hN => ?_) ?_
          rotate_left 1
          · have q1 := blk_cell (hS.blk HQI.out) 1 _ rfl
            clear hN
            go_simp
            try simp only [j0, j1]
            refine givesP_mk ?_
            with_reducible rfl
          refine rg_mem (fun u => u = .bool r : Value → Prop) (fun _ _ => True : (Nat → GV) → World → Prop) (fun _ => Ext) rfl rfl rfl rfl (by kernel_rfl) (by kernel_rfl) (fun w hS hN R hR => ?_) ?_
          · have HR := Lib.hid hR
            clear hR
            (try clear hN)
            go_simp
            refine givesM_call ((shmay_any nm nb cv (Pg.most p.length dd) a w (HCV.out.ext (HX3.out.trans hS)) HMB.out r HR0.out).mono ?_)
            rintro e w' ⟨rfl, hx⟩
            exact ⟨_, rfl, HR.out _ _ rfl trivial hx⟩
          rintro u15 s15 t15 rfl
          refine rg_pure (v := ?_) rfl (by kernel_rfl) (by kernel_rfl) (fun w hS hN => ?_) ?_
          rotate_left 1
          · clear hN
            go_simp
            try simp only [j0, j1]
            refine givesP_mk ?_
            with_reducible rfl
          refine rg_pure (v := ?_) rfl (by kernel_rfl) (by kernel_rfl) (fun w hS hN => ?_) ?_
          rotate_left 1
          · clear hN
            go_simp
            try simp only [j0, j1]
            refine givesP_mk ?_
            with_reducible rfl
          refine rg_done rfl (Nat.le_of_ble_eq_true (by kernel_rfl)) ?_
          intro w8 hS hT
          have HX8 := Lib.hid (HX3.out.trans hS)
          clear hT hS
          go_simp
          cases r with
          | false =>
            have HNO : Hid (Pg.may p = false) := Lib.hid (HNI.out j _ HXX.out HOKI.out)
            go_wp2
            go_ret
            exact ⟨by rw [HNO.out] <;> rfl, HX0.out.trans HX8.out⟩
          | true =>
            go_wp2
            go_roundw
            case rel =>
              refine ⟨j + 1, by omega, by go_num, fun i y hi hij => ?_, HX8.out⟩
              by_cases hij2 : i < j
              · exact HIN.out i y hi hij2
              · obtain rfl : i = j := by omega
                rw [HXX.out] at hi
                injection hi with hi
                rw [← hi]
                exact HOKI.out
            case measure => simp [intOf]; omega
        · obtain rfl : j = l.length := by omega
          have HKC : Hid (Pg.okC p.length l = true) := Lib.hid (HYI.out fun i x hi => HIN.out i x hi (List.getElem?_eq_some_iff.1 hi).1)
          go_wp2
          go_roundw
          case rel =>
            refine ⟨k + 1, by omega, by go_num, fun i y hi hij => ?_, HX.out⟩
            by_cases hij2 : i < k
            · exact HALL.out i y hi hij2
            · obtain rfl : i = k := by omega
              rw [HL.out] at hi
              injection hi with hi
              rw [← hi]
              exact HKC.out
          case measure => simp [intOf]; omega
    · obtain rfl : k = p.length := by omega
      have HY : Hid (Pg.may p = true) := Lib.hid (HOK.out fun j l hj => HALL.out j l hj (List.getElem?_eq_some_iff.1 hj).1)
      go_wp2
      go_ret
      rw [HY.out]
      exact ⟨rfl, HX0.out.trans HX.out⟩
theorem whole_eq (s : St) : s.whole = (Pg.may s.prog && wiB s.gs.length 1 1000 && decide (s.ps.length = 8) && decide (s.ms.length ≤ 1000) && wiB s.procs 1 8 && St.low s.clock && decide (Sl.May s.timers)) := by
  unfold St.whole
  rw [Bool.eq_iff_iff]
  simp only [Bool.and_eq_true, decide_eq_true_eq, wiB_iff]
  constructor
  · rintro ⟨⟨⟨a, b1, b2, b3, b4, b5, b6⟩, c⟩, d⟩
    exact ⟨⟨⟨⟨⟨⟨a, by omega, by omega⟩, b3⟩, b6⟩, b4, b5⟩, c⟩, d⟩
  · rintro ⟨⟨⟨⟨⟨⟨a, b1, b2⟩, b3⟩, b6⟩, b4, b5⟩, c⟩, d⟩
    exact ⟨⟨⟨a, by omega, by omega, b3, b4, b5, b6⟩, c⟩, d⟩
def St.okAt (s : St) (j : Nat) : Prop := ∀ c l, s.cnts[j]? = some c → s.wts[j]? = some l → St.okCnt c l = true
theorem St.counts_no {s : St} {j : Nat} {c : Int} {l : List Int} (hc : s.cnts[j]? = some c) (hl : s.wts[j]? = some l) (h : St.okCnt c l = false) : s.counts = false := by
  have hj : j < 4 := by have := (List.getElem?_eq_some_iff.1 hc).1; simpa [St.cnts] using this
  unfold St.counts
  obtain rfl | rfl | rfl | rfl : j = 0 ∨ j = 1 ∨ j = 2 ∨ j = 3 := by omega
  · simp only [St.cnts, St.wts, List.getElem?_cons_zero, Option.some.injEq] at hc hl
    subst hc hl
    rw [h]; simp
  · simp only [St.cnts, St.wts, List.getElem?_cons_zero, List.getElem?_cons_succ, Option.some.injEq] at hc hl
    subst hc hl
    rw [h]; simp
  · simp only [St.cnts, St.wts, List.getElem?_cons_zero, List.getElem?_cons_succ, Option.some.injEq] at hc hl
    subst hc hl
    rw [h]; simp
  · simp only [St.cnts, St.wts, List.getElem?_cons_zero, List.getElem?_cons_succ, Option.some.injEq] at hc hl
    subst hc hl
    rw [h]; simp
theorem St.counts_yes {s : St} (h : ∀ j, j < 4 → s.okAt j) : s.counts = true := by
  unfold St.counts
  rw [h 0 (by omega) _ _ rfl rfl, h 1 (by omega) _ _ rfl rfl, h 2 (by omega) _ _ rfl rfl, h 3 (by omega) _ _ rfl rfl]
  rfl
set_option maxRecDepth 100000 in
set_option maxHeartbeats 16000000 in
theorem smayWhole_any (h : StH) (s : St) (r : Bool) (hr : (s.whole && s.counts) = r) (w : World) (hk : StOk w h s) (hf : StFew s) : Calls Try.prog 62 #[stV h s] w fun e w' => e = .returned (.bool r) ∧ Ext w w' := by
  subst hr
  have f1 := hf.ms
  have f2 := hf.ps
  have f3 := hf.gs
  have f4 := hf.prog.1
  have f5 := hf.timers
  have F2 := Lib.hid hf.w
  have HPM := Lib.hid hf.prog
  have HTN := Lib.hid hf.tnum
  have HK := Lib.hid hk
  obtain ⟨w1, hw1⟩ : ∃ w1, w.alloc (.cells #[.slice h.pa s.prog.length h.pc, .slice h.ga s.gs.length h.gc, .slice h.qa s.ps.length h.qc, .slice h.ma s.ms.length h.mc, .slice h.la s.glob.length h.lc, .int .i64 s.c0, .int .i64 s.c1, .int .i64 s.c2, .int .i64 s.c3, .slice h.a0 s.w0.length h.k0, .slice h.a1 s.w1.length h.k1, .slice h.a2 s.w2.length h.k2, .slice h.a3 s.w3.length h.k3, .slice h.ta s.timers.length h.tc, .int .i64 s.clock, .int .i64 s.procs] 47) = w1 := ⟨_, rfl⟩
  have HX1 : Hid (Ext w w1) := Lib.hid (by rw [← hw1]; exact (Ext.refl w).alloc _)
  have HB1 : Hid (w1.heap[w.heap.size]? = some (.cells (stC h s) 47 (0, 0))) := Lib.hid (by rw [← hw1]; exact blk_new w _)
  have HK1 := Lib.hid (hk.ext HX1.out)
  have HW1 := Lib.hid hw1
  clear hw1 hk
  clear hf
  have HWE := Lib.hid (whole_eq s)
  obtain ⟨bp, hbp⟩ : ∃ bp, Pg.may s.prog = bp := ⟨_, rfl⟩
  have HBP := Lib.hid hbp
  have HPC := Lib.hid (pmay_any _ s.prog bp hbp w1 HK1.out.prog HPM.out.1 HPM.out.2)
  rw [hbp] at HWE
  clear hbp
  have q0 := st0 HB1.out
  unfold stV
  go_enter Try.func62, Try.ntmps62
  go_upto_region 1 with fail
  rw [HW1.out]
  generalize Value.agg #[.slice h.pa s.prog.length h.pc, .slice h.ga s.gs.length h.gc, .slice h.qa s.ps.length h.qc, .slice h.ma s.ms.length h.mc, .slice h.la s.glob.length h.lc, .int .i64 s.c0, .int .i64 s.c1, .int .i64 s.c2, .int .i64 s.c3, .slice h.a0 s.w0.length h.k0, .slice h.a1 s.w1.length h.k1, .slice h.a2 s.w2.length h.k2, .slice h.a3 s.w3.length h.k3, .slice h.ta s.timers.length h.tc, .int .i64 s.clock, .int .i64 s.procs] = sv0
  go_wp2_with fail
  refine HPC.out.mono ?_
  rintro e w3 ⟨rfl, hx3⟩
  have HX3 := Lib.hid hx3
  clear hx3 q0
  have q1 := st1 (HX3.out.blk HB1.out)
  have q2 := st2 (HX3.out.blk HB1.out)
  have q3 := st3 (HX3.out.blk HB1.out)
  have q15 := st15 (HX3.out.blk HB1.out)
  have q14 := st14 (HX3.out.blk HB1.out)
  have q13 := st13 (HX3.out.blk HB1.out)
  cases bp with
  | false =>
    have HNO : Hid ((s.whole && s.counts) = false) := Lib.hid (by rw [HWE.out]; rfl)
    go_wp2
    (go_ret; exact ⟨by rw [HNO.out] <;> rfl, HX1.out.trans HX3.out⟩)
  | true =>
  cases bg : wiB s.gs.length 1 1000 with
  | false =>
    have HNO : Hid ((s.whole && s.counts) = false) := Lib.hid (by rw [HWE.out, bg]; rfl)
    go_wp2_with fail
    refine (swithin_any s.gs.length 1 1000 _).mono ?_
    rintro e w' ⟨rfl, rfl⟩
    go_wp2
    (go_ret; exact ⟨by rw [HNO.out] <;> rfl, HX1.out.trans HX3.out⟩)
  | true =>
  go_wp2_with fail
  refine (swithin_any s.gs.length 1 1000 _).mono ?_
  rintro e w' ⟨rfl, rfl⟩
  by_cases a2 : s.ps.length = 8
  · have a2' : ((s.ps.length : Int) != 8) = false := by simp; omega
    have A2 := Lib.hid a2
    clear a2
    by_cases a3 : s.ms.length ≤ 1000
    · have a3' : (s.ms.length : Int) ≤ 1000 := by omega
      have HWE2 : Hid (s.whole = (wiB s.procs 1 8 && St.low s.clock && decide (Sl.May s.timers))) := Lib.hid (by
        rw [HWE.out, bg, decide_eq_true A2.out, decide_eq_true a3]; rfl)
      clear a3
      cases b4 : wiB s.procs 1 8 with
      | false =>
        have HNO : Hid ((s.whole && s.counts) = false) := Lib.hid (by rw [HWE2.out, b4]; rfl)
        go_wp2_with fail
        refine (swithin_any s.procs 1 8 _).mono ?_
        rintro e w' ⟨rfl, rfl⟩
        go_wp2
        (go_ret; exact ⟨by rw [HNO.out] <;> rfl, HX1.out.trans HX3.out⟩)
      | true =>
      go_wp2_with fail
      refine (swithin_any s.procs 1 8 _).mono ?_
      rintro e w' ⟨rfl, rfl⟩
      cases b5 : St.low s.clock with
      | false =>
        have HNO : Hid ((s.whole && s.counts) = false) := Lib.hid (by rw [HWE2.out, b5, Bool.and_false]; rfl)
        go_wp2_with fail
        refine (smayNumber_any s.clock _).mono ?_
        rintro e w' ⟨rfl, rfl⟩
        go_wp2
        (go_ret; exact ⟨by rw [HNO.out] <;> rfl, HX1.out.trans HX3.out⟩)
      | true =>
      go_wp2_with fail
      refine (smayNumber_any s.clock _).mono ?_
      rintro e w' ⟨rfl, rfl⟩
      have HWE3 : Hid (s.whole = decide (Sl.May s.timers)) := Lib.hid (by rw [HWE2.out, b4, b5]; rfl)
      have HSM := Lib.hid (fun w (hx : Ext w1 w) => smay_any _ s.timers w (HK1.out.timers.ext hx) (by omega) HTN.out)
      obtain ⟨bt, hbt⟩ : ∃ bt, decide (Sl.May s.timers) = bt := ⟨_, rfl⟩
      rw [hbt] at HWE3 HSM
      clear hbt
      go_wp2_with fail
      refine (HSM.out _ HX3.out).mono ?_
      rintro e w4 ⟨rfl, hx4⟩
      have HX4 := Lib.hid (HX3.out.trans hx4)
      clear hx4 q1 q2 q3 q13 q14 q15
      cases bt with
      | false =>
        have HNO : Hid ((s.whole && s.counts) = false) := Lib.hid (by rw [HWE3.out]; rfl)
        go_wp2
        go_ret
        exact ⟨by rw [HNO.out] <;> rfl, HX1.out.trans HX4.out⟩
      | true =>
        have HCO : Hid ((s.whole && s.counts) = s.counts) := Lib.hid (by rw [HWE3.out, Bool.true_and])
        have q5 := st5 (HX4.out.blk HB1.out)
        have q6 := st6 (HX4.out.blk HB1.out)
        have q7 := st7 (HX4.out.blk HB1.out)
        have q8 := st8 (HX4.out.blk HB1.out)
        go_wp2_with fail
        clear q5 q6 q7 q8
        go_loopw [46] (fun iv wr => ∃ k : Nat, k ≤ 4 ∧ iv = .int .i64 k ∧ (∀ j, j < k → s.okAt j) ∧ Ext w1 wr) (fun iv _ => 4 - (intOf iv).toNat)
        case atStart => exact ⟨0, by omega, rfl, fun j h => by omega, HX4.out⟩
        case round =>
          clear HX4
          obtain ⟨k, hk, rfl, hall, hx⟩ := hrel
          have HALL := Lib.hid hall
          have HX4 := Lib.hid hx
          clear hall hx
          by_cases hlt : k < 4
          · obtain ⟨c, hc1, hc2⟩ := stC_cnt (h := h) (s := s) hlt
            obtain ⟨A0, d0, l, hcell, hI, hl⟩ := HK1.out.wait hlt
            have HNK : Hid (St.okCnt c l = false → s.counts = false) := Lib.hid (St.counts_no hc2 hl)
            have HYK : Hid (St.okCnt c l = true → s.okAt k) := Lib.hid fun h c' l' h1 h2 => by rw [hc2] at h1; rw [hl] at h2; injection h1 with h1; injection h2 with h2; subst h1 h2; exact h
            have q9 := blk_cell (HX4.out.blk HB1.out) (9 + k) _ hcell
            have hidx : ∀ w, (Instr.index 43 (.agg #[.int .i64 s.c0, .int .i64 s.c1, .int .i64 s.c2, .int .i64 s.c3]) (.int .i64 (k : Int))).run Try.prog w = .ok (.int .i64 c) w := fun w => by
              obtain rfl | rfl | rfl | rfl : k = 0 ∨ k = 1 ∨ k = 2 ∨ k = 3 := by omega
              · simp only [St.cnts, List.getElem?_cons_zero, Option.some.injEq] at hc2
                rw [← hc2]; kernel_rfl
              · simp only [St.cnts, List.getElem?_cons_zero, List.getElem?_cons_succ, Option.some.injEq] at hc2
                rw [← hc2]; kernel_rfl
              · simp only [St.cnts, List.getElem?_cons_zero, List.getElem?_cons_succ, Option.some.injEq] at hc2
                rw [← hc2]; kernel_rfl
              · simp only [St.cnts, List.getElem?_cons_zero, List.getElem?_cons_succ, Option.some.injEq] at hc2
                rw [← hc2]; kernel_rfl
            have hll := wts_few F2.out hl
            clear hc1 hc2 hl hI hcell
            go_wp2_with fail
            refine (swithin_any c 0 1000000 _).mono ?_
            rintro e w' ⟨rfl, rfl⟩
            cases bc : wiB c 0 1000000 with
            | false =>
              have HNO : Hid ((s.whole && s.counts) = false) := Lib.hid (by
                rw [HCO.out]
                refine HNK.out ?_
                unfold St.okCnt
                rw [decide_eq_false (fun h => by rw [wiB_iff.2 h] at bc; cases bc)]
                rfl)
              go_wp2
              go_ret
              exact ⟨by rw [HNO.out] <;> rfl, HX1.out.trans HX4.out⟩
            | true =>
              have HBC := Lib.hid (wiB_iff.1 bc)
              by_cases c0 : 0 < c
              · by_cases l0 : 0 < l.length
                · have HNO : Hid ((s.whole && s.counts) = false) := Lib.hid (by
                    rw [HCO.out]
                    refine HNK.out ?_
                    unfold St.okCnt
                    rw [decide_eq_true c0, decide_eq_true l0]
                    simp)
                  have l0' : (0 : Int) < (l.length : Int) := by omega
                  go_wp2
                  go_ret
                  exact ⟨by rw [HNO.out] <;> rfl, HX1.out.trans HX4.out⟩
                · have HOKK : Hid (s.okAt k) := Lib.hid (HYK.out (by
                    unfold St.okCnt
                    rw [decide_eq_true (show 0 ≤ c ∧ c ≤ 1000000 from HBC.out), decide_eq_false l0, Bool.and_false]; rfl))
                  obtain rfl : l = [] := by cases l with | nil => rfl | cons a b => simp at l0
                  simp only [List.length_nil] at *
                  go_wp2
                  go_roundw
                  case rel =>
                    refine ⟨k + 1, by omega, by go_num, fun j hj => ?_, HX4.out⟩
                    by_cases hjk : j < k
                    · exact HALL.out j hjk
                    · obtain rfl : j = k := by omega
                      exact HOKK.out
                  case measure => simp [intOf]; omega
              · have HOKK : Hid (s.okAt k) := Lib.hid (HYK.out (by
                  unfold St.okCnt
                  rw [decide_eq_true (show 0 ≤ c ∧ c ≤ 1000000 from HBC.out), decide_eq_false c0]; rfl))
                have c0' : decide (0 < c) = false := by simpa using c0
                clear c0
                go_wp2
                go_roundw
                case rel =>
                  refine ⟨k + 1, by omega, by go_num, fun j hj => ?_, HX4.out⟩
                  by_cases hjk : j < k
                  · exact HALL.out j hjk
                  · obtain rfl : j = k := by omega
                    exact HOKK.out
                case measure => simp [intOf]; omega
          · have HY : Hid ((s.whole && s.counts) = true) := Lib.hid (by rw [HCO.out]; exact St.counts_yes fun j hj => HALL.out j (by omega))
            go_wp2
            go_ret
            exact ⟨by rw [HY.out] <;> rfl, HX1.out.trans HX4.out⟩
    · have HNO : Hid ((s.whole && s.counts) = false) := Lib.hid (by rw [HWE.out, decide_eq_false a3]; simp)
      have a3' : (1000 : Int) < (s.ms.length : Int) := by omega
      go_wp2
      (go_ret; exact ⟨by rw [HNO.out] <;> rfl, HX1.out.trans HX3.out⟩)
  · have HNO : Hid ((s.whole && s.counts) = false) := Lib.hid (by rw [HWE.out, decide_eq_false a2]; simp)
    have a2' : ((s.ps.length : Int) != 8) = true := by simp; omega
    go_wp2
    (go_ret; exact ⟨by rw [HNO.out] <;> rfl, HX1.out.trans HX3.out⟩)
set_option maxRecDepth 100000 in
set_option maxHeartbeats 16000000 in
theorem sstmay_any (h : StH) (s : St) (r : Bool) (hr : s.may = r) (w : World) (hk : StOk w h s) (hf : StFew s) : Calls Try.prog 33 #[stV h s] w fun e w' => e = .returned (.bool r) ∧ Ext w w' := by
  subst hr
  have HF := Lib.hid hf
  have HK := Lib.hid hk
  obtain ⟨w1, hw1⟩ : ∃ w1, w.alloc (.cells #[.slice h.pa s.prog.length h.pc, .slice h.ga s.gs.length h.gc, .slice h.qa s.ps.length h.qc, .slice h.ma s.ms.length h.mc, .slice h.la s.glob.length h.lc, .int .i64 s.c0, .int .i64 s.c1, .int .i64 s.c2, .int .i64 s.c3, .slice h.a0 s.w0.length h.k0, .slice h.a1 s.w1.length h.k1, .slice h.a2 s.w2.length h.k2, .slice h.a3 s.w3.length h.k3, .slice h.ta s.timers.length h.tc, .int .i64 s.clock, .int .i64 s.procs] 47) = w1 := ⟨_, rfl⟩
  have HX1 : Hid (Ext w w1) := Lib.hid (by rw [← hw1]; exact (Ext.refl w).alloc _)
  have HB1 : Hid (w1.heap[w.heap.size]? = some (.cells (stC h s) 47 (0, 0))) := Lib.hid (by rw [← hw1]; exact blk_new w _)
  have HK1 := Lib.hid (hk.ext HX1.out)
  have HW1 := Lib.hid hw1
  clear hw1 hk
  clear hf
  have HE := Lib.hid s.may_eq
  have HLD := Lib.hid HB1.out
  unfold stV
  go_enter Try.func33, Try.ntmps33
  go_upto_region 1 with fail
  rw [HW1.out]
  generalize Value.agg #[.slice h.pa s.prog.length h.pc, .slice h.ga s.gs.length h.gc, .slice h.qa s.ps.length h.qc, .slice h.ma s.ms.length h.mc, .slice h.la s.glob.length h.lc, .int .i64 s.c0, .int .i64 s.c1, .int .i64 s.c2, .int .i64 s.c3, .slice h.a0 s.w0.length h.k0, .slice h.a1 s.w1.length h.k1, .slice h.a2 s.w2.length h.k2, .slice h.a3 s.w3.length h.k3, .slice h.ta s.timers.length h.tc, .int .i64 s.clock, .int .i64 s.procs] = sv0
  go_wp2_with (refine wpList_load_rowW rfl 47 _ rfl w.heap.size rfl (stL h s) (stV h s) rfl _ (range_row HLD.out) Try.underlying47 rfl (by kernel_rfl) ?_)
  refine (smayWhole_any h s _ rfl _ HK1.out HF.out).mono ?_
  rintro e w3 ⟨rfl, hx3⟩
  have HX3 := Lib.hid hx3
  clear HLD
  clear hx3
  cases b1 : (s.whole && s.counts) with
  | false =>
    have HNO : Hid (s.may = false) := Lib.hid (by rw [← HE.out, b1]; rfl)
    go_wp2
    (go_ret; exact ⟨by rw [HNO.out] <;> rfl, HX1.out.trans HX3.out⟩)
  | true =>
  have HLD := Lib.hid (HX3.out.blk HB1.out)
  go_wp2_with (refine wpList_load_rowW rfl 47 _ rfl w.heap.size rfl (stL h s) (stV h s) rfl _ (range_row HLD.out) Try.underlying47 rfl (by kernel_rfl) ?_)
  refine (smayGs_any h s _ rfl _ (HK1.out.ext HX3.out) HF.out).mono ?_
  rintro e w4 ⟨rfl, hx4⟩
  have HX4 := Lib.hid (HX3.out.trans hx4)
  clear HLD
  clear hx4 HX3
  have HX3 := Lib.hid HX4.out
  cases b2 : s.gs.all s.pGood with
  | false =>
    have HNO : Hid (s.may = false) := Lib.hid (by rw [← HE.out, b1, b2]; rfl)
    go_wp2
    (go_ret; exact ⟨by rw [HNO.out] <;> rfl, HX1.out.trans HX3.out⟩)
  | true =>
  have HLD := Lib.hid (HX3.out.blk HB1.out)
  go_wp2_with (refine wpList_load_rowW rfl 47 _ rfl w.heap.size rfl (stL h s) (stV h s) rfl _ (range_row HLD.out) Try.underlying47 rfl (by kernel_rfl) ?_)
  refine (smayPs_any h s _ rfl _ (HK1.out.ext HX3.out) HF.out).mono ?_
  rintro e w5 ⟨rfl, hx5⟩
  have HX5 := Lib.hid (HX3.out.trans hx5)
  clear HLD
  clear hx5 HX3 HX4
  have HX3 := Lib.hid HX5.out
  cases b3 : allIx s.holdP 0 s.ps with
  | false =>
    have HNO : Hid (s.may = false) := Lib.hid (by rw [← HE.out, b1, b2, b3]; rfl)
    go_wp2
    (go_ret; exact ⟨by rw [HNO.out] <;> rfl, HX1.out.trans HX3.out⟩)
  | true =>
  have HLD := Lib.hid (HX3.out.blk HB1.out)
  go_wp2_with (refine wpList_load_rowW rfl 47 _ rfl w.heap.size rfl (stL h s) (stV h s) rfl _ (range_row HLD.out) Try.underlying47 rfl (by kernel_rfl) ?_)
  refine (smayMs_any h s _ rfl _ (HK1.out.ext HX3.out) HF.out).mono ?_
  rintro e w6 ⟨rfl, hx6⟩
  have HX6 := Lib.hid (HX3.out.trans hx6)
  clear HLD
  clear hx6 HX3 HX5
  have HX3 := Lib.hid HX6.out
  cases b4 : allIx s.holdM 0 s.ms with
  | false =>
    have HNO : Hid (s.may = false) := Lib.hid (by rw [← HE.out, b1, b2, b3, b4]; rfl)
    go_wp2
    (go_ret; exact ⟨by rw [HNO.out] <;> rfl, HX1.out.trans HX3.out⟩)
  | true =>
  have HP : Hid (s.places = s.may) := Lib.hid (by rw [← HE.out, b1, b2, b3, b4]; rfl)
  have HLD := Lib.hid (HX3.out.blk HB1.out)
  go_wp2_with (refine wpList_load_rowW rfl 47 _ rfl w.heap.size rfl (stL h s) (stV h s) rfl _ (range_row HLD.out) Try.underlying47 rfl (by kernel_rfl) ?_)
  refine (smayPlaces_any h s _ HP.out _ (HK1.out.ext HX3.out) HF.out).mono ?_
  rintro e w7 ⟨rfl, hx7⟩
  have HX7 := Lib.hid (HX3.out.trans hx7)
  clear HLD
  clear hx7
  go_wp2
  go_ret
  exact ⟨rfl, HX1.out.trans HX7.out⟩
theorem of_two (w : World) (x : Array Value) (X : TypeId) (z : Array Value) (Z : TypeId) : ∃ w1, ((w.alloc (.cells x X)).alloc (.cells z Z)) = w1 ∧ Ext w w1 ∧ w1.heap[w.heap.size]? = some (.cells x X (0, 0)) ∧ w1.heap[w.heap.size + 1]? = some (.cells z Z (0, 0)) := by
  have s1 := World.size_alloc w (.cells x X)
  refine ⟨_, rfl, ((Ext.refl w).alloc _).alloc _, blk_alloc (blk_new w _) _, ?_⟩
  rw [← s1]; exact blk_new _ _
theorem of_start {w0 w : World} (hx : Ext w0 w) (t : Int) : ∃ wz, w.alloc (.cells #[.int .i64 0, .slice none 0 0, .slice none 0 0] 25) = wz ∧ wz.there w.heap.size 0 [Value.int .i64 t, .slice none 0 0, .slice none 0 0].length ∧ ∃ wa, wz.setCells w.heap.size 0 [.int .i64 t, .slice none 0 0, .slice none 0 0] = wa ∧ OfBox w0 wa w.heap.size t (.slice none 0 0) (.slice none 0 0) [] [] := by
  have hb := blk_new w (.cells #[.int .i64 0, .slice none 0 0, .slice none 0 0] 25)
  refine ⟨_, rfl, there_row hb (by simp), _, rfl, ⟨setCells_at [.int .i64 0, .slice none 0 0, .slice none 0 0] _ rfl hb, OwnRows.nil _ _, OwnRows.nil _ _, (fun k hk => by cases hk), ?_, hx.size⟩⟩
  exact Ext.upd (hx.alloc _) (setCells_upd _ _ _ _) hx.size
set_option maxRecDepth 100000 in
set_option maxHeartbeats 16000000 in
theorem mOf_any (h : StH) (s : St) (w : World) (hk : StOk w h s) (hf : StFew s) (o : Sn) (ho : Md.of s = o) : Calls Try.prog 16 #[stV h s] w (SnRet w o) := by
  subst ho
  have HF := Lib.hid hf
  have f1 := hf.gs
  have f2 := hf.ps
  have HK := Lib.hid hk
  obtain ⟨w1, hw1, hx1, hb1, hz1⟩ := of_two w #[.slice h.pa s.prog.length h.pc, .slice h.ga s.gs.length h.gc, .slice h.qa s.ps.length h.qc, .slice h.ma s.ms.length h.mc, .slice h.la s.glob.length h.lc, .int .i64 s.c0, .int .i64 s.c1, .int .i64 s.c2, .int .i64 s.c3, .slice h.a0 s.w0.length h.k0, .slice h.a1 s.w1.length h.k1, .slice h.a2 s.w2.length h.k2, .slice h.a3 s.w3.length h.k3, .slice h.ta s.timers.length h.tc, .int .i64 s.clock, .int .i64 s.procs] 47 #[.int .i64 0, .slice none 0 0, .slice none 0 0] 25
  have HW1 := Lib.hid hw1
  have HX1 := Lib.hid hx1
  have HB1 : Hid (w1.heap[w.heap.size]? = some (.cells (stC h s) 47 (0, 0))) := Lib.hid hb1
  have HZ1 := Lib.hid hz1
  have HK1 := Lib.hid (hk.ext hx1)
  clear hw1 hx1 hb1 hz1 hk hf
  have HLD := Lib.hid HB1.out
  unfold stV
  go_enter Try.func16, Try.ntmps16
  go_upto_region 1 with fail
  rw [HW1.out]
  generalize Value.agg #[.slice h.pa s.prog.length h.pc, .slice h.ga s.gs.length h.gc, .slice h.qa s.ps.length h.qc, .slice h.ma s.ms.length h.mc, .slice h.la s.glob.length h.lc, .int .i64 s.c0, .int .i64 s.c1, .int .i64 s.c2, .int .i64 s.c3, .slice h.a0 s.w0.length h.k0, .slice h.a1 s.w1.length h.k1, .slice h.a2 s.w2.length h.k2, .slice h.a3 s.w3.length h.k3, .slice h.ta s.timers.length h.tc, .int .i64 s.clock, .int .i64 s.procs] = sv0
  go_wp2_with (refine wpList_load_rowW rfl 47 _ rfl w.heap.size rfl (stL h s) (stV h s) rfl _ (range_row HLD.out) Try.underlying47 rfl (by kernel_rfl) ?_)
  refine (sstmay_any h s _ rfl _ HK1.out HF.out).mono ?_
  rintro e w2 ⟨rfl, hx2⟩
  have HX2 := Lib.hid hx2
  clear hx2 HLD
  obtain ⟨my, hmy⟩ : ∃ my, s.may = my := ⟨_, rfl⟩
  have HMY := Lib.hid hmy
  rw [hmy]
  clear hmy
  cases my with
  | false =>
    have hlay := sn_lay (y := Md.zero) (A := none) (B := none) (c := 0) (d := 0) (time := 0) (HX1.out.trans HX2.out) (show w.heap.size ≤ w.heap.size + 1 by omega) (HX2.out.blk HZ1.out) (snZ_at _)
    simp only [Md.zero, List.length_nil] at hlay
    obtain ⟨hth6, w6, hw6, hb6, hret⟩ := hlay
    have HTH6 := Lib.hid hth6
    have HW6 := Lib.hid hw6
    have HB6 := Lib.hid hb6
    have HRET := Lib.hid hret
    clear hth6 hw6 hb6 hret
    have HN : Hid (Md.of s = Md.zero) := Lib.hid (by unfold Md.of; rw [HMY.out]; rfl)
    go_wp2_with (refine wpList_store_rowN rfl 25 _ _ rfl (w.heap.size + 1) 0 [.int .i64 0, .slice none 0 0, .slice none 0 0] (.agg ([.int .i64 0, .slice none 0 0, .slice none 0 0]).toArray) (by go_simp) (by go_simp) rfl HTH6.out (by kernel_rfl) (sn3_one _ _ _ rfl rfl) HW6.out ?_)
    refine bodyPost_ret (v := .agg ([.int .i64 0, .slice none 0 0, .slice none 0 0]).toArray) (results_cell_row rfl _ _ (w.heap.size + 1) _ _ _ _ rfl HB6.out Try.underlying25 rfl (by kernel_rfl)) rfl ?_
    rw [HN.out]
    exact HRET.out
  | true =>
  have HN : Hid (Md.of s = ⟨s.clock, Md.psOf s.ps, Md.gsOf s.gs 1⟩) := Lib.hid (by unfold Md.of; rw [HMY.out]; rfl)
  have q14 := st14 (HX2.out.blk HB1.out)
  obtain ⟨wz, hwz, hth, wa, hwa, hof⟩ := of_start HX2.out s.clock
  obtain ⟨X, hX⟩ : ∃ X, w2.heap.size = X := ⟨_, rfl⟩
  rw [hX] at hth hwa hof
  have HWZ := Lib.hid hwz
  have HTH := Lib.hid hth
  have HWA := Lib.hid hwa
  have HOF := Lib.hid hof
  have HXX := Lib.hid hX
  clear hwz hth hwa hof hX
  go_upto_region 4 with (first | rw [HWZ.out, HXX.out] | (refine wpList_store_rowN rfl 25 _ _ rfl X 0 [.int .i64 s.clock, .slice none 0 0, .slice none 0 0] (.agg ([.int .i64 s.clock, .slice none 0 0, .slice none 0 0]).toArray) (by go_simp) (by go_simp) rfl HTH.out (by kernel_rfl) (sn3_one _ _ _ rfl rfl) HWA.out ?_))
  clear q14
  have q2 := st2 (HOF.out.ext.blk HB1.out)
  go_wp2_with fail
  clear q2
  obtain ⟨qa, hqa⟩ : ∃ qa, h.qa = qa := ⟨_, rfl⟩
  have HQA := Lib.hid hqa
  rw [hqa]
  clear hqa
  go_loopw [18] (fun iv wr => ∃ (k : Nat) (u1 : Value), k ≤ s.ps.length ∧ iv = .int .i64 k ∧ OfBox w1 wr X s.clock u1 (.slice none 0 0) (Md.psOf (s.ps.take k)) []) (fun iv _ => s.ps.length - (intOf iv).toNat)
  case atStart => exact ⟨0, _, by omega, rfl, HOF.out⟩
  case round =>
    obtain ⟨k, u1, hk, rfl, hof⟩ := hrel
    have HO := Lib.hid hof
    clear hof
    by_cases hlt : k < s.ps.length
    · obtain ⟨p, hp⟩ : ∃ p, s.ps[k]? = some p := ⟨_, List.getElem?_eq_getElem hlt⟩
      have HTK := Lib.hid (Md.psOf_take hp)
      obtain ⟨m, nx, r, sq⟩ := p
      obtain ⟨b0, b1, b2, b3, b4, b5, b6, b7, hd, nn, rfl⟩ := Ri.open8 (HK.out.buf _ (List.mem_of_getElem? hp))
      obtain ⟨b, o, hA, hb, hc⟩ := ps_get (HK1.out.ext HO.out.ext).ps hp
      rw [HQA.out] at hA
      subst hA
      obtain ⟨⟨p0, p1, p2, p3, p4, p5, p6⟩, p7, p8, p9, p10, p11, p12⟩ := hc
      obtain ⟨w3, hw3⟩ : ∃ w3, wr.alloc (.cells #[.int .i64 m, .int .i64 nx, .int .i64 b0, .int .i64 b1, .int .i64 b2, .int .i64 b3, .int .i64 b4, .int .i64 b5, .int .i64 b6, .int .i64 b7, .int .i64 hd, .int .i64 nn, .int .i64 sq] 77) = w3 := ⟨_, rfl⟩
      have HW3 := Lib.hid hw3
      have HX3 : Hid (Ext wr w3) := Lib.hid (by rw [← hw3]; exact (Ext.refl _).alloc _)
      have HQ3 : Hid (w3.heap[wr.heap.size]? = some (.cells #[.int .i64 m, .int .i64 nx, .int .i64 b0, .int .i64 b1, .int .i64 b2, .int .i64 b3, .int .i64 b4, .int .i64 b5, .int .i64 b6, .int .i64 b7, .int .i64 hd, .int .i64 nn, .int .i64 sq] 77 (0, 0))) := Lib.hid (by rw [← hw3]; exact blk_new wr _)
      have HO3 := Lib.hid (HO.out.more HX3.out)
      clear hp hb hw3
      go_upto_region 7 with fail
      rw [HW3.out]
      clear p0 p1 p2 p3 p4 p5 p6 p7 p8 p9 p10 p11 p12
      have z0 := blk_cell HQ3.out 0 _ rfl
      have z12 := blk_cell HQ3.out 12 _ rfl
      have y1 := blk_cell HO3.out.box 1 _ rfl
      obtain ⟨un, wn, hr1, qa1, fa1, hof1⟩ := HO3.out.pushP (m, sq) (by unfold Md.psOf; rw [List.length_map, List.length_take]; omega)
      obtain ⟨An, cn, hun, -⟩ := (OwnRows.rows snPCells_len hof1.ps).form
      subst hun
      have HR1 := Lib.hid hr1
      have HO1 := Lib.hid hof1
      clear hr1 hof1
      go_wp2_with (at_builtin; refine wpList_append_run rfl _ _ 22 rfl _ _ rfl rfl HR1.out ?_)
      go_roundw
      case rel => exact ⟨k + 1, _, by omega, by go_num, by rw [HTK.out]; have hh := HO1.out; rw [List.length_append, List.length_singleton] at hh; exact hh⟩
      case measure => simp [intOf]; omega
    · obtain rfl : k = s.ps.length := by omega
      have HO2 : Hid (OfBox w1 wr X s.clock u1 (.slice none 0 0) (Md.psOf s.ps) []) := Lib.hid (by have := HO.out; rwa [List.take_length] at this)
      clear HO hk hlt
      have q1 := st1 (HO2.out.ext.blk HB1.out)
      go_wp2_with fail
      clear q1
      obtain ⟨ga, hga⟩ : ∃ ga, h.ga = ga := ⟨_, rfl⟩
      have HGA := Lib.hid hga
      rw [hga]
      clear hga
      go_loopw [36] (fun iv wr => ∃ (k : Nat) (u2 : Value), k ≤ s.gs.length ∧ iv = .int .i64 k ∧ OfBox w1 wr X s.clock u1 u2 (Md.psOf s.ps) (Md.gsOf (s.gs.take k) 1)) (fun iv _ => s.gs.length - (intOf iv).toNat)
      case atStart => exact ⟨0, _, by omega, rfl, HO2.out⟩
      case round =>
        obtain ⟨k, u2, hk, rfl, hof⟩ := hrel
        have HO := Lib.hid hof
        clear hof
        by_cases hlt : k < s.gs.length
        · obtain ⟨g, hg⟩ : ∃ g, s.gs[k]? = some g := ⟨_, List.getElem?_eq_getElem hlt⟩
          have HTK := Lib.hid (Md.gsOf_take hg)
          obtain ⟨b, o, hA, hb, hc⟩ := (HK1.out.ext HO.out.ext).gs.get hg
          rw [HGA.out] at hA
          subst hA
          have k0 := hc 0 _ rfl
          have k1 := hc 1 _ rfl
          have k2 := hc 2 _ rfl
          have k3 := hc 3 _ rfl
          have k4 := hc 4 _ rfl
          rw [Nat.add_zero] at k0
          clear hg hb hc
          go_upto_region 12 with fail
          obtain ⟨w3, hw3⟩ : ∃ w3, wr.alloc (.cells #[.int .i64 g.func, .int .i64 g.pc, .int .i64 g.st, .int .i64 g.m, .int .i64 g.seq] 72) = w3 := ⟨_, rfl⟩
          have HX3 : Hid (Ext wr w3) := Lib.hid (by rw [← hw3]; exact (Ext.refl _).alloc _)
          have HQ3 : Hid (w3.heap[wr.heap.size]? = some (.cells #[.int .i64 g.func, .int .i64 g.pc, .int .i64 g.st, .int .i64 g.m, .int .i64 g.seq] 72 (0, 0))) := Lib.hid (by rw [← hw3]; exact blk_new wr _)
          rw [hw3]
          have HO3 := Lib.hid (HO.out.more HX3.out)
          clear hw3 k0 k1 k2 k3 k4
          have z2 := blk_cell HQ3.out 2 _ rfl
          have z3 := blk_cell HQ3.out 3 _ rfl
          have z4 := blk_cell HQ3.out 4 _ rfl
          by_cases h5 : g.st = 5
          · have H5 := Lib.hid h5
            have e5 : (g.st != 5) = false := by simpa using h5
            clear h5
            go_wp2
            go_roundw
            case rel => exact ⟨k + 1, _, by omega, by go_num, by rw [HTK.out, if_pos H5.out, List.append_nil]; exact HO3.out⟩
            case measure => simp [intOf]; omega
          · have H5 := Lib.hid h5
            have e5 : (g.st != 5) = true := by simpa using h5
            clear h5
            have y2 := blk_cell HO3.out.box 2 _ rfl
            obtain ⟨un, wn, hr1, qa1, fa1, hof1⟩ := HO3.out.pushG ((k : Int) + 1, g.st, g.m, g.seq) (by have := Md.gsOf_len (s.gs.take k) 1; rw [List.length_take] at this; omega)
            obtain ⟨An, cn, hun, -⟩ := (OwnRows.rows snGCells_len hof1.gs).form
            subst hun
            have HR1 := Lib.hid hr1
            have HO1 := Lib.hid hof1
            clear hr1 hof1
            go_wp2_with (at_builtin; refine wpList_append_run rfl _ _ 23 rfl _ _ rfl rfl HR1.out ?_)
            go_roundw
            case rel => exact ⟨k + 1, _, by omega, by go_num, by rw [HTK.out, if_neg H5.out]; have hh := HO1.out; rw [List.length_append, List.length_singleton] at hh; exact hh⟩
            case measure => simp [intOf]; omega
        · obtain rfl : k = s.gs.length := by omega
          have HO3 : Hid (OfBox w1 wr X s.clock u1 u2 (Md.psOf s.ps) (Md.gsOf s.gs 1)) := Lib.hid (by have := HO.out; rwa [List.take_length] at this)
          clear HO hk hlt
          obtain ⟨A5, c5, hu1, -⟩ := (OwnRows.rows snPCells_len HO3.out.ps).form
          obtain ⟨A6, c6, hu2, -⟩ := (OwnRows.rows snGCells_len HO3.out.gs).form
          subst hu1 hu2
          have HRX := Lib.hid (range_row (cs := [.int .i64 s.clock, .slice A5 (Md.psOf s.ps).length c5, .slice A6 (Md.gsOf s.gs 1).length c6]) HO3.out.box)
          obtain ⟨hth6, w6, hw6, hb6, hret⟩ := sn_lay (y := ⟨s.clock, Md.psOf s.ps, Md.gsOf s.gs 1⟩) (HX1.out.trans HO3.out.ext) (show w.heap.size ≤ w.heap.size + 1 by omega) (HO3.out.ext.blk HZ1.out) HO3.out.snap
          have HTH6 := Lib.hid hth6
          have HW6 := Lib.hid hw6
          have HB6 := Lib.hid hb6
          have HRET := Lib.hid hret
          clear hth6 hw6 hb6 hret
          go_wp2_with (first | (refine wpList_load_rowW (by rfl) 25 _ rfl X (by go_simp) [.int .i64 s.clock, .slice A5 (Md.psOf s.ps).length c5, .slice A6 (Md.gsOf s.gs 1).length c6] (.agg ([.int .i64 s.clock, .slice A5 (Md.psOf s.ps).length c5, .slice A6 (Md.gsOf s.gs 1).length c6]).toArray) rfl _ HRX.out Try.underlying25 rfl (by kernel_rfl) ?_) | (refine wpList_store_rowN rfl 25 _ _ rfl (w.heap.size + 1) 0 [.int .i64 s.clock, .slice A5 (Md.psOf s.ps).length c5, .slice A6 (Md.gsOf s.gs 1).length c6] (.agg ([.int .i64 s.clock, .slice A5 (Md.psOf s.ps).length c5, .slice A6 (Md.gsOf s.gs 1).length c6]).toArray) (by go_simp) (by go_simp) rfl HTH6.out (by kernel_rfl) (sn3_one _ _ _ rfl rfl) HW6.out ?_))
          refine bodyPost_ret (v := .agg ([.int .i64 s.clock, .slice A5 (Md.psOf s.ps).length c5, .slice A6 (Md.gsOf s.gs 1).length c6]).toArray) (results_cell_row rfl _ _ (w.heap.size + 1) _ _ _ _ rfl HB6.out Try.underlying25 rfl (by kernel_rfl)) rfl ?_
          rw [HN.out]
          exact HRET.out
open Go.ChangeShapes Go.WideShapes Go.Deep Go.RowKit
section
variable {H : Type} {enc : TypeId × Value → H} {P : Program} {w : World} {base : Nat} {spare : Nat → Bool} {held : Bool}
end
namespace OfBox
variable {w0 w w' : World} {X : Nat} {t : Int} {u1 u2 : Value} {ps : List (Int × Int)} {gs : List Gs4}
end OfBox
end Go.Proofs.Ytdcbaddndoilfaa
