/-
  Several texts in one: Tl, Tr, Tq, Ts, Tt, Th, Tu, Tv.
-/
import Derived.Test.YtdcbaddndoilfaaD14
import Derived.Test.YtdcbaddndoilfaaD04
import Derived.Test.YtdcbaddndoilfaaD05
import Derived.Test.YtdcbaddndoilfaaD07
set_option linter.unusedVariables false
set_option linter.unusedSimpArgs false
namespace Go.Proofs.Ytdcbaddndoilfaa
open Go.RowKit
def wiB (n lo hi : Int) : Bool := decide (lo ≤ n ∧ n ≤ hi)
theorem wiB_yes {n lo hi : Int} (h : lo ≤ n) (h2 : n ≤ hi) : wiB n lo hi = true := decide_eq_true ⟨h, h2⟩
theorem wiB_no {n lo hi : Int} (h : ¬ (lo ≤ n ∧ n ≤ hi)) : wiB n lo hi = false := decide_eq_false h
theorem wiB_iff {n lo hi : Int} : wiB n lo hi = true ↔ lo ≤ n ∧ n ≤ hi := by unfold wiB; exact decide_eq_true_iff
set_option maxHeartbeats 1000000 in
theorem swithin_any (n lo hi : Int) (w : World) : Calls Try.prog 86 #[.int .i64 n, .int .i64 lo, .int .i64 hi] w fun e w' => e = .returned (.bool (wiB n lo hi)) ∧ w' = w := by
  by_cases h0 : lo ≤ n
  · by_cases h1 : n ≤ hi
    · rw [wiB_yes h0 h1]
      go_enter Try.func86, Try.ntmps86
      go_wp2
      go_ret
      exact ⟨rfl, rfl⟩
    · rw [wiB_no (fun h => h1 h.2)]
      have h1' : decide (n ≤ hi) = false := by simpa using h1
      clear h1
      go_enter Try.func86, Try.ntmps86
      go_wp2
      go_ret
      exact ⟨rfl, rfl⟩
  · rw [wiB_no (fun h => h0 h.1)]
    have h0' : decide (lo ≤ n) = false := by simpa using h0
    clear h0
    go_enter Try.func86, Try.ntmps86
    go_wp2
    go_ret
    exact ⟨rfl, rfl⟩
theorem low_wiB (n : Int) : wiB n 0 2305843009213693951 = St.low n := by
  unfold wiB St.low
  congr 1
  simp only [eq_iff_iff]
  omega
set_option maxHeartbeats 1000000 in
theorem smayNumber_any (n : Int) (w : World) : Calls Try.prog 87 #[.int .i64 n] w fun e w' => e = .returned (.bool (St.low n)) ∧ w' = w := by
  have H := Lib.hid (swithin_any n 0 2305843009213693951 w)
  rw [low_wiB] at H
  generalize St.low n = b at *
  go_enter Try.func87, Try.ntmps87
  go_wp2_with fail
  refine H.out.mono ?_
  rintro e w' ⟨rfl, rfl⟩
  go_wp2
  go_ret
  exact ⟨rfl, rfl⟩
def St.pGood (s : St) (g : Gr) : Bool := s.good g && wiB g.st 1 5
set_option maxRecDepth 100000 in
set_option maxHeartbeats 8000000 in
theorem smayGs_any (h : StH) (s : St) (r : Bool) (hr : s.gs.all s.pGood = r) (w : World) (hk : StOk w h s) (hf : StFew s) : Calls Try.prog 63 #[stV h s] w fun e w' => e = .returned (.bool r) ∧ Ext w w' := by
  subst hr
  have f1 := hf.gs
  have f2 := hf.prog.1
  have HPL := Lib.hid hf.prog.2
  have HWI : Hid (∀ (n lo hi : Int) (w : World), Calls Try.prog 86 #[.int .i64 n, .int .i64 lo, .int .i64 hi] w fun e w' => e = .returned (.bool (wiB n lo hi)) ∧ w' = w) := Lib.hid swithin_any
  have HK := Lib.hid hk
  obtain ⟨w1, hw1⟩ : ∃ w1, w.alloc (.cells #[.slice h.pa s.prog.length h.pc, .slice h.ga s.gs.length h.gc, .slice h.qa s.ps.length h.qc, .slice h.ma s.ms.length h.mc, .slice h.la s.glob.length h.lc, .int .i64 s.c0, .int .i64 s.c1, .int .i64 s.c2, .int .i64 s.c3, .slice h.a0 s.w0.length h.k0, .slice h.a1 s.w1.length h.k1, .slice h.a2 s.w2.length h.k2, .slice h.a3 s.w3.length h.k3, .slice h.ta s.timers.length h.tc, .int .i64 s.clock, .int .i64 s.procs] 47) = w1 := ⟨_, rfl⟩
  have HX1 : Hid (Ext w w1) := Lib.hid (by rw [← hw1]; exact (Ext.refl w).alloc _)
  have HB1 : Hid (w1.heap[w.heap.size]? = some (.cells (stC h s) 47 (0, 0))) := Lib.hid (by rw [← hw1]; exact blk_new w _)
  have HK1 := Lib.hid (hk.ext HX1.out)
  have HW1 := Lib.hid hw1
  clear hw1 hk
  clear hf
  have q1a := st1 HB1.out
  unfold stV
  go_enter Try.func63, Try.ntmps63
  go_upto_region 1 with fail
  rw [HW1.out]
  generalize Value.agg #[.slice h.pa s.prog.length h.pc, .slice h.ga s.gs.length h.gc, .slice h.qa s.ps.length h.qc, .slice h.ma s.ms.length h.mc, .slice h.la s.glob.length h.lc, .int .i64 s.c0, .int .i64 s.c1, .int .i64 s.c2, .int .i64 s.c3, .slice h.a0 s.w0.length h.k0, .slice h.a1 s.w1.length h.k1, .slice h.a2 s.w2.length h.k2, .slice h.a3 s.w3.length h.k3, .slice h.ta s.timers.length h.tc, .int .i64 s.clock, .int .i64 s.procs] = sv0
  go_wp2_with fail
  clear q1a
  obtain ⟨ga, hga⟩ : ∃ ga, h.ga = ga := ⟨_, rfl⟩
  have HGA := Lib.hid hga
  rw [hga]
  clear hga
  go_loopw [8] (fun iv wr => ∃ k : Nat, k ≤ s.gs.length ∧ iv = .int .i64 k ∧ (∀ (j : Nat) g, s.gs[j]? = some g → j < k → s.pGood g = true) ∧ Ext w1 wr) (fun iv _ => s.gs.length - (intOf iv).toNat)
  case atStart => exact ⟨0, by omega, rfl, fun j l _ h => by omega, Ext.refl _⟩
  case round =>
    obtain ⟨k, hk, rfl, hall, hx⟩ := hrel
    have HALL := Lib.hid hall
    have HX := Lib.hid hx
    clear hall hx
    by_cases hlt : k < s.gs.length
    · obtain ⟨g, hg⟩ : ∃ g, s.gs[k]? = some g := ⟨_, List.getElem?_eq_getElem hlt⟩
      have HG := Lib.hid hg
      have HST : Hid (s.pGood g = false → s.gs.all s.pGood = false) := Lib.hid fun h => all_no hg h
      obtain ⟨b, o, hA, hb, p0, p1, p2, p3, p4⟩ := gs_get (HK1.out.ext HX.out).gs hg
      rw [HGA.out] at hA
      subst hA
      obtain ⟨fn, pc, st, m, sq⟩ := g
      simp only at p0 p1 p2 p3 p4
      obtain ⟨w3, hw3⟩ : ∃ w3, wr.alloc (.cells #[.int .i64 fn, .int .i64 pc, .int .i64 st, .int .i64 m, .int .i64 sq] 72) = w3 := ⟨_, rfl⟩
      have HW3 := Lib.hid hw3
      have HX3 : Hid (Ext w1 w3) := Lib.hid (by rw [← hw3]; exact HX.out.alloc _)
      have HQ : Hid (w3.heap[wr.heap.size]? = some (.cells #[.int .i64 fn, .int .i64 pc, .int .i64 st, .int .i64 m, .int .i64 sq] 72 (0, 0))) := Lib.hid (by rw [← hw3]; exact blk_new wr _)
      clear hg hb hw3
      go_upto_region 4 with fail
      rw [HW3.out]
      clear p0 p1 p2 p3 p4
      have z0 := blk_cell HQ.out 0 _ rfl
      have z1 := blk_cell HQ.out 1 _ rfl
      have y0 := st0 (HX3.out.blk HB1.out)
      have e0 : IntKind.i64.wrap ((s.prog.length : Int) - 1) = (s.prog.length : Int) - 1 := IntWalk.i64_in _ (by omega)
      cases b1 : wiB fn 0 ((s.prog.length : Int) - 1) with
      | false =>
        have HNO : Hid (s.gs.all s.pGood = false) := Lib.hid (HST.out (by
          unfold St.pGood St.good
          have hn : ¬ (0 ≤ fn ∧ fn ≤ (s.prog.length : Int) - 1) := fun h => by rw [wiB_iff.2 h] at b1; cases b1
          rw [decide_eq_false (by simp only; omega)]
          rfl))
        go_quiet ((go_at_call 86; exact Calls.quiet_of_same (HWI.out _ _ _ _)))
        go_wp2
        (go_ret; exact ⟨by rw [HNO.out] <;> rfl, HX1.out.trans (HX3.out.drewN _)⟩)
      | true =>
        obtain ⟨fb1, fb2⟩ := wiB_iff.1 b1
        obtain ⟨f, rfl⟩ : ∃ f : Nat, fn = f := ⟨fn.toNat, by omega⟩
        obtain ⟨l, hl⟩ : ∃ l, s.prog[f]? = some l := ⟨_, List.getElem?_eq_getElem (by omega)⟩
        obtain ⟨b2, o2, B, d, hA2, hb2, hcu, hrow⟩ := (HK1.out.ext HX3.out).prog.get hl
        have hll := HPL.out l (List.mem_of_getElem? hl)
        have i0 : (0 : Int) ≤ (f : Int) := by omega
        have i1 : (f : Int) < (s.prog.length : Int) := by omega
        have HGD : Hid (s.pGood ⟨f, pc, st, m, sq⟩ = (decide (0 ≤ pc ∧ pc ≤ (l.length : Int)) && St.low sq && wiB st 1 5)) := Lib.hid (by
          unfold St.pGood St.good
          simp only [List.getD, Int.toNat_natCast, hl, Option.getD_some]
          by_cases hp : 0 ≤ pc
          · rw [decide_eq_true (show 0 ≤ (f : Int) ∧ (f : Int) < (s.prog.length : Int) ∧ 0 ≤ pc by omega)]
            by_cases hp2 : pc ≤ (l.length : Int)
            · rw [decide_eq_true hp2, decide_eq_true (show 0 ≤ pc ∧ pc ≤ (l.length : Int) from ⟨hp, hp2⟩)]
              simp
            · rw [decide_eq_false hp2, decide_eq_false (show ¬ (0 ≤ pc ∧ pc ≤ (l.length : Int)) from fun h => hp2 h.2)]
              simp
          · rw [decide_eq_false (show ¬ (0 ≤ (f : Int) ∧ (f : Int) < (s.prog.length : Int) ∧ 0 ≤ pc) from fun h => hp h.2.2), decide_eq_false (show ¬ (0 ≤ pc ∧ pc ≤ (l.length : Int)) from fun h => hp h.1)]
            rfl)
        clear fb1 fb2 hb2 hrow hl
        cases bb : wiB pc 0 (l.length : Int) with
        | false =>
          have HNO : Hid (s.gs.all s.pGood = false) := Lib.hid (HST.out (by
            rw [HGD.out, decide_eq_false (fun h => by rw [wiB_iff.2 h] at bb; cases bb)]; rfl))
          go_quiet ((go_at_call 86; exact Calls.quiet_of_same (HWI.out _ _ _ _)))
          go_wp2
          (go_ret; exact ⟨by rw [HNO.out] <;> rfl, HX1.out.trans (HX3.out.drewN _)⟩)
        | true =>
          have HPC := Lib.hid (wiB_iff.1 bb)
          go_quiet ((go_at_call 86; exact Calls.quiet_of_same (HWI.out _ _ _ _)))
          clear z0 z1 y0 hA2 hcu e0 b1 bb
          have z2 := blk_cell (((Ext.refl w3).drewN nq).blk HQ.out) 2 _ rfl
          have z4 := blk_cell (((Ext.refl w3).drewN nq).blk HQ.out) 4 _ rfl
          have HXD : Hid (Ext w1 (w3.drewN nq)) := Lib.hid (HX3.out.drewN _)
          obtain ⟨wd, hwd⟩ : ∃ wd, w3.drewN nq = wd := ⟨_, rfl⟩
          rw [hwd] at z2 z4 HXD ⊢
          clear hwd
          go_wp2_with fail
          refine (HWI.out st 1 5 _).mono ?_
          rintro e w' ⟨rfl, rfl⟩
          cases bs : wiB st 1 5 with
          | false =>
            have HNO : Hid (s.gs.all s.pGood = false) := Lib.hid (HST.out (by rw [HGD.out, bs, Bool.and_false]))
            go_wp2
            go_ret
            exact ⟨by rw [HNO.out] <;> rfl, HX1.out.trans HXD.out⟩
          | true =>
            go_wp2_with fail
            refine (smayNumber_any sq _).mono ?_
            rintro e w' ⟨rfl, rfl⟩
            cases bl : St.low sq with
            | false =>
              have HNO : Hid (s.gs.all s.pGood = false) := Lib.hid (HST.out (by rw [HGD.out, bl, Bool.and_false]; rfl))
              go_wp2
              go_ret
              exact ⟨by rw [HNO.out] <;> rfl, HX1.out.trans HXD.out⟩
            | true =>
              have HYES : Hid (s.pGood ⟨f, pc, st, m, sq⟩ = true) := Lib.hid (by rw [HGD.out, bl, bs, decide_eq_true HPC.out]; rfl)
              go_wp2
              go_roundw
              case rel =>
                refine ⟨k + 1, by omega, by go_num, fun i y hi hij => ?_, HXD.out⟩
                by_cases hij2 : i < k
                · exact HALL.out i y hi hij2
                · obtain rfl : i = k := by omega
                  rw [← some_eq HG.out hi]
                  exact HYES.out
              case measure => simp [intOf]; omega
    · obtain rfl : k = s.gs.length := by omega
      have HY : Hid (s.gs.all s.pGood = true) := Lib.hid (all_yes fun j l hj => HALL.out j l hj (List.getElem?_eq_some_iff.1 hj).1)
      go_wp2
      go_ret
      exact ⟨by rw [HY.out] <;> rfl, HX1.out.trans HX.out⟩
def St.holdG (s : St) (i : Nat) (g : Gr) : Bool :=
  if g.st ≠ 2 ∧ g.st ≠ 4 then g.m == 0 else wiB g.m 1 s.ms.length && ((s.ms.getD (g.m - 1).toNat (0, 0)).2 == (i : Int) + 1 && (((s.ms.getD (g.m - 1).toNat (0, 0)).1 != 0) == (g.st == 2)))
set_option maxRecDepth 100000 in
set_option maxHeartbeats 8000000 in
theorem smayHold_any (h : StH) (s : St) (k : Nat) (g : Gr) (hg : s.gs[k]? = some g) (r : Bool) (hr : s.holdG k g = r) (w : World) (hk : StOk w h s) (hf : StFew s) : Calls Try.prog 92 #[stV h s, .int .i64 ((k : Int) + 1)] w fun e w' => e = .returned (.bool r) ∧ Ext w w' := by
  have f1 := hf.gs
  have f2 := hf.ms
  have hlt : k < s.gs.length := (List.getElem?_eq_some_iff.1 hg).1
  have hkb : (k : Int) < (s.gs.length : Int) := by omega
  have HK := Lib.hid hk
  obtain ⟨w1, hw1⟩ : ∃ w1, w.alloc (.cells #[.slice h.pa s.prog.length h.pc, .slice h.ga s.gs.length h.gc, .slice h.qa s.ps.length h.qc, .slice h.ma s.ms.length h.mc, .slice h.la s.glob.length h.lc, .int .i64 s.c0, .int .i64 s.c1, .int .i64 s.c2, .int .i64 s.c3, .slice h.a0 s.w0.length h.k0, .slice h.a1 s.w1.length h.k1, .slice h.a2 s.w2.length h.k2, .slice h.a3 s.w3.length h.k3, .slice h.ta s.timers.length h.tc, .int .i64 s.clock, .int .i64 s.procs] 47) = w1 := ⟨_, rfl⟩
  have HX1 : Hid (Ext w w1) := Lib.hid (by rw [← hw1]; exact (Ext.refl w).alloc _)
  have HB1 : Hid (w1.heap[w.heap.size]? = some (.cells (stC h s) 47 (0, 0))) := Lib.hid (by rw [← hw1]; exact blk_new w _)
  have HK1 := Lib.hid (hk.ext HX1.out)
  have HW1 := Lib.hid hw1
  clear hw1 hk
  clear hf
  obtain ⟨b, o, hA, hb, p0, p1, p2, p3, p4⟩ := gs_get HK1.out.gs hg
  obtain ⟨fn, pc, st, m, sq⟩ := g
  simp only at p0 p1 p2 p3 p4
  have HR := Lib.hid hr
  obtain ⟨w3, hw3⟩ : ∃ w3, w1.alloc (.cells #[.int .i64 fn, .int .i64 pc, .int .i64 st, .int .i64 m, .int .i64 sq] 72) = w3 := ⟨_, rfl⟩
  have HW3 := Lib.hid hw3
  have HX3 : Hid (Ext w1 w3) := Lib.hid (by rw [← hw3]; exact (Ext.refl w1).alloc _)
  have HQ3 : Hid (w3.heap[w1.heap.size]? = some (.cells #[.int .i64 fn, .int .i64 pc, .int .i64 st, .int .i64 m, .int .i64 sq] 72 (0, 0))) := Lib.hid (by rw [← hw3]; exact blk_new w1 _)
  have q1 := st1 HB1.out
  have e1 : (k : Int) + 1 - 1 = (k : Int) := by omega
  have HA := Lib.hid hA
  clear hg hb hw3 hA hr
  unfold stV
  go_enter Try.func92, Try.ntmps92
  go_upto_region 1 with fail
  rw [HW1.out]
  generalize Value.agg #[.slice h.pa s.prog.length h.pc, .slice h.ga s.gs.length h.gc, .slice h.qa s.ps.length h.qc, .slice h.ma s.ms.length h.mc, .slice h.la s.glob.length h.lc, .int .i64 s.c0, .int .i64 s.c1, .int .i64 s.c2, .int .i64 s.c3, .slice h.a0 s.w0.length h.k0, .slice h.a1 s.w1.length h.k1, .slice h.a2 s.w2.length h.k2, .slice h.a3 s.w3.length h.k3, .slice h.ta s.timers.length h.tc, .int .i64 s.clock, .int .i64 s.procs] = sv0
  have hA := HA.out
  go_upto_region 2 with fail
  rw [HW3.out]
  clear q1 hA p0 p1 p2 p3 p4
  have z0 := blk_cell HQ3.out 2 _ rfl
  have z3 := blk_cell HQ3.out 3 _ rfl
  have q3 := st3 (HX3.out.blk HB1.out)
  by_cases hs : st ≠ 2 ∧ st ≠ 4
  · have e2 : (st != 2) = true := by simpa using hs.1
    have e4 : (st != 4) = true := by simpa using hs.2
    have HR2 : Hid ((m == 0) = r) := Lib.hid (by have := HR.out; unfold St.holdG at this; rwa [if_pos hs] at this)
    clear hs
    have hm := HR2.out
    go_wp2
    go_ret
    exact ⟨rfl, HX1.out.trans HX3.out⟩
  · have HR2 : Hid ((wiB m 1 s.ms.length && ((s.ms.getD (m - 1).toNat (0, 0)).2 == (k : Int) + 1 && (((s.ms.getD (m - 1).toNat (0, 0)).1 != 0) == (st == 2)))) = r) := Lib.hid (by have := HR.out; unfold St.holdG at this; rwa [if_neg hs] at this)
    have h24 : st = 2 ∨ st = 4 := by omega
    have H24 : Hid ((st != 2 && st != 4) = false) := Lib.hid (by rcases h24 with h | h <;> subst h <;> rfl)
    obtain ⟨b2, hb2⟩ : ∃ b2, (st != 2) = b2 := ⟨_, rfl⟩
    obtain ⟨b4, hb4⟩ : ∃ b4, (st != 4) = b4 := ⟨_, rfl⟩
    have hand : (b2 && b4) = false := by rw [← hb2, ← hb4]; exact H24.out
    obtain ⟨bs, hbs⟩ : ∃ bs, (st == 2) = bs := ⟨_, rfl⟩
    rw [hbs] at HR2
    clear hs h24
    have HWI := Lib.hid (swithin_any m 1 (s.ms.length : Int))
    cases bb : wiB m 1 (s.ms.length : Int) with
    | false =>
      obtain rfl : r = false := by have := HR2.out; rw [bb] at this; exact this.symm
      cases b2 <;> cases b4 <;> first | (exfalso; simp at hand; done) | skip
      all_goals
        clear hand hbs
        go_wp2_with fail
        refine (HWI.out _).mono ?_
        rintro e w' ⟨rfl, rfl⟩
        go_wp2
        go_ret
        exact ⟨rfl, HX1.out.trans HX3.out⟩
    | true =>
      obtain ⟨fb1, fb2⟩ := wiB_iff.1 bb
      obtain ⟨j, hj⟩ : ∃ j : Nat, m = (j : Int) + 1 := ⟨(m - 1).toNat, by omega⟩
      subst hj
      obtain ⟨x, hx⟩ : ∃ x, s.ms[j]? = some x := ⟨_, List.getElem?_eq_getElem (by omega)⟩
      obtain ⟨bm, om, hAm, hbm, c0, c1⟩ := frs2_get (HK1.out.ext HX3.out).ms hx
      have HR3 : Hid ((x.2 == (k : Int) + 1 && ((x.1 != 0) == bs)) = r) := Lib.hid (by
        have := HR2.out
        rw [bb, Bool.true_and, show ((j : Int) + 1 - 1).toNat = j by omega, List.getD, hx] at this
        exact this)
      have e6 : (j : Int) + 1 - 1 = (j : Int) := by omega
      have e7 : (j : Int) < (s.ms.length : Int) := by omega
      obtain ⟨xp, xg⟩ := x
      simp only at HR3 c0 c1
      obtain ⟨w5, hw5⟩ : ∃ w5, w3.alloc (.cells #[.int .i64 xp, .int .i64 xg] 119) = w5 := ⟨_, rfl⟩
      have HW5 := Lib.hid hw5
      have HX5 : Hid (Ext w1 w5) := Lib.hid (by rw [← hw5]; exact HX3.out.alloc _)
      have hq5 : w5.heap[w3.heap.size]? = some (.cells #[.int .i64 xp, .int .i64 xg] 119 (0, 0)) := by rw [← hw5]; exact blk_new w3 _
      have u0 := blk_cell hq5 0 _ rfl
      have u1 := blk_cell hq5 1 _ rfl
      have u2 : w5.cell? ⟨w1.heap.size, 2, none⟩ = some (.int .i64 st) := by rw [← hw5]; exact blk_cell (blk_alloc HQ3.out _) 2 _ rfl
      clear hw5 hq5
      obtain ⟨bp, hbp⟩ : ∃ bp, (xp != 0) = bp := ⟨_, rfl⟩
      obtain ⟨bg, hbg⟩ : ∃ bg, (xg == (k : Int) + 1) = bg := ⟨_, rfl⟩
      obtain ⟨be, hbe⟩ : ∃ be, (bp == bs) = be := ⟨_, rfl⟩
      rw [hbg, hbp, hbe] at HR3
      clear hx hbm
      cases b2 <;> cases b4 <;> first | (exfalso; simp at hand; done) | skip
      all_goals
        clear hand
        cases bg with
        | false =>
          obtain rfl : r = false := HR3.out.symm
          go_wp2_with fail
          refine (HWI.out _).mono ?_
          rintro e w' ⟨rfl, rfl⟩
          go_wp2_with (rw [HW5.out])
          go_ret
          exact ⟨rfl, HX1.out.trans HX5.out⟩
        | true =>
          have hrr : r = (bp == bs) := by have := HR3.out; rw [← hbe] at this; simpa using this.symm
          clear HR3 hbe
          cases bp <;> cases bs
          all_goals
            subst hrr
            go_wp2_with fail
            refine (HWI.out _).mono ?_
            rintro e w' ⟨rfl, rfl⟩
            go_wp2_with (rw [HW5.out])
            go_ret
            exact ⟨rfl, HX1.out.trans HX5.out⟩
def St.wanted (st : Int) : Int × Int × Int := if st = 1 then (1, 0, 0) else if st = 3 then (0, 1, 0) else if st = 2 ∨ st = 4 then (0, 0, 1) else (0, 0, 0)
def spotV (q : Int × Int × Int) : Value := .agg #[.int .i64 q.1, .int .i64 q.2.1, .int .i64 q.2.2]
theorem ret_spot {a : Act} {w0 w : World} {x y z : Int} (hp : a.tmps.getD 2 undef = .pointer (some ⟨w0.heap.size, 0, none⟩)) (hd : a.defers = []) (hb : w.heap[w0.heap.size]? = some (.cells #[.int .i64 x, .int .i64 y, .int .i64 z] 126 (0, 0))) (hx : Ext w0 w) {q : Int × Int × Int} (hq : q = (x, y, z)) :
    bodyPost Try.prog Try.f91 (fun e w' => e = .returned (spotV q) ∧ Ext w0 w') .ret a w := by
  subst hq
  exact bodyPost_ret (v := .agg #[.int .i64 x, .int .i64 y, .int .i64 z]) (results_cell_row rfl _ _ w0.heap.size _ _ _ _ hp hb Try.underlying126 rfl (by kernel_rfl)) hd ⟨rfl, hx⟩
set_option maxRecDepth 100000 in
set_option maxHeartbeats 2000000 in
theorem swanted_any (st : Int) (w : World) : Calls Try.prog 91 #[.int .i64 st] w fun e w' => e = .returned (spotV (St.wanted st)) ∧ Ext w w' := by
  by_cases h1 : st = 1
  · subst h1
    have HQ : Hid (St.wanted 1 = (1, 0, 0)) := Lib.hid (by unfold St.wanted; rw [if_pos rfl])
    go_enter Try.func91, Try.ntmps91
    go_wp2
    exact ret_spot rfl rfl (blk_new w _) ((Ext.refl w).alloc _) HQ.out
  · have e1 : (st == 1) = false := by simpa using h1
    by_cases h3 : st = 3
    · subst h3
      have HQ : Hid (St.wanted 3 = (0, 1, 0)) := Lib.hid (by unfold St.wanted; rw [if_neg (by decide), if_pos rfl])
      clear h1 e1
      go_enter Try.func91, Try.ntmps91
      go_wp2
      exact ret_spot rfl rfl (blk_new w _) ((Ext.refl w).alloc _) HQ.out
    · have e3 : (st == 3) = false := by simpa using h3
      by_cases h2 : st = 2
      · subst h2
        have HQ : Hid (St.wanted 2 = (0, 0, 1)) := Lib.hid (by unfold St.wanted; rw [if_neg (by decide), if_neg (by decide), if_pos (.inl rfl)])
        clear h1 e1 h3 e3
        go_enter Try.func91, Try.ntmps91
        go_wp2
        exact ret_spot rfl rfl (blk_new w _) ((Ext.refl w).alloc _) HQ.out
      · have e2 : (st == 2) = false := by simpa using h2
        by_cases h4 : st = 4
        · subst h4
          have HQ : Hid (St.wanted 4 = (0, 0, 1)) := Lib.hid (by unfold St.wanted; rw [if_neg (by decide), if_neg (by decide), if_pos (.inr rfl)])
          clear h1 e1 h3 e3 h2 e2
          go_enter Try.func91, Try.ntmps91
          go_wp2
          exact ret_spot rfl rfl (blk_new w _) ((Ext.refl w).alloc _) HQ.out
        · have e4 : (st == 4) = false := by simpa using h4
          have HQ : Hid (St.wanted st = (0, 0, 0)) := Lib.hid (by unfold St.wanted; rw [if_neg h1, if_neg h3, if_neg (by omega)])
          clear h1 h2 h3 h4
          go_enter Try.func91, Try.ntmps91
          go_wp2
          exact ret_spot rfl rfl (blk_new w _) ((Ext.refl w).alloc _) HQ.out
def l3 (R W M : List Int) : Nat → List Int := fun f => match f with | 0 => R | 1 => W | _ => M
def allW (L : Nat → List Int) (n : Nat) : Bool := St.within (L 0) n && St.within (L 1) n && St.within (L 2) n
structure CenAt (w : World) (cb db n : Nat) (L : Nat → List Int) : Prop where
  box : w.heap[cb]? = some (.cells #[.slice (some ⟨db, 0, none⟩) n n, .bool (!allW L n)] 124 (0, 0))
  row : ∃ X, w.heap[db]? = some (.cells X 126 (0, 0)) ∧ X.size = n * 3 ∧ ∀ i, i < n → ∀ f, f < 3 → X[i * 3 + f]? = some (.int .i64 (St.times (L f) ((i : Int) + 1)))
  ne : cb ≠ db
theorem CenAt.cell {w : World} {cb db n : Nat} {L : Nat → List Int} (h : CenAt w cb db n L) {i f : Nat} (hi : i < n) (hf : f < 3) : w.cell? ⟨db, i * 3 + f, none⟩ = some (.int .i64 (St.times (L f) ((i : Int) + 1))) := by
  obtain ⟨X, hX, hs, hc⟩ := h.row
  exact blk_cell hX _ _ (hc i hi f hf)
theorem CenAt.ext {w w' : World} {cb db n : Nat} {L : Nat → List Int} (h : CenAt w cb db n L) (hx : Ext w w') : CenAt w' cb db n L := by
  obtain ⟨X, hX, hs, hc⟩ := h.row
  exact ⟨hx.blk h.box, ⟨X, hx.blk hX, hs, hc⟩, h.ne⟩
def upd3 (L : Nat → List Int) (f : Nat) (g : Int) : Nat → List Int := fun j => if j = f then L f ++ [g] else L j
theorem upd3_0 (R W M : List Int) (g : Int) : upd3 (l3 R W M) 0 g = l3 (R ++ [g]) W M := by
  funext j; match j with | 0 => rfl | 1 => rfl | _ + 2 => rfl
theorem upd3_1 (R W M : List Int) (g : Int) : upd3 (l3 R W M) 1 g = l3 R (W ++ [g]) M := by
  funext j; match j with | 0 => rfl | 1 => rfl | _ + 2 => rfl
theorem upd3_2 (R W M : List Int) (g : Int) (n : Nat) {w : World} {cb db : Nat} (h : CenAt w cb db n (upd3 (l3 R W M) 2 g)) : CenAt w cb db n (l3 R W (M ++ [g])) :=
  ⟨h.box, by
    obtain ⟨X, hX, hs, hc⟩ := h.row
    refine ⟨X, hX, hs, fun i hi f hf => ?_⟩
    have := hc i hi f hf
    match f, hf with
    | 0, _ => exact this
    | 1, _ => exact this
    | 2, _ => exact this, h.ne⟩
theorem within_snoc (l : List Int) (g n : Int) : St.within (l ++ [g]) n = (St.within l n && decide (1 ≤ g ∧ g ≤ n)) := by
  unfold St.within; rw [List.all_append]; simp
theorem allW_upd {L : Nat → List Int} {f : Nat} (hf : f < 3) (g : Int) (n : Nat) : allW (upd3 L f g) n = (allW L n && decide (1 ≤ g ∧ g ≤ n)) := by
  unfold allW
  match f, hf with
  | 0, _ => simp only [upd3, if_pos, within_snoc]; generalize decide (1 ≤ g ∧ g ≤ (n : Int)) = b; cases b <;> simp
  | 1, _ => simp only [upd3, if_pos, within_snoc]; generalize decide (1 ≤ g ∧ g ≤ (n : Int)) = b; cases b <;> simp
  | 2, _ => simp only [upd3, if_pos, within_snoc]; generalize decide (1 ≤ g ∧ g ≤ (n : Int)) = b; cases b <;> simp
theorem CenAt.bump {w : World} {cb db n : Nat} {L : Nat → List Int} (h : CenAt w cb db n L) {k f : Nat} (hk : k < n) (hf : f < 3) : CenAt (w.setCell ⟨db, k * 3 + f, none⟩ (.int .i64 ((St.times (L f) ((k : Int) + 1) : Nat) + 1))) cb db n (upd3 L f ((k : Int) + 1)) := by
  obtain ⟨X, hX, hs, hc⟩ := h.row
  refine ⟨?_, ⟨_, blk_set hX _ _, by simpa using hs, fun i hi j hj => ?_⟩, h.ne⟩
  · rw [allW_upd hf, decide_eq_true (show 1 ≤ (k : Int) + 1 ∧ (k : Int) + 1 ≤ (n : Int) by omega), Bool.and_true]
    exact blk_set_other h.box _ (Ne.symm h.ne) _
  · by_cases he : j = f
    · subst he
      by_cases hik : i = k
      · subst hik
        rw [Array.getElem?_setIfInBounds_self_of_lt (by omega)]
        simp only [upd3, if_pos]
        rw [times_snoc, if_pos rfl]
        rfl
      · rw [Array.getElem?_setIfInBounds_ne (by omega), hc i hi j hj]
        simp only [upd3, if_pos]
        rw [times_snoc, if_neg (by omega), Nat.add_zero]
    · rw [Array.getElem?_setIfInBounds_ne (by omega), hc i hi j hj]
      simp only [upd3, if_neg he]
theorem CenAt.spoil {w : World} {cb db n : Nat} {L : Nat → List Int} (h : CenAt w cb db n L) {g : Int} {f : Nat} (hg : ¬ (1 ≤ g ∧ g ≤ n)) (hf : f < 3) : CenAt (w.setCell ⟨cb, 1, none⟩ (.bool true)) cb db n (upd3 L f g) := by
  obtain ⟨X, hX, hs, hc⟩ := h.row
  refine ⟨?_, ⟨_, blk_set_other hX _ h.ne _, hs, fun i hi j hj => ?_⟩, h.ne⟩
  · rw [allW_upd hf, decide_eq_false hg, Bool.and_false]
    exact blk_set h.box 1 _
  · rw [hc i hi j hj]
    by_cases he : j = f
    · subst he
      simp only [upd3, if_pos]
      rw [times_snoc, if_neg (by omega), Nat.add_zero]
    · simp only [upd3, if_neg he]
theorem CenAt.setOther {w : World} {cb db n : Nat} {L : Nat → List Int} (h : CenAt w cb db n L) {b i : Nat} (h1 : b ≠ cb) (h2 : b ≠ db) (u : Value) : CenAt (w.setCell ⟨b, i, none⟩ u) cb db n L := by
  obtain ⟨X, hX, hs, hc⟩ := h.row
  exact ⟨blk_set_other h.box _ h1 _, ⟨X, blk_set_other hX _ h2 _, hs, hc⟩, h.ne⟩
def SpotP (cb db n : Nat) (R W M : List Int) (g : Int) (w : World) (e : Ending) (w' : World) : Prop :=
  ∃ b o c0 c1 c2, e = .returned (.pointer (some ⟨b, o, none⟩)) ∧ (w'.cell? ⟨b, o, none⟩ = some (.int .i64 c0) ∧ w'.cell? ⟨b, o + 1, none⟩ = some (.int .i64 c1) ∧ w'.cell? ⟨b, o + 2, none⟩ = some (.int .i64 c2) ∧ ∀ i, w'.frozen? ⟨b, i, none⟩ = false) ∧ (0 ≤ c0 ∧ c0 ≤ 100000000 ∧ 0 ≤ c1 ∧ c1 ≤ 100000000 ∧ 0 ≤ c2 ∧ c2 ≤ 100000000) ∧
    CenAt (w'.setCell ⟨b, o, none⟩ (.int .i64 (c0 + 1))) cb db n (l3 (R ++ [g]) W M) ∧ CenAt (w'.setCell ⟨b, o + 1, none⟩ (.int .i64 (c1 + 1))) cb db n (l3 R (W ++ [g]) M) ∧ CenAt (w'.setCell ⟨b, o + 2, none⟩ (.int .i64 (c2 + 1))) cb db n (l3 R W (M ++ [g])) ∧
    (∀ i u, But (fun k => k = cb ∨ k = db) w (w'.setCell ⟨b, i, none⟩ u))
theorem spotP_good {cb db n : Nat} {R W M : List Int} {w : World} (h : CenAt w cb db n (l3 R W M)) {k : Nat} (hk : k < n) (hl : R.length ≤ 100000000 ∧ W.length ≤ 100000000 ∧ M.length ≤ 100000000) : SpotP cb db n R W M ((k : Int) + 1) w (.returned (.pointer (some ⟨db, k * 3, none⟩))) w := by
  have t0 := times_le R ((k : Int) + 1)
  have t1 := times_le W ((k : Int) + 1)
  have t2 := times_le M ((k : Int) + 1)
  refine ⟨db, k * 3, St.times R ((k : Int) + 1), St.times W ((k : Int) + 1), St.times M ((k : Int) + 1), rfl, ⟨h.cell hk (f := 0) (by omega), h.cell hk (f := 1) (by omega), h.cell hk (f := 2) (by omega), fun i => by obtain ⟨X, hX, _⟩ := h.row; exact frozen_of_row _ _ i _ _ hX⟩, by omega, ?_, ?_, ?_, fun i u => But.upd ((Upd.refl db w).set i u) (.inr rfl)⟩
  · have := h.bump hk (f := 0) (by omega); rw [upd3_0] at this; exact this
  · have := h.bump hk (f := 1) (by omega); rw [upd3_1] at this; exact this
  · exact upd3_2 _ _ _ _ _ (h.bump hk (f := 2) (by omega))
theorem spotP_bad {cb db n : Nat} {R W M : List Int} {w : World} (h : CenAt w cb db n (l3 R W M)) {g : Int} (hg : ¬ (1 ≤ g ∧ g ≤ n)) {w' : World} (hw : w' = (w.setCell ⟨cb, 1, none⟩ (.bool true)).alloc (.cells #[.int .i64 0, .int .i64 0, .int .i64 0] 126)) : SpotP cb db n R W M g w (.returned (.pointer (some ⟨w.heap.size, 0, none⟩))) w' := by
  have hs : (w.setCell ⟨cb, 1, none⟩ (.bool true)).heap.size = w.heap.size := by simp [World.setCell]
  have hb : w'.heap[w.heap.size]? = some (.cells #[.int .i64 0, .int .i64 0, .int .i64 0] 126 (0, 0)) := by
    rw [hw]
    have := blk_new (w.setCell ⟨cb, 1, none⟩ (.bool true)) (.cells #[.int .i64 0, .int .i64 0, .int .i64 0] 126)
    rwa [hs] at this
  have hcb := blk_lt h.box
  have hdb : db < w.heap.size := by obtain ⟨X, hX, _⟩ := h.row; exact blk_lt hX
  have hk : ∀ f, f < 3 → CenAt w' cb db n (upd3 (l3 R W M) f g) := fun f hf => by rw [hw]; exact (h.spoil hg hf).ext ((Ext.refl _).alloc _)
  refine ⟨w.heap.size, 0, 0, 0, 0, rfl, ⟨blk_cell hb 0 _ rfl, blk_cell hb 1 _ rfl, blk_cell hb 2 _ rfl, fun i => frozen_of_row _ _ i _ _ hb⟩, by omega, ?_, ?_, ?_, fun i u => ?_⟩
  · have := (hk 0 (by omega)).setOther (i := 0) (b := w.heap.size) (by omega) (by omega) (.int .i64 (0 + 1)); rw [upd3_0] at this; exact this
  · have := (hk 1 (by omega)).setOther (i := 0 + 1) (b := w.heap.size) (by omega) (by omega) (.int .i64 (0 + 1)); rw [upd3_1] at this; exact this
  · exact upd3_2 _ _ _ _ _ ((hk 2 (by omega)).setOther (i := 0 + 2) (b := w.heap.size) (by omega) (by omega) (.int .i64 (0 + 1)))
  · rw [hw]
    exact But.upd ((((Upd.refl cb w).set 1 _).trans (Upd.ext ((Ext.refl _).alloc _))).newset (p := ⟨w.heap.size, i, none⟩) (Nat.le_refl _) u) (.inl rfl)
set_option maxRecDepth 100000 in
set_option maxHeartbeats 1000000 in
theorem sof_any (cb db n : Nat) (R W M : List Int) (g : Int) (w : World) (h : CenAt w cb db n (l3 R W M)) (hn : n ≤ 100000000) (hl : R.length ≤ 100000000 ∧ W.length ≤ 100000000 ∧ M.length ≤ 100000000) : Calls Try.prog 105 #[.pointer (some ⟨cb, 0, none⟩), .int .i64 g] w (SpotP cb db n R W M g w) := by
  have H := Lib.hid h
  have hb := h.box
  have q0 : w.cell? ⟨cb, 0, none⟩ = some (.slice (some ⟨db, 0, none⟩) n n) := blk_cell hb 0 _ rfl
  have HL := Lib.hid hl
  have HB := Lib.hid hb
  clear h hb hl
  by_cases h1 : g < 1
  · have HP : Hid (∀ w', w' = (w.setCell ⟨cb, 1, none⟩ (.bool true)).alloc (.cells #[.int .i64 0, .int .i64 0, .int .i64 0] 126) → SpotP cb db n R W M g w (.returned (.pointer (some ⟨w.heap.size, 0, none⟩))) w') := Lib.hid fun w' hw' => spotP_bad H.out (by omega) hw'
    have q1 : w.cell? ⟨cb, 1, none⟩ = some (.bool (!allW (l3 R W M) n)) := blk_cell HB.out 1 _ rfl
    have q2 := frozen_of_row _ _ 1 _ _ HB.out
    go_enter Try.func105, Try.ntmps105
    go_wp2
    go_ret
    exact HP.out _ rfl
  · by_cases h2 : (n : Int) < g
    · have HP : Hid (∀ w', w' = (w.setCell ⟨cb, 1, none⟩ (.bool true)).alloc (.cells #[.int .i64 0, .int .i64 0, .int .i64 0] 126) → SpotP cb db n R W M g w (.returned (.pointer (some ⟨w.heap.size, 0, none⟩))) w') := Lib.hid fun w' hw' => spotP_bad H.out (by omega) hw'
      have q1 : w.cell? ⟨cb, 1, none⟩ = some (.bool (!allW (l3 R W M) n)) := blk_cell HB.out 1 _ rfl
      have q2 := frozen_of_row _ _ 1 _ _ HB.out
      have h1' : decide (g < 1) = false := by simpa using h1
      clear h1
      go_enter Try.func105, Try.ntmps105
      go_wp2
      go_ret
      exact HP.out _ rfl
    · obtain ⟨k, rfl⟩ : ∃ k : Nat, g = (k : Int) + 1 := ⟨(g - 1).toNat, by omega⟩
      have hk : (k : Int) < (n : Int) := by omega
      have HP := Lib.hid (spotP_good H.out (k := k) (by omega) HL.out)
      have e1 : (k : Int) + 1 - 1 = (k : Int) := by omega
      have e2 : ¬ (n : Int) < (k : Int) + 1 := by omega
      clear h1 h2
      go_enter Try.func105, Try.ntmps105
      go_wp2
      go_ret
      exact HP.out
def St.onAll (s : St) : List Int := (s.ms.filter fun m => m.2 != 0).map Prod.snd
theorem Try.infoSpots : (Try.prog.info? 126).map (fun i => (i.zero, i.size, i.bytes)) = some (some (.agg #[.int .i64 0, .int .i64 0, .int .i64 0]), 3, 24) := by kernel_rfl
theorem made3 (n i f : Nat) (hi : i < n) (hf : f < 3) : (madeCells #[.int .i64 0, .int .i64 0, .int .i64 0] (n * 3))[i * 3 + f]? = some (.int .i64 0) := by
  have h1 : i * 3 + f < n * 3 := by omega
  simp only [madeCells, Array.getElem?_map, Array.getElem?_range, h1]
  have h2 : (i * 3 + f) % 3 = f := by omega
  match f, hf with
  | 0, _ => simp
  | 1, _ => simp
  | 2, _ => simp
theorem census_new (w : World) (n : Nat) (w2 w3 : World) (h2 : w2 = w.alloc (.cells (madeCells #[.int .i64 0, .int .i64 0, .int .i64 0] (n * 3)) 126)) (h3 : w3 = w2.alloc (.cells #[.slice (some ⟨w.heap.size, 0, none⟩) n n, .bool false] 124)) : CenAt w3 w2.heap.size w.heap.size n (l3 [] [] []) := by
  have hs : w2.heap.size = w.heap.size + 1 := by rw [h2, World.size_alloc]
  refine ⟨by rw [h3]; exact blk_new w2 _, ⟨_, by rw [h3]; exact blk_alloc (by rw [h2]; exact blk_new w _) _, size_madeCells _ _, fun i hi f hf => ?_⟩, by omega⟩
  rw [made3 n i f hi hf]
  match f, hf with
  | 0, _ => rfl
  | 1, _ => rfl
  | 2, _ => rfl
theorem take_next {α : Type} {l : List α} {k : Nat} {x : α} (h : l[k]? = some x) : l.take (k + 1) = l.take k ++ [x] := by
  obtain ⟨h1, h2⟩ := List.getElem?_eq_some_iff.1 h
  rw [List.take_succ_eq_append_getElem h1, h2]
def CRnd (w1 : World) (cb db n : Nat) (R W M : List Int) (w : World) : Prop := CenAt w cb db n (l3 R W M) ∧ Ext w1 w
theorem CRnd.ext {w1 w w' : World} {cb db n : Nat} {R W M : List Int} (h : CRnd w1 cb db n R W M w) (hx : Ext w w') : CRnd w1 cb db n R W M w' := ⟨h.1.ext hx, h.2.trans hx⟩
theorem St.runs_few {s : St} (hf : StFew s) (k j : Nat) : ((s.ps.take k).flatMap St.queueOf).length + j ≤ 900000 + j := by
  have := flatMap_len9 (s.ps.take k)
  rw [List.length_take] at this
  have := hf.ps
  omega
theorem St.wts_len {s : St} (hf : StFew s) (k : Nat) : ((s.wts.take k).flatten).length ≤ 400000 := by
  have := flatten_few (l := s.wts.take k) fun x hx => by
    obtain ⟨j, hj⟩ := List.mem_iff_getElem?.1 (List.mem_of_mem_take hx)
    exact wts_few hf.w hj
  have h4 : (s.wts.take k).length ≤ 4 := by rw [List.length_take]; simp [St.wts]; omega
  omega
theorem CenAt.lt {w : World} {cb db n : Nat} {L : Nat → List Int} (h : CenAt w cb db n L) : cb < w.heap.size ∧ db < w.heap.size := by
  obtain ⟨X, hX, _⟩ := h.row
  exact ⟨blk_lt h.box, blk_lt hX⟩
set_option maxRecDepth 100000 in
set_option maxHeartbeats 16000000 in
theorem scount_any (h : StH) (s : St) (w : World) (hk : StOk w h s) (hf : StFew s) : Calls Try.prog 90 #[stV h s] w fun e w' => ∃ cb db, e = .returned (.pointer (some ⟨cb, 0, none⟩)) ∧ CenAt w' cb db s.gs.length (l3 s.runs s.waiters s.onAll) ∧ Ext w w' := by
  have f0 := hf.gs
  have f1 := hf.ps
  have f2 := hf.glob
  have f3 := hf.timers
  have f4 := hf.ms
  have F2 := Lib.hid hf.w
  have HFW := Lib.hid hf
  have HK := Lib.hid hk
  obtain ⟨w1, hw1⟩ : ∃ w1, w.alloc (.cells #[.slice h.pa s.prog.length h.pc, .slice h.ga s.gs.length h.gc, .slice h.qa s.ps.length h.qc, .slice h.ma s.ms.length h.mc, .slice h.la s.glob.length h.lc, .int .i64 s.c0, .int .i64 s.c1, .int .i64 s.c2, .int .i64 s.c3, .slice h.a0 s.w0.length h.k0, .slice h.a1 s.w1.length h.k1, .slice h.a2 s.w2.length h.k2, .slice h.a3 s.w3.length h.k3, .slice h.ta s.timers.length h.tc, .int .i64 s.clock, .int .i64 s.procs] 47) = w1 := ⟨_, rfl⟩
  have HX1 : Hid (Ext w w1) := Lib.hid (by rw [← hw1]; exact (Ext.refl w).alloc _)
  have HB1 : Hid (w1.heap[w.heap.size]? = some (.cells (stC h s) 47 (0, 0))) := Lib.hid (by rw [← hw1]; exact blk_new w _)
  have HK1 := Lib.hid (hk.ext HX1.out)
  have HW1 := Lib.hid hw1
  clear hw1 hk
  have HKN := Lib.hid (rfl : s.gs.length = s.gs.length)
  obtain ⟨i0, I0, I1, I2, I3⟩ := info_parts Try.infoSpots
  have hmk : (Instr.makeSlice 122 (.int .i64 (s.gs.length : Int)) (.int .i64 (s.gs.length : Int))).run Try.prog w1 = .ok (.slice (some ⟨w1.heap.size, 0, none⟩) s.gs.length s.gs.length) (w1.alloc (.cells (madeCells #[.int .i64 0, .int .i64 0, .int .i64 0] (s.gs.length * 3)) 126)) := by
    have := run_make (P := Try.prog) w1 122 126 i0 (.agg #[.int .i64 0, .int .i64 0, .int .i64 0]) Try.underlying122 I0 I1 .i64 .i64 (s.gs.length : Int) (s.gs.length : Int) (by omega) (by omega) (by rw [I3]; omega) (by omega)
    rw [I2] at this
    simp only [Int.toNat_natCast] at this
    exact this
  obtain ⟨w2, hw2⟩ : ∃ w2, w1.alloc (.cells (madeCells #[.int .i64 0, .int .i64 0, .int .i64 0] (s.gs.length * 3)) 126) = w2 := ⟨_, rfl⟩
  obtain ⟨db, hdb⟩ : ∃ db, w1.heap.size = db := ⟨_, rfl⟩
  obtain ⟨w3, hw3⟩ : ∃ w3, w2.alloc (.cells #[.slice (some ⟨db, 0, none⟩) s.gs.length s.gs.length, .bool false] 124) = w3 := ⟨_, rfl⟩
  obtain ⟨cb, hcb⟩ : ∃ cb, w2.heap.size = cb := ⟨_, rfl⟩
  have HC3 : Hid (CRnd w1 cb db s.gs.length [] [] [] w3) := Lib.hid (by
    have := census_new w1 s.gs.length w2 w3 hw2.symm (by rw [hdb]; exact hw3.symm)
    rw [hdb, hcb] at this
    exact ⟨this, by rw [← hw3, ← hw2]; exact ((Ext.refl w1).alloc _).alloc _⟩)
  have hd1 : w1.heap.size ≤ db := by omega
  have hc1 : w1.heap.size ≤ cb := by rw [← hcb, ← hw2, World.size_alloc]; omega
  have HD1 := Lib.hid hd1
  have HC1 := Lib.hid hc1
  rw [hw2, hdb] at hmk
  have HW3 := Lib.hid hw3
  have HCB := Lib.hid hcb
  have q1 := st1 HB1.out
  have q2 := st2 (HC3.out.2.blk HB1.out)
  have HCL : Hid (cb < w3.heap.size ∧ db < w3.heap.size) := Lib.hid HC3.out.1.lt
  clear hw2 hw3 hcb hd1 hc1 hdb hf I0 I1 I2 I3
  unfold stV
  go_enter Try.func90, Try.ntmps90
  go_upto_region 1 with fail
  rw [HW1.out]
  generalize Value.agg #[.slice h.pa s.prog.length h.pc, .slice h.ga s.gs.length h.gc, .slice h.qa s.ps.length h.qc, .slice h.ma s.ms.length h.mc, .slice h.la s.glob.length h.lc, .int .i64 s.c0, .int .i64 s.c1, .int .i64 s.c2, .int .i64 s.c3, .slice h.a0 s.w0.length h.k0, .slice h.a1 s.w1.length h.k1, .slice h.a2 s.w2.length h.k2, .slice h.a3 s.w3.length h.k3, .slice h.ta s.timers.length h.tc, .int .i64 s.clock, .int .i64 s.procs] = sv0
  go_wp2_with (rw [HW3.out])
  rw [HCB.out]
  clear q1 q2 hmk
  obtain ⟨qa, hqa⟩ : ∃ qa, h.qa = qa := ⟨_, rfl⟩
  have HQA := Lib.hid hqa
  rw [hqa]
  clear hqa
  go_loopw [27] (fun iv wr => ∃ k : Nat, k ≤ s.ps.length ∧ iv = .int .i64 k ∧ CRnd w1 cb db s.gs.length ((s.ps.take k).flatMap St.queueOf) [] [] wr) (fun iv _ => s.ps.length - (intOf iv).toNat)
  case atStart => exact ⟨0, by omega, rfl, HC3.out⟩
  case round =>
    obtain ⟨k, hk, rfl, hc⟩ := hrel
    have HC := Lib.hid hc
    clear hc
    by_cases hlt : k < s.ps.length
    · obtain ⟨p, hp⟩ : ∃ p, s.ps[k]? = some p := ⟨_, List.getElem?_eq_getElem hlt⟩
      obtain ⟨m, nx, r, sq⟩ := p
      obtain ⟨b0, b1, b2, b3, b4, b5, b6, b7, hd, nn, rfl⟩ := Ri.open8 (HK.out.buf _ (List.mem_of_getElem? hp))
      obtain ⟨b, o, hA, hb, hc⟩ := ps_get (HK1.out.ext HC.out.2).ps hp
      rw [HQA.out] at hA
      subst hA
      obtain ⟨⟨p0, p1, p2, p3, p4, p5, p6⟩, p7, p8, p9, p10, p11, p12⟩ := hc
      obtain ⟨q, hq⟩ : ∃ q, St.queueOf ⟨m, nx, ⟨[b0, b1, b2, b3, b4, b5, b6, b7], hd, nn⟩, sq⟩ = q := ⟨_, rfl⟩
      have HF : Hid ((s.ps.take (k + 1)).flatMap St.queueOf = (s.ps.take k).flatMap St.queueOf ++ q) := Lib.hid (by rw [← hq]; exact flatMap_next St.queueOf hp)
      have HQ9 : Hid (q.length ≤ 9) := Lib.hid (by rw [← hq]; exact queueOf_len _)
      obtain ⟨w4, hw4⟩ : ∃ w4, wr.alloc (.cells #[.int .i64 m, .int .i64 nx, .int .i64 b0, .int .i64 b1, .int .i64 b2, .int .i64 b3, .int .i64 b4, .int .i64 b5, .int .i64 b6, .int .i64 b7, .int .i64 hd, .int .i64 nn, .int .i64 sq] 77) = w4 := ⟨_, rfl⟩
      have HW4 := Lib.hid hw4
      have HX4 : Hid (Ext wr w4) := Lib.hid (by rw [← hw4]; exact (Ext.refl wr).alloc _)
      have HB4 : Hid (w4.heap[wr.heap.size]? = some (.cells #[.int .i64 m, .int .i64 nx, .int .i64 b0, .int .i64 b1, .int .i64 b2, .int .i64 b3, .int .i64 b4, .int .i64 b5, .int .i64 b6, .int .i64 b7, .int .i64 hd, .int .i64 nn, .int .i64 sq] 77 (0, 0))) := Lib.hid (by rw [← hw4]; exact blk_new wr _)
      have HSQ : Hid (Calls Try.prog 104 #[.agg #[.int .i64 m, .int .i64 nx, .int .i64 b0, .int .i64 b1, .int .i64 b2, .int .i64 b3, .int .i64 b4, .int .i64 b5, .int .i64 b6, .int .i64 b7, .int .i64 hd, .int .i64 nn, .int .i64 sq]] w4 (IntsP q w4)) := Lib.hid (by rw [← hq]; exact squeue_any m nx b0 b1 b2 b3 b4 b5 b6 b7 hd nn sq w4)
      have HL1 := Lib.hid (St.runs_few HFW.out k 0)
      clear hp hb hq hw4
      go_upto_region 5 with fail
      rw [HW4.out]
      clear p0 p1 p2 p3 p4 p5 p6 p7 p8 p9 p10 p11 p12
      obtain ⟨⟨p0, p1, p2, p3, p4, p5, p6⟩, p7, p8, p9, p10, p11, p12⟩ := cells13 HB4.out
      go_wp2_with fail
      refine HSQ.out.mono ?_
      rintro e w5 ⟨A3, c3, rfl, ho3, hx3⟩
      clear p0 p1 p2 p3 p4 p5 p6 p7 p8 p9 p10 p11 p12
      have H5 : Hid (CRnd w1 cb db s.gs.length ((s.ps.take k).flatMap St.queueOf) [] [] w5) := Lib.hid (HC.out.ext (HX4.out.trans hx3))
      have HO3 := Lib.hid ho3
      have HS4 : Hid (cb < w4.heap.size ∧ db < w4.heap.size) := Lib.hid (by have := HC.out.1.lt; have := HX4.out.size; omega)
      clear ho3 hx3 HC
      obtain ⟨wo, rfl⟩ : ∃ wo, wo = wr := ⟨_, rfl⟩
      go_wp2_with fail
      go_loopw [34] (fun iv wr => ∃ j : Nat, j ≤ q.length ∧ iv = .int .i64 j ∧ CenAt wr cb db s.gs.length (l3 ((s.ps.take k).flatMap St.queueOf ++ q.take j) [] []) ∧ But (fun i => i = cb ∨ i = db) w5 wr) (fun iv _ => q.length - (intOf iv).toNat)
      case atStart => exact ⟨0, by omega, rfl, by simpa using H5.out.1, But.refl _ _⟩
      case round =>
        obtain ⟨j, hj, rfl, hc, hbt⟩ := hrel
        have HC := Lib.hid hc
        have HBT := Lib.hid hbt
        have hq9 : (q.length : Int) ≤ 9 := by have := HQ9.out; omega
        by_cases hlt2 : j < q.length
        · obtain ⟨g, hg⟩ : ∃ g, q[j]? = some g := ⟨_, List.getElem?_eq_getElem hlt2⟩
          obtain ⟨b, o, rfl, hb, hcell⟩ := ints_get HO3.out.at.2 hg
          have hfar := HO3.out.far rfl
          have cq : wr.cell? ⟨b, o + j, none⟩ = some (.int .i64 g) := (hbt.cell hb (by have := HS4.out; rintro (e | e) <;> omega)).trans hcell
          have HS := Lib.hid (sof_any cb db s.gs.length _ [] [] g wr hc (by omega) ⟨by rw [List.length_append, List.length_take]; have := HL1.out; have := HQ9.out; omega, by simp, by simp⟩)
          have HG := Lib.hid hg
          clear hc hbt hb hcell hfar hg
          go_wp2_with fail
          refine HS.out.mono ?_
          rintro e w7 ⟨bb, oo, c0, c1, c2, rfl, ⟨z0, z1, z2, zf⟩, ⟨y0, y1, y2, y3, y4, y5⟩, hn0, -, -, hb2⟩
          have zf0 := zf oo
          have HN : Hid (CenAt (w7.setCell ⟨bb, oo, none⟩ (.int .i64 (c0 + 1))) cb db s.gs.length (l3 ((s.ps.take k).flatMap St.queueOf ++ q.take (j + 1)) [] [])) := Lib.hid (by rw [take_next HG.out, ← List.append_assoc]; exact hn0)
          have HB2 := Lib.hid (HBT.out.trans (hb2 oo (.int .i64 (c0 + 1))))
          clear hn0 hb2 zf z1 z2 cq
          go_wp2
          go_roundw
          case rel => exact ⟨j + 1, by omega, by go_num, HN.out, HB2.out⟩
          case measure => simp [intOf]; omega
        · obtain rfl : j = q.length := by omega
          clear hc hbt
          have HN : Hid (CRnd w1 cb db s.gs.length ((s.ps.take (k + 1)).flatMap St.queueOf) [] [] wr) := Lib.hid ⟨by rw [HF.out]; have := HC.out; rwa [List.take_length] at this, HBT.out.after H5.out.2 (by have := HD1.out; have := HC1.out; rintro i (rfl | rfl) <;> assumption)⟩
          go_wp2
          go_roundw
          case rel => exact ⟨k + 1, by omega, by go_num, HN.out⟩
          case measure => simp [intOf]; omega
    · obtain rfl : k = s.ps.length := by omega
      rw [List.take_length] at HC
      have HLR : Hid ((s.ps.flatMap St.queueOf).length ≤ 900000) := Lib.hid (by have := St.runs_few HFW.out s.ps.length 0; rw [List.take_length] at this; omega)
      have q4 := st4 (HC.out.2.blk HB1.out)
      obtain ⟨wo, rfl⟩ : ∃ wo, wo = wr := ⟨_, rfl⟩
      go_wp2_with fail
      clear q4
      obtain ⟨la, hla⟩ : ∃ la, h.la = la := ⟨_, rfl⟩
      have HLA := Lib.hid hla
      rw [hla]
      clear hla
      go_loopw [52] (fun iv wr => ∃ k : Nat, k ≤ s.glob.length ∧ iv = .int .i64 k ∧ CRnd w1 cb db s.gs.length (s.ps.flatMap St.queueOf ++ s.glob.take k) [] [] wr) (fun iv _ => s.glob.length - (intOf iv).toNat)
      case atStart => exact ⟨0, by omega, rfl, by simpa using HC.out⟩
      case round =>
        clear HC
        obtain ⟨k, hk, rfl, hc⟩ := hrel
        have HC := Lib.hid hc
        clear hc
        by_cases hlt : k < s.glob.length
        · obtain ⟨g, hg⟩ : ∃ g, s.glob[k]? = some g := ⟨_, List.getElem?_eq_getElem hlt⟩
          obtain ⟨b, o, hA, hb, hcell⟩ := ints_get (HK1.out.ext HC.out.2).glob hg
          rw [HLA.out] at hA
          subst hA
          have HS := Lib.hid (sof_any cb db s.gs.length _ [] [] g wr HC.out.1 (by omega) ⟨by rw [List.length_append, List.length_take]; have := HLR.out; omega, by simp, by simp⟩)
          have HG := Lib.hid hg
          clear hb hg
          go_wp2_with fail
          refine HS.out.mono ?_
          rintro e w7 ⟨bb, oo, c0, c1, c2, rfl, ⟨z0, z1, z2, zf⟩, ⟨y0, y1, y2, y3, y4, y5⟩, hn0, -, -, hb2⟩
          have zf0 := zf (oo)
          have HN : Hid (CenAt (w7.setCell ⟨bb, oo, none⟩ (.int .i64 (c0 + 1))) cb db s.gs.length (l3 (s.ps.flatMap St.queueOf ++ s.glob.take (k + 1)) [] [])) := Lib.hid (by rw [take_next HG.out, ← List.append_assoc]; exact hn0)
          have HB2 : Hid (Ext w1 (w7.setCell ⟨bb, oo, none⟩ (.int .i64 (c0 + 1)))) := Lib.hid ((hb2 oo _).after HC.out.2 (by have := HD1.out; have := HC1.out; rintro i (rfl | rfl) <;> assumption))
          clear hn0 hb2 zf z1 z2 hcell
          go_wp2
          go_roundw
          case rel => exact ⟨k + 1, by omega, by go_num, HN.out, HB2.out⟩
          case measure => simp [intOf]; omega
        · obtain rfl : k = s.glob.length := by omega
          rw [List.take_length] at HC
          have HR : Hid (s.ps.flatMap St.queueOf ++ s.glob = s.runs) := Lib.hid rfl
          rw [HR.out] at HC
          have HLQ : Hid (s.runs.length ≤ 1000000) := Lib.hid (by rw [← HR.out, List.length_append]; have := HLR.out; omega)
          have q9 := st9 (HC.out.2.blk HB1.out)
          have q10 := st10 (HC.out.2.blk HB1.out)
          have q11 := st11 (HC.out.2.blk HB1.out)
          have q12 := st12 (HC.out.2.blk HB1.out)
          obtain ⟨wo, rfl⟩ : ∃ wo, wo = wr := ⟨_, rfl⟩
          go_wp2_with fail
          clear q9 q10 q11 q12
          go_loopw [68] (fun iv wr => ∃ k : Nat, k ≤ 4 ∧ iv = .int .i64 k ∧ CRnd w1 cb db s.gs.length s.runs ((s.wts.take k).flatten) [] wr) (fun iv _ => 4 - (intOf iv).toNat)
          case atStart => exact ⟨0, by omega, rfl, by simpa using HC.out⟩
          case round =>
            clear HC
            obtain ⟨k, hk, rfl, hc⟩ := hrel
            have HC := Lib.hid hc
            clear hc
            by_cases hlt : k < 4
            · obtain ⟨A0, d0, l, hcell, hI, hl⟩ := HK1.out.wait hlt
              have hidx : ∀ w, (Instr.index 44 (.agg #[.slice h.a0 s.w0.length h.k0, .slice h.a1 s.w1.length h.k1, .slice h.a2 s.w2.length h.k2, .slice h.a3 s.w3.length h.k3]) (.int .i64 (k : Int))).run Try.prog w = .ok (.slice A0 l.length d0) w := fun w => by
                obtain rfl | rfl | rfl | rfl : k = 0 ∨ k = 1 ∨ k = 2 ∨ k = 3 := by omega
                · have he : Value.slice h.a0 s.w0.length h.k0 = .slice A0 l.length d0 := Option.some.inj hcell
                  refine Eq.trans (b := .ok (.slice h.a0 s.w0.length h.k0) w) ?_ (by rw [he])
                  kernel_rfl
                · have he : Value.slice h.a1 s.w1.length h.k1 = .slice A0 l.length d0 := Option.some.inj hcell
                  refine Eq.trans (b := .ok (.slice h.a1 s.w1.length h.k1) w) ?_ (by rw [he])
                  kernel_rfl
                · have he : Value.slice h.a2 s.w2.length h.k2 = .slice A0 l.length d0 := Option.some.inj hcell
                  refine Eq.trans (b := .ok (.slice h.a2 s.w2.length h.k2) w) ?_ (by rw [he])
                  kernel_rfl
                · have he : Value.slice h.a3 s.w3.length h.k3 = .slice A0 l.length d0 := Option.some.inj hcell
                  refine Eq.trans (b := .ok (.slice h.a3 s.w3.length h.k3) w) ?_ (by rw [he])
                  kernel_rfl
              have HI := Lib.hid (hI.ext (Ext.refl w1))
              have HF := Lib.hid (flatten_next hl)
              have hll := wts_few F2.out hl
              have HLW := Lib.hid (St.wts_len HFW.out k)
              clear hcell hI hl
              obtain ⟨wo, rfl⟩ : ∃ wo, wo = wr := ⟨_, rfl⟩
              go_wp2_with fail
              clear hidx
              rename_i hA hK hB
              have HLT := Lib.hid hlt
              clear hA hlt
              go_loopw [73] (fun iv wr => ∃ j : Nat, j ≤ l.length ∧ iv = .int .i64 j ∧ CRnd w1 cb db s.gs.length s.runs ((s.wts.take k).flatten ++ l.take j) [] wr) (fun iv _ => l.length - (intOf iv).toNat)
              case atStart => exact ⟨0, by omega, rfl, by simpa using HC.out⟩
              case round =>
                clear HC
                obtain ⟨j, hj, rfl, hc⟩ := hrel
                have HC := Lib.hid hc
                clear hc
                by_cases hlt2 : j < l.length
                · obtain ⟨g, hg⟩ : ∃ g, l[j]? = some g := ⟨_, List.getElem?_eq_getElem hlt2⟩
                  obtain ⟨b, o, rfl, hb, hcell⟩ := ints_get (HI.out.ext HC.out.2) hg
                  have HS := Lib.hid (sof_any cb db s.gs.length _ _ [] g wr HC.out.1 (by omega) ⟨by have := HLQ.out; omega, by rw [List.length_append, List.length_take]; have := HLW.out; omega, by simp⟩)
                  have HG := Lib.hid hg
                  clear hb hg
                  go_wp2_with fail
                  refine HS.out.mono ?_
                  rintro e w7 ⟨bb, oo, c0, c1, c2, rfl, ⟨z0, z1, z2, zf⟩, ⟨y0, y1, y2, y3, y4, y5⟩, -, hn0, -, hb2⟩
                  have zf0 := zf (oo + 1)
                  have HN : Hid (CenAt (w7.setCell ⟨bb, oo + 1, none⟩ (.int .i64 (c1 + 1))) cb db s.gs.length (l3 s.runs ((s.wts.take k).flatten ++ l.take (j + 1)) [])) := Lib.hid (by rw [take_next HG.out, ← List.append_assoc]; exact hn0)
                  have HB2 : Hid (Ext w1 (w7.setCell ⟨bb, oo + 1, none⟩ (.int .i64 (c1 + 1)))) := Lib.hid ((hb2 (oo + 1) _).after HC.out.2 (by have := HD1.out; have := HC1.out; rintro i (rfl | rfl) <;> assumption))
                  clear hn0 hb2 zf z0 z2 hcell
                  go_wp2
                  go_roundw
                  case rel => exact ⟨j + 1, by omega, by go_num, HN.out, HB2.out⟩
                  case measure => simp [intOf]; omega
                · obtain rfl : j = l.length := by omega
                  rw [List.take_length, ← HF.out] at HC
                  have hlt := HLT.out
                  go_wp2
                  go_roundw
                  case rel => exact ⟨k + 1, by omega, by go_num, HC.out⟩
                  case measure => simp [intOf]; omega
            · have HW : Hid ((s.wts.take k).flatten = s.waits) := Lib.hid (by rw [List.take_of_length_le (by simp [St.wts]; omega), St.wts_flatten])
              have HWL : Hid (s.waits.length ≤ 400000) := Lib.hid (by rw [← HW.out]; exact St.wts_len HFW.out k)
              rw [HW.out] at HC
              have q13 := st13 (HC.out.2.blk HB1.out)
              obtain ⟨wo, rfl⟩ : ∃ wo, wo = wr := ⟨_, rfl⟩
              go_wp2_with fail
              clear q13
              obtain ⟨ta, hta⟩ : ∃ ta, h.ta = ta := ⟨_, rfl⟩
              have HTA := Lib.hid hta
              rw [hta]
              clear hta
              go_loopw [91] (fun iv wr => ∃ k : Nat, k ≤ s.timers.length ∧ iv = .int .i64 k ∧ CRnd w1 cb db s.gs.length s.runs (s.waits ++ (s.timers.take k).map Prod.snd) [] wr) (fun iv _ => s.timers.length - (intOf iv).toNat)
              case atStart => exact ⟨0, by omega, rfl, by simpa using HC.out⟩
              case round =>
                clear HC
                obtain ⟨k, hk, rfl, hc⟩ := hrel
                have HC := Lib.hid hc
                clear hc
                by_cases hlt : k < s.timers.length
                · obtain ⟨t, ht⟩ : ∃ t, s.timers[k]? = some t := ⟨_, List.getElem?_eq_getElem hlt⟩
                  obtain ⟨b, o, hA, hb, p0, p1⟩ := frs2_get (HK1.out.ext HC.out.2).timers.rows ht
                  rw [HTA.out] at hA
                  subst hA
                  obtain ⟨ta, tg⟩ := t
                  simp only at p0 p1
                  have HF : Hid ((s.timers.take (k + 1)).map Prod.snd = (s.timers.take k).map Prod.snd ++ [tg]) := Lib.hid (by
                    rw [take_next ht, List.map_append]; rfl)
                  obtain ⟨w4, hw4⟩ : ∃ w4, wr.alloc (.cells #[.int .i64 ta, .int .i64 tg] 129) = w4 := ⟨_, rfl⟩
                  have HW4 := Lib.hid hw4
                  have HC4 : Hid (CRnd w1 cb db s.gs.length s.runs (s.waits ++ (s.timers.take k).map Prod.snd) [] w4) := Lib.hid (HC.out.ext (by rw [← hw4]; exact (Ext.refl wr).alloc _))
                  have HB4 : Hid (w4.heap[wr.heap.size]? = some (.cells #[.int .i64 ta, .int .i64 tg] 129 (0, 0))) := Lib.hid (by rw [← hw4]; exact blk_new wr _)
                  have HS := Lib.hid (sof_any cb db s.gs.length _ _ [] tg w4 HC4.out.1 (by omega) ⟨by have := HLQ.out; omega, by rw [List.length_append, List.length_map, List.length_take]; have := HWL.out; omega, by simp⟩)
                  clear hb ht hw4 HC
                  go_upto_region 28 with fail
                  rw [HW4.out]
                  clear p0 p1
                  have q1 : w4.cell? ⟨wr.heap.size, 1, none⟩ = some (.int .i64 tg) := blk_cell HB4.out 1 _ rfl
                  go_wp2_with fail
                  refine HS.out.mono ?_
                  rintro e w7 ⟨bb, oo, c0, c1, c2, rfl, ⟨z0, z1, z2, zf⟩, ⟨y0, y1, y2, y3, y4, y5⟩, -, hn0, -, hb2⟩
                  have zf0 := zf (oo + 1)
                  have HN : Hid (CenAt (w7.setCell ⟨bb, oo + 1, none⟩ (.int .i64 (c1 + 1))) cb db s.gs.length (l3 s.runs (s.waits ++ (s.timers.take (k + 1)).map Prod.snd) [])) := Lib.hid (by rw [HF.out, ← List.append_assoc]; exact hn0)
                  have HB2 : Hid (Ext w1 (w7.setCell ⟨bb, oo + 1, none⟩ (.int .i64 (c1 + 1)))) := Lib.hid ((hb2 (oo + 1) _).after HC4.out.2 (by have := HD1.out; have := HC1.out; rintro i (rfl | rfl) <;> assumption))
                  clear hn0 hb2 zf z0 z2 q1
                  go_wp2
                  go_roundw
                  case rel => exact ⟨k + 1, by omega, by go_num, HN.out, HB2.out⟩
                  case measure => simp [intOf]; omega
                · obtain rfl : k = s.timers.length := by omega
                  rw [List.take_length] at HC
                  have HR : Hid (s.waits ++ s.timers.map Prod.snd = s.waiters) := Lib.hid rfl
                  rw [HR.out] at HC
                  have HLU : Hid (s.waiters.length ≤ 1000000) := Lib.hid (by rw [← HR.out, List.length_append, List.length_map]; have := HWL.out; omega)
                  have q3 := st3 (HC.out.2.blk HB1.out)
                  obtain ⟨wo, rfl⟩ : ∃ wo, wo = wr := ⟨_, rfl⟩
                  go_wp2_with fail
                  clear q3
                  obtain ⟨ma, hma⟩ : ∃ ma, h.ma = ma := ⟨_, rfl⟩
                  have HMA := Lib.hid hma
                  rw [hma]
                  clear hma
                  go_loopw [109] (fun iv wr => ∃ k : Nat, k ≤ s.ms.length ∧ iv = .int .i64 k ∧ CRnd w1 cb db s.gs.length s.runs s.waiters (((s.ms.take k).filter fun m => m.2 != 0).map Prod.snd) wr) (fun iv _ => s.ms.length - (intOf iv).toNat)
                  case atStart => exact ⟨0, by omega, rfl, by simpa using HC.out⟩
                  case round =>
                    clear HC
                    obtain ⟨k, hk, rfl, hc⟩ := hrel
                    have HC := Lib.hid hc
                    clear hc
                    by_cases hlt : k < s.ms.length
                    · obtain ⟨t, ht⟩ : ∃ t, s.ms[k]? = some t := ⟨_, List.getElem?_eq_getElem hlt⟩
                      obtain ⟨b, o, hA, hb, p0, p1⟩ := frs2_get (HK1.out.ext HC.out.2).ms ht
                      rw [HMA.out] at hA
                      subst hA
                      obtain ⟨tp, tg⟩ := t
                      simp only at p0 p1
                      have HF : Hid (((s.ms.take (k + 1)).filter fun m => m.2 != 0).map Prod.snd = ((s.ms.take k).filter fun m => m.2 != 0).map Prod.snd ++ if tg = 0 then [] else [tg]) := Lib.hid (by
                        rw [take_next ht, List.filter_append, List.map_append]
                        congr 1
                        by_cases h : tg = 0
                        · subst h; rfl
                        · rw [if_neg h, List.filter_cons, if_pos (by simpa using h)]; rfl)
                      have HLF : Hid ((((s.ms.take k).filter fun m => m.2 != 0).map Prod.snd).length ≤ 100000) := Lib.hid (by
                        rw [List.length_map]
                        have := List.length_filter_le (fun m : Int × Int => m.2 != 0) (s.ms.take k)
                        rw [List.length_take] at this
                        omega)
                      obtain ⟨w4, hw4⟩ : ∃ w4, wr.alloc (.cells #[.int .i64 tp, .int .i64 tg] 119) = w4 := ⟨_, rfl⟩
                      have HW4 := Lib.hid hw4
                      have HC4 : Hid (CRnd w1 cb db s.gs.length s.runs s.waiters (((s.ms.take k).filter fun m => m.2 != 0).map Prod.snd) w4) := Lib.hid (HC.out.ext (by rw [← hw4]; exact (Ext.refl wr).alloc _))
                      have HB4 : Hid (w4.heap[wr.heap.size]? = some (.cells #[.int .i64 tp, .int .i64 tg] 119 (0, 0))) := Lib.hid (by rw [← hw4]; exact blk_new wr _)
                      have HS := Lib.hid (sof_any cb db s.gs.length _ _ _ tg w4 HC4.out.1 (by omega) ⟨by have := HLQ.out; omega, by have := HLU.out; omega, by have := HLF.out; omega⟩)
                      clear hb ht hw4 HC
                      go_upto_region 33 with fail
                      rw [HW4.out]
                      clear p0 p1
                      have q1 : w4.cell? ⟨wr.heap.size, 1, none⟩ = some (.int .i64 tg) := blk_cell HB4.out 1 _ rfl
                      by_cases h0 : tg = 0
                      · have HC5 : Hid (CRnd w1 cb db s.gs.length s.runs s.waiters (((s.ms.take (k + 1)).filter fun m => m.2 != 0).map Prod.snd) w4) := Lib.hid (by rw [HF.out, if_pos h0, List.append_nil]; exact HC4.out)
                        subst h0
                        go_wp2
                        go_roundw
                        case rel => exact ⟨k + 1, by omega, by go_num, HC5.out⟩
                        case measure => simp [intOf]; omega
                      · have h0' : (tg != 0) = true := by simpa using h0
                        rw [if_neg h0] at HF
                        clear h0
                        go_wp2_with fail
                        refine HS.out.mono ?_
                        rintro e w7 ⟨bb, oo, c0, c1, c2, rfl, ⟨z0, z1, z2, zf⟩, ⟨y0, y1, y2, y3, y4, y5⟩, -, -, hn0, hb2⟩
                        have zf0 := zf (oo + 2)
                        have HN : Hid (CenAt (w7.setCell ⟨bb, oo + 2, none⟩ (.int .i64 (c2 + 1))) cb db s.gs.length (l3 s.runs s.waiters (((s.ms.take (k + 1)).filter fun m => m.2 != 0).map Prod.snd))) := Lib.hid (by rw [HF.out]; exact hn0)
                        have HB2 : Hid (Ext w1 (w7.setCell ⟨bb, oo + 2, none⟩ (.int .i64 (c2 + 1)))) := Lib.hid ((hb2 (oo + 2) _).after HC4.out.2 (by have := HD1.out; have := HC1.out; rintro i (rfl | rfl) <;> assumption))
                        clear hn0 hb2 zf z0 z1 q1
                        go_wp2
                        go_roundw
                        case rel => exact ⟨k + 1, by omega, by go_num, HN.out, HB2.out⟩
                        case measure => simp [intOf]; omega
                    · obtain rfl : k = s.ms.length := by omega
                      rw [List.take_length] at HC
                      go_wp2
                      go_ret
                      exact ⟨cb, db, rfl, HC.out.1, HX1.out.trans HC.out.2⟩
theorem st16 {v : World} {b : Nat} {h : StH} {s : St} {T : TypeId} (hb : v.heap[b]? = some (.cells (stC h s) T (0, 0))) :
    ((v.cell? ⟨b, 0, none⟩ = some (.slice h.pa s.prog.length h.pc) ∧ v.cell? ⟨b, 1, none⟩ = some (.slice h.ga s.gs.length h.gc) ∧ v.cell? ⟨b, 2, none⟩ = some (.slice h.qa s.ps.length h.qc) ∧ v.cell? ⟨b, 3, none⟩ = some (.slice h.ma s.ms.length h.mc)) ∧
      v.cell? ⟨b, 4, none⟩ = some (.slice h.la s.glob.length h.lc) ∧ v.cell? ⟨b, 5, none⟩ = some (.int .i64 s.c0) ∧ v.cell? ⟨b, 6, none⟩ = some (.int .i64 s.c1) ∧ v.cell? ⟨b, 7, none⟩ = some (.int .i64 s.c2)) ∧
    (v.cell? ⟨b, 8, none⟩ = some (.int .i64 s.c3) ∧ v.cell? ⟨b, 9, none⟩ = some (.slice h.a0 s.w0.length h.k0) ∧ v.cell? ⟨b, 10, none⟩ = some (.slice h.a1 s.w1.length h.k1) ∧ v.cell? ⟨b, 11, none⟩ = some (.slice h.a2 s.w2.length h.k2)) ∧
      v.cell? ⟨b, 12, none⟩ = some (.slice h.a3 s.w3.length h.k3) ∧ v.cell? ⟨b, 13, none⟩ = some (.slice h.ta s.timers.length h.tc) ∧ v.cell? ⟨b, 14, none⟩ = some (.int .i64 s.clock) ∧ v.cell? ⟨b, 15, none⟩ = some (.int .i64 s.procs) :=
  ⟨⟨⟨st0 hb, st1 hb, st2 hb, st3 hb⟩, st4 hb, st5 hb, st6 hb, st7 hb⟩, ⟨st8 hb, st9 hb, st10 hb, st11 hb⟩, st12 hb, st13 hb, st14 hb, st15 hb⟩
def St.placeOk (s : St) (i : Nat) (g : Gr) : Bool := decide ([(St.times s.runs ((i : Int) + 1) : Int), (St.times s.waiters ((i : Int) + 1) : Int), (St.times s.onAll ((i : Int) + 1) : Int)] = [(St.wanted g.st).1, (St.wanted g.st).2.1, (St.wanted g.st).2.2]) && s.holdG i g
def St.places (s : St) : Bool := allW (l3 s.runs s.waiters s.onAll) s.gs.length && allIx s.placeOk 0 s.gs
theorem run_eqSpot (a b c a' b' c' : Int) (w : World) : (Op.equalIn 10000 126 (spotV (a, b, c)) (spotV (a', b', c'))).run Try.prog w = .ok (decide ([a, b, c] = [a', b', c'])) w :=
  run_eqInts (ti := 3) Try.underlying3 (by kernel_rfl) (by kernel_rfl) 3 (by kernel_rfl) [a, b, c] [a', b', c'] rfl rfl w
set_option maxRecDepth 100000 in
set_option maxHeartbeats 16000000 in
theorem smayPlaces_any (h : StH) (s : St) (r : Bool) (hr : s.places = r) (w : World) (hk : StOk w h s) (hf : StFew s) : Calls Try.prog 66 #[stV h s] w fun e w' => e = .returned (.bool r) ∧ Ext w w' := by
  subst hr
  have f1 := hf.gs
  have HFW := Lib.hid hf
  have HK := Lib.hid hk
  obtain ⟨w1, hw1⟩ : ∃ w1, w.alloc (.cells #[.slice h.pa s.prog.length h.pc, .slice h.ga s.gs.length h.gc, .slice h.qa s.ps.length h.qc, .slice h.ma s.ms.length h.mc, .slice h.la s.glob.length h.lc, .int .i64 s.c0, .int .i64 s.c1, .int .i64 s.c2, .int .i64 s.c3, .slice h.a0 s.w0.length h.k0, .slice h.a1 s.w1.length h.k1, .slice h.a2 s.w2.length h.k2, .slice h.a3 s.w3.length h.k3, .slice h.ta s.timers.length h.tc, .int .i64 s.clock, .int .i64 s.procs] 47) = w1 := ⟨_, rfl⟩
  have HX1 : Hid (Ext w w1) := Lib.hid (by rw [← hw1]; exact (Ext.refl w).alloc _)
  have HB1 : Hid (w1.heap[w.heap.size]? = some (.cells (stC h s) 47 (0, 0))) := Lib.hid (by rw [← hw1]; exact blk_new w _)
  have HK1 := Lib.hid (hk.ext HX1.out)
  have HW1 := Lib.hid hw1
  clear hw1 hk
  have HSC := Lib.hid (scount_any h s w1 HK1.out hf)
  clear hf
  obtain ⟨⟨⟨q0, q1, q2, q3⟩, q4, q5, q6, q7⟩, ⟨q8, q9, q10, q11⟩, q12, q13, q14, q15⟩ := st16 HB1.out
  unfold stV at HSC ⊢
  go_enter Try.func66, Try.ntmps66
  go_upto_region 1 with fail
  rw [HW1.out]
  generalize Value.agg #[.slice h.pa s.prog.length h.pc, .slice h.ga s.gs.length h.gc, .slice h.qa s.ps.length h.qc, .slice h.ma s.ms.length h.mc, .slice h.la s.glob.length h.lc, .int .i64 s.c0, .int .i64 s.c1, .int .i64 s.c2, .int .i64 s.c3, .slice h.a0 s.w0.length h.k0, .slice h.a1 s.w1.length h.k1, .slice h.a2 s.w2.length h.k2, .slice h.a3 s.w3.length h.k3, .slice h.ta s.timers.length h.tc, .int .i64 s.clock, .int .i64 s.procs] = sv0
  go_wp2_with fail
  refine HSC.out.mono ?_
  rintro e w2 ⟨cb, db, rfl, hc2, hx2⟩
  generalize Value.agg #[.slice h.pa s.prog.length h.pc, .slice h.ga s.gs.length h.gc, .slice h.qa s.ps.length h.qc, .slice h.ma s.ms.length h.mc, .slice h.la s.glob.length h.lc, .int .i64 s.c0, .int .i64 s.c1, .int .i64 s.c2, .int .i64 s.c3, .slice h.a0 s.w0.length h.k0, .slice h.a1 s.w1.length h.k1, .slice h.a2 s.w2.length h.k2, .slice h.a3 s.w3.length h.k3, .slice h.ta s.timers.length h.tc, .int .i64 s.clock, .int .i64 s.procs] = sv1
  clear q0 q1 q2 q3 q4 q5 q6 q7 q8 q9 q10 q11 q12 q13 q14 q15
  have HC2 := Lib.hid hc2
  have HX2 := Lib.hid hx2
  have z1 : w2.cell? ⟨cb, 1, none⟩ = some (.bool (!allW (l3 s.runs s.waiters s.onAll) s.gs.length)) := blk_cell hc2.box 1 _ rfl
  have z0 : w2.cell? ⟨cb, 0, none⟩ = some (.slice (some ⟨db, 0, none⟩) s.gs.length s.gs.length) := blk_cell hc2.box 0 _ rfl
  have HPL : Hid (s.places = (allW (l3 s.runs s.waiters s.onAll) s.gs.length && allIx s.placeOk 0 s.gs)) := Lib.hid rfl
  generalize allW (l3 s.runs s.waiters s.onAll) s.gs.length = ba at *
  clear hc2 hx2
  cases ba with
  | false =>
    have HNO : Hid (s.places = false) := Lib.hid (by rw [HPL.out]; rfl)
    go_wp2
    go_ret
    exact ⟨by rw [HNO.out] <;> rfl, HX1.out.trans HX2.out⟩
  | true =>
  have HPL2 : Hid (s.places = allIx s.placeOk 0 s.gs) := Lib.hid (by rw [HPL.out]; rfl)
  go_wp2_with fail
  clear z0 z1
  go_loopw [17] (fun iv wr => ∃ k : Nat, k ≤ s.gs.length ∧ iv = .int .i64 k ∧ (∀ (j : Nat) g, s.gs[j]? = some g → j < k → s.placeOk j g = true) ∧ Ext w2 wr) (fun iv _ => s.gs.length - (intOf iv).toNat)
  case atStart => exact ⟨0, by omega, rfl, fun j l _ h => by omega, Ext.refl _⟩
  case round =>
    obtain ⟨k, hk, rfl, hall, hx⟩ := hrel
    have HALL := Lib.hid hall
    have HX := Lib.hid hx
    clear hall hx
    by_cases hlt : k < s.gs.length
    · obtain ⟨g, hg⟩ : ∃ g, s.gs[k]? = some g := ⟨_, List.getElem?_eq_getElem hlt⟩
      have HG := Lib.hid hg
      obtain ⟨ta, hta⟩ : ∃ ta : Int, (St.times s.runs ((k : Int) + 1) : Int) = ta := ⟨_, rfl⟩
      obtain ⟨tb, htb⟩ : ∃ tb : Int, (St.times s.waiters ((k : Int) + 1) : Int) = tb := ⟨_, rfl⟩
      obtain ⟨tc, htc⟩ : ∃ tc : Int, (St.times s.onAll ((k : Int) + 1) : Int) = tc := ⟨_, rfl⟩
      have hcx := HC2.out.ext HX.out
      have p0 : wr.cell? ⟨db, k * 3, none⟩ = some (.int .i64 ta) := by rw [← hta]; exact hcx.cell hlt (f := 0) (by omega)
      have p1 : wr.cell? ⟨db, k * 3 + 1, none⟩ = some (.int .i64 tb) := by rw [← htb]; exact hcx.cell hlt (f := 1) (by omega)
      have p2 : wr.cell? ⟨db, k * 3 + 2, none⟩ = some (.int .i64 tc) := by rw [← htc]; exact hcx.cell hlt (f := 2) (by omega)
      obtain ⟨w4, hw4⟩ : ∃ w4, wr.alloc (.cells #[.int .i64 ta, .int .i64 tb, .int .i64 tc] 126) = w4 := ⟨_, rfl⟩
      have HW4 := Lib.hid hw4
      have hx4 : Ext wr w4 := by rw [← hw4]; exact (Ext.refl wr).alloc _
      have HX4 := Lib.hid (HX2.out.trans (HX.out.trans hx4))
      have HX24 := Lib.hid (HX.out.trans hx4)
      have HB4 : Hid (w4.heap[wr.heap.size]? = some (.cells #[.int .i64 ta, .int .i64 tb, .int .i64 tc] 126 (0, 0))) := Lib.hid (by rw [← hw4]; exact blk_new wr _)
      obtain ⟨b, o, hA, hb, hcc⟩ := gs_get HK1.out.gs hg
      have HA := Lib.hid hA
      have HG2 : Hid (∀ v, Ext w4 v → v.cell? ⟨b, o + k * 5 + 2, none⟩ = some (.int .i64 g.st)) := Lib.hid fun v hv => by
        rw [Below.cell (HX4.out.trans hv) hb]; exact hcc.2.2.1
      obtain ⟨q, hq⟩ : ∃ q, St.wanted g.st = q := ⟨_, rfl⟩
      obtain ⟨qa, qb, qc⟩ := q
      have HWA : Hid (∀ w, Calls Try.prog 91 #[.int .i64 g.st] w fun e w' => e = .returned (.agg #[.int .i64 qa, .int .i64 qb, .int .i64 qc]) ∧ Ext w w') := Lib.hid fun w => by have h1 := swanted_any g.st w; rw [hq] at h1; exact h1
      obtain ⟨bh, hbh⟩ : ∃ bh, s.holdG k g = bh := ⟨_, rfl⟩
      have HBH := Lib.hid hbh
      have HOK : Hid (s.placeOk k g = (decide ([ta, tb, tc] = [qa, qb, qc]) && bh)) := Lib.hid (by unfold St.placeOk; rw [hta, htb, htc, hq, hbh])
      have e1 : IntKind.i64.wrap ((k : Int) + 1) = (k : Int) + 1 := IntWalk.i64_in _ (by omega)
      have i0 : (0 : Int) ≤ (k : Int) := by omega
      have i1 : (k : Int) < (s.gs.length : Int) := by omega
      have HST : Hid (s.placeOk k g = false → s.places = false) := Lib.hid fun h => by rw [HPL2.out]; exact allIx_no hg h
      have HEQ := Lib.hid (run_eqSpot ta tb tc qa qb qc)
      clear hta htb htc hcx hw4 hx4 hg hb hcc hq hbh hA
      go_upto_region 7 with fail
      rw [HW4.out]
      clear p0 p1 p2
      have hA := HA.out
      cases be : decide ([ta, tb, tc] = [qa, qb, qc]) with
      | false =>
        have HNO : Hid (s.places = false) := Lib.hid (HST.out (by rw [HOK.out, be]; rfl))
        have hq : ∀ w, (Op.equalIn 10000 126 (.agg #[.int .i64 ta, .int .i64 tb, .int .i64 tc]) (.agg #[.int .i64 qa, .int .i64 qb, .int .i64 qc])).run Try.prog w = .ok false w := fun w => by rw [← be]; exact HEQ.out w
        clear be
        refine region_rgx ([(7, (fun u => u = .agg #[.int .i64 qa, .int .i64 qb, .int .i64 qc] : Value → Prop), (fun _ _ => True : (Nat → GV) → World → Prop))]) (w4) (by kernel_rfl) (by kernel_rfl) ?_ ?_ ?_
        · exact List.forall_mem_cons.2 ⟨⟨⟨_, rfl⟩, fun _ _ _ _ _ => trivial, fun _ _ _ _ _ => trivial⟩, List.forall_mem_nil _⟩
        · first | assumption | exact Ext.refl _
        refine rg_pure (v := .agg #[.int .i64 ta, .int .i64 tb, .int .i64 tc]) rfl (by kernel_rfl) (by kernel_rfl) (fun w hS hN => ?_) ?_
        · clear hN
          exact givesP_load 126 _ rfl _ (by go_simp) ([.int .i64 ta, .int .i64 tb, .int .i64 tc]) _ rfl _ (range_row (hS.blk HB4.out)) Try.underlying126 rfl (by kernel_rfl)
        refine rg_pure (v := ?_) rfl (by kernel_rfl) (by kernel_rfl) (fun w hS hN => ?_) ?_
        rotate_left 1
        · clear hN
          go_simp
          try simp only [e1]
          refine givesP_mk ?_
          with_reducible rfl
        refine rg_pure (v := ?_) rfl (by kernel_rfl) (by kernel_rfl) (fun w hS hN => ?_) ?_
        rotate_left 1
        · have k1 := st1 ((HX4.out.trans hS).blk HB1.out)
          clear hN
          go_simp
          try simp only [e1]
          refine givesP_mk ?_
          with_reducible rfl
        refine rg_pure (v := ?_) rfl (by kernel_rfl) (by kernel_rfl) (fun w hS hN => ?_) ?_
        rotate_left 1
        · clear hN
          go_simp
          try simp only [e1]
          refine givesP_mk ?_
          with_reducible rfl
        refine rg_pure (v := ?_) rfl (by kernel_rfl) (by kernel_rfl) (fun w hS hN => ?_) ?_
        rotate_left 1
        · clear hN
          go_simp
          try simp only [e1]
          refine givesP_mk ?_
          with_reducible rfl
        refine rg_pure (v := ?_) rfl (by kernel_rfl) (by kernel_rfl) (fun w hS hN => ?_) ?_
        rotate_left 1
        · clear hN
          go_simp
          try simp only [e1]
          refine givesP_mk ?_
          with_reducible rfl
        refine rg_pure (v := ?_) rfl (by kernel_rfl) (by kernel_rfl) (fun w hS hN => ?_) ?_
        rotate_left 1
        · have k2 := HG2.out w hS
          clear hN
          go_simp
          try simp only [e1]
          refine givesP_mk ?_
          with_reducible rfl
        refine rg_mem (fun u => u = .agg #[.int .i64 qa, .int .i64 qb, .int .i64 qc] : Value → Prop) (fun _ _ => True : (Nat → GV) → World → Prop) (fun _ => Ext) rfl rfl rfl rfl (by kernel_rfl) (by kernel_rfl) (fun w hS hN R hR => ?_) ?_
        · have HR := Lib.hid hR
          clear hR
          (try clear hN)
          go_simp
          refine givesM_call ((HWA.out w).mono ?_)
          rintro e w' ⟨rfl, hx⟩
          exact ⟨_, rfl, HR.out _ _ rfl trivial hx⟩
        rintro u7 s7 t7 rfl
        refine rg_pure (v := ?_) rfl (by kernel_rfl) (by kernel_rfl) (fun w hS hN => ?_) ?_
        rotate_left 1
        · clear hN
          go_simp
          try simp only [e1]
          refine givesP_mk ?_
          with_reducible rfl
        refine rg_pure (v := ?_) rfl (by kernel_rfl) (by kernel_rfl) (fun w hS hN => ?_) ?_
        rotate_left 1
        · clear hN
          go_simp
          try simp only [e1]
          refine givesP_mk ?_
          with_reducible rfl
        refine rg_no rfl (by kernel_rfl) (by kernel_rfl) ?_
        refine rg_no rfl (by kernel_rfl) (by kernel_rfl) ?_
        refine rg_no rfl (by kernel_rfl) (by kernel_rfl) ?_
        refine rg_no rfl (by kernel_rfl) (by kernel_rfl) ?_
        refine rg_no rfl (by kernel_rfl) (by kernel_rfl) ?_
        refine rg_pure (v := ?_) rfl (by kernel_rfl) (by kernel_rfl) (fun w hS hN => ?_) ?_
        rotate_left 1
        · clear hN
          go_simp
          try simp only [e1]
          refine givesP_mk ?_
          with_reducible rfl
        refine rg_done rfl (Nat.le_of_ble_eq_true (by kernel_rfl)) ?_
        intro w8 hS hT
        have HX8 := Lib.hid (HX4.out.trans hS)
        clear hT hS hq
        go_simp
        go_wp2
        go_ret
        exact ⟨by rw [HNO.out] <;> rfl, HX1.out.trans HX8.out⟩
      | true =>
        have hq : ∀ w, (Op.equalIn 10000 126 (.agg #[.int .i64 ta, .int .i64 tb, .int .i64 tc]) (.agg #[.int .i64 qa, .int .i64 qb, .int .i64 qc])).run Try.prog w = .ok true w := fun w => by rw [← be]; exact HEQ.out w
        have HOK2 : Hid (s.placeOk k g = bh) := Lib.hid (by rw [HOK.out, be]; rfl)
        clear be
        refine region_rgx ([(7, (fun u => u = .agg #[.int .i64 qa, .int .i64 qb, .int .i64 qc] : Value → Prop), (fun _ _ => True : (Nat → GV) → World → Prop)), (13, (fun u => u = .bool bh : Value → Prop), (fun _ _ => True : (Nat → GV) → World → Prop))]) (w4) (by kernel_rfl) (by kernel_rfl) ?_ ?_ ?_
        · exact List.forall_mem_cons.2 ⟨⟨⟨_, rfl⟩, fun _ _ _ _ _ => trivial, fun _ _ _ _ _ => trivial⟩, List.forall_mem_cons.2 ⟨⟨⟨_, rfl⟩, fun _ _ _ _ _ => trivial, fun _ _ _ _ _ => trivial⟩, List.forall_mem_nil _⟩⟩
        · first | assumption | exact Ext.refl _
        refine rg_pure (v := .agg #[.int .i64 ta, .int .i64 tb, .int .i64 tc]) rfl (by kernel_rfl) (by kernel_rfl) (fun w hS hN => ?_) ?_
        · clear hN
          exact givesP_load 126 _ rfl _ (by go_simp) ([.int .i64 ta, .int .i64 tb, .int .i64 tc]) _ rfl _ (range_row (hS.blk HB4.out)) Try.underlying126 rfl (by kernel_rfl)
        refine rg_pure (v := ?_) rfl (by kernel_rfl) (by kernel_rfl) (fun w hS hN => ?_) ?_
        rotate_left 1
        · clear hN
          go_simp
          try simp only [e1]
          refine givesP_mk ?_
          with_reducible rfl
        refine rg_pure (v := ?_) rfl (by kernel_rfl) (by kernel_rfl) (fun w hS hN => ?_) ?_
        rotate_left 1
        · have k1 := st1 ((HX4.out.trans hS).blk HB1.out)
          clear hN
          go_simp
          try simp only [e1]
          refine givesP_mk ?_
          with_reducible rfl
        refine rg_pure (v := ?_) rfl (by kernel_rfl) (by kernel_rfl) (fun w hS hN => ?_) ?_
        rotate_left 1
        · clear hN
          go_simp
          try simp only [e1]
          refine givesP_mk ?_
          with_reducible rfl
        refine rg_pure (v := ?_) rfl (by kernel_rfl) (by kernel_rfl) (fun w hS hN => ?_) ?_
        rotate_left 1
        · clear hN
          go_simp
          try simp only [e1]
          refine givesP_mk ?_
          with_reducible rfl
        refine rg_pure (v := ?_) rfl (by kernel_rfl) (by kernel_rfl) (fun w hS hN => ?_) ?_
        rotate_left 1
        · clear hN
          go_simp
          try simp only [e1]
          refine givesP_mk ?_
          with_reducible rfl
        refine rg_pure (v := ?_) rfl (by kernel_rfl) (by kernel_rfl) (fun w hS hN => ?_) ?_
        rotate_left 1
        · have k2 := HG2.out w hS
          clear hN
          go_simp
          try simp only [e1]
          refine givesP_mk ?_
          with_reducible rfl
        refine rg_mem (fun u => u = .agg #[.int .i64 qa, .int .i64 qb, .int .i64 qc] : Value → Prop) (fun _ _ => True : (Nat → GV) → World → Prop) (fun _ => Ext) rfl rfl rfl rfl (by kernel_rfl) (by kernel_rfl) (fun w hS hN R hR => ?_) ?_
        · have HR := Lib.hid hR
          clear hR
          (try clear hN)
          go_simp
          refine givesM_call ((HWA.out w).mono ?_)
          rintro e w' ⟨rfl, hx⟩
          exact ⟨_, rfl, HR.out _ _ rfl trivial hx⟩
        rintro u7 s7 t7 rfl
        refine rg_pure (v := ?_) rfl (by kernel_rfl) (by kernel_rfl) (fun w hS hN => ?_) ?_
        rotate_left 1
        · clear hN
          go_simp
          try simp only [e1]
          refine givesP_mk ?_
          with_reducible rfl
        refine rg_pure (v := ?_) rfl (by kernel_rfl) (by kernel_rfl) (fun w hS hN => ?_) ?_
        rotate_left 1
        · clear hN
          go_simp
          try simp only [e1]
          refine givesP_mk ?_
          with_reducible rfl
        refine rg_pure (v := stV h s) rfl (by kernel_rfl) (by kernel_rfl) (fun w hS hN => ?_) ?_
        · clear hN
          exact givesP_load 47 _ rfl _ (by go_simp) (stL h s) _ rfl _ (range_row ((HX4.out.trans hS).blk HB1.out)) Try.underlying47 rfl (by kernel_rfl)
        refine rg_pure (v := ?_) rfl (by kernel_rfl) (by kernel_rfl) (fun w hS hN => ?_) ?_
        rotate_left 1
        · clear hN
          go_simp
          try simp only [e1]
          refine givesP_mk ?_
          with_reducible rfl
        refine rg_pure (v := ?_) rfl (by kernel_rfl) (by kernel_rfl) (fun w hS hN => ?_) ?_
        rotate_left 1
        · clear hN
          go_simp
          try simp only [e1]
          refine givesP_mk ?_
          with_reducible rfl
        refine rg_mem (fun u => u = .bool bh : Value → Prop) (fun _ _ => True : (Nat → GV) → World → Prop) (fun _ => Ext) rfl rfl rfl rfl (by kernel_rfl) (by kernel_rfl) (fun w hS hN R hR => ?_) ?_
        · have HR := Lib.hid hR
          clear hR
          (try clear hN)
          go_simp
          refine givesM_call ((smayHold_any h s k g HG.out bh HBH.out w (HK1.out.ext (HX4.out.trans hS)) HFW.out).mono ?_)
          rintro e w' ⟨rfl, hx⟩
          exact ⟨_, rfl, HR.out _ _ rfl trivial hx⟩
        rintro u13 s13 t13 rfl
        refine rg_pure (v := ?_) rfl (by kernel_rfl) (by kernel_rfl) (fun w hS hN => ?_) ?_
        rotate_left 1
        · clear hN
          go_simp
          try simp only [e1]
          refine givesP_mk ?_
          with_reducible rfl
        refine rg_pure (v := ?_) rfl (by kernel_rfl) (by kernel_rfl) (fun w hS hN => ?_) ?_
        rotate_left 1
        · clear hN
          go_simp
          try simp only [e1]
          refine givesP_mk ?_
          with_reducible rfl
        refine rg_done rfl (Nat.le_of_ble_eq_true (by kernel_rfl)) ?_
        intro w8 hS hT
        have HX8 := Lib.hid (HX4.out.trans hS)
        have HX28 := Lib.hid (HX24.out.trans hS)
        clear hT hS hq
        cases bh with
        | false =>
          have HNO : Hid (s.places = false) := Lib.hid (HST.out HOK2.out)
          go_simp
          go_wp2
          go_ret
          exact ⟨by rw [HNO.out] <;> rfl, HX1.out.trans HX8.out⟩
        | true =>
          go_simp
          go_wp2
          go_roundw
          case rel =>
            refine ⟨k + 1, by omega, by go_num, fun i y hi hij => ?_, HX28.out⟩
            by_cases hij2 : i < k
            · exact HALL.out i y hi hij2
            · obtain rfl : i = k := by omega
              rw [← some_eq HG.out hi]
              exact HOK2.out
          case measure => simp [intOf]; omega
    · obtain rfl : k = s.gs.length := by omega
      have HY : Hid (s.places = true) := Lib.hid (by rw [HPL2.out]; exact allIx_yes fun j l hj => HALL.out j l hj (List.getElem?_eq_some_iff.1 hj).1)
      go_wp2
      go_ret
      exact ⟨by rw [HY.out] <;> rfl, HX1.out.trans (HX2.out.trans HX.out)⟩
theorem count_split (n : Int) : ∀ ms : List (Int × Int), ((ms.filter fun m => m.2 != 0).map Prod.snd).count n = ((ms.filter fun m => m.2 != 0 && ((m.1 != 0) == true)).map Prod.snd).count n + ((ms.filter fun m => m.2 != 0 && ((m.1 != 0) == false)).map Prod.snd).count n
  | [] => rfl
  | m :: ms => by
    have ih := count_split n ms
    obtain ⟨a, b⟩ := m
    simp only [List.filter_cons]
    cases hb : (b != 0) with
    | false => simp only [Bool.false_and, Bool.false_eq_true, if_false]; exact ih
    | true =>
      cases ha : (a != 0) with
      | false => simp only [Bool.true_and, if_true, List.map_cons, List.count_cons, beq_self_eq_true, show ((false == true) = true) = False by simp, if_false]; omega
      | true => simp only [Bool.true_and, if_true, List.map_cons, List.count_cons, beq_self_eq_true, show ((true == false) = true) = False by simp, if_false]; omega
theorem St.onAll_times (s : St) (n : Int) : St.times s.onAll n = St.times (s.onM true) n + St.times (s.onM false) n := count_split n s.ms
theorem St.mem_onM {s : St} {b : Bool} {n : Int} : n ∈ s.onM b ↔ ∃ m ∈ s.ms, m.2 = n ∧ n ≠ 0 ∧ (m.1 != 0) = b := by
  unfold St.onM
  simp only [List.mem_map, List.mem_filter, Bool.and_eq_true, bne_iff_ne, beq_iff_eq]
  constructor
  · rintro ⟨m, ⟨h1, h2, h3⟩, rfl⟩; exact ⟨m, h1, rfl, h2, h3⟩
  · rintro ⟨m, h1, rfl, h2, h3⟩; exact ⟨m, ⟨h1, h2, h3⟩, rfl⟩
theorem St.mem_onAll {s : St} {n : Int} : n ∈ s.onAll ↔ n ∈ s.onM true ∨ n ∈ s.onM false := by
  simp only [St.mem_onM]
  unfold St.onAll
  simp only [List.mem_map, List.mem_filter, bne_iff_ne]
  constructor
  · rintro ⟨m, ⟨h1, h2⟩, rfl⟩
    cases h : (m.1 != 0) with
    | true => exact .inl ⟨m, h1, rfl, h2, by simpa using h⟩
    | false => exact .inr ⟨m, h1, rfl, h2, by simpa using h⟩
  · rintro (⟨m, h1, rfl, h2, _⟩ | ⟨m, h1, rfl, h2, _⟩) <;> exact ⟨m, ⟨h1, h2⟩, rfl⟩
theorem St.within_iff {l : List Int} {n : Int} : St.within l n = true ↔ ∀ x ∈ l, 1 ≤ x ∧ x ≤ n := by unfold St.within; simp
theorem St.allIn_eq (s : St) : allW (l3 s.runs s.waiters s.onAll) s.gs.length = s.allIn := by
  rw [Bool.eq_iff_iff]
  unfold allW St.allIn
  simp only [Bool.and_eq_true, St.within_iff, l3, St.mem_onAll]
  constructor
  · rintro ⟨⟨h1, h2⟩, h3⟩; exact ⟨⟨⟨h1, h2⟩, fun x hx => h3 x (.inl hx)⟩, fun x hx => h3 x (.inr hx)⟩
  · rintro ⟨⟨⟨h1, h2⟩, h3⟩, h4⟩; exact ⟨⟨h1, h2⟩, fun x hx => hx.elim (h3 x) (h4 x)⟩
theorem St.onM_pos {s : St} {j : Nat} {x : Int × Int} (hx : s.ms[j]? = some x) (h0 : x.2 ≠ 0) : 1 ≤ St.times (s.onM (x.1 != 0)) x.2 := by
  unfold St.times
  exact List.count_pos_iff.2 (St.mem_onM.2 ⟨x, List.mem_of_getElem? hx, rfl, h0, rfl⟩)
theorem St.place_stands (s : St) (i : Nat) (g : Gr) (hs : 1 ≤ g.st ∧ g.st ≤ 5) : s.placeOk i g = s.stands i g := by
  have hc := s.onAll_times ((i : Int) + 1)
  have hp := fun (x : Int × Int) (j : Nat) (hx : s.ms[j]? = some x) (h0 : x.2 = (i : Int) + 1) => s.onM_pos hx (by omega : x.2 ≠ 0)
  unfold St.placeOk St.stands St.holdG
  rw [hc]
  generalize St.times s.runs ((i : Int) + 1) = a
  generalize St.times s.waiters ((i : Int) + 1) = b
  obtain ⟨fn, pc, st, m, sq⟩ := g
  simp only at hs ⊢
  rw [decide_eq_true hs, Bool.true_and]
  by_cases h24 : st ≠ 2 ∧ st ≠ 4
  · rw [if_pos h24, if_pos h24]
    generalize St.times (s.onM true) ((i : Int) + 1) = c
    generalize St.times (s.onM false) ((i : Int) + 1) = d
    congr 1
    obtain rfl | rfl | rfl : st = 1 ∨ st = 3 ∨ st = 5 := by omega
    all_goals
      rw [decide_eq_decide]
      simp [St.wanted, St.want]
      omega
  · rw [if_neg h24, if_neg h24, Bool.eq_iff_iff]
    simp only [Bool.and_eq_true, decide_eq_true_eq, wiB_iff, beq_iff_eq]
    by_cases hm : 1 ≤ m ∧ m ≤ (s.ms.length : Int)
    · obtain ⟨j, rfl⟩ : ∃ j : Nat, m = (j : Int) + 1 := ⟨(m - 1).toNat, by omega⟩
      obtain ⟨x, hx⟩ : ∃ x, s.ms[j]? = some x := ⟨_, List.getElem?_eq_getElem (by omega)⟩
      rw [show ((j : Int) + 1 - 1).toNat = j by omega]
      simp only [List.getD, hx, Option.getD_some]
      have hpx := hp x j hx
      by_cases h2 : x.2 = (i : Int) + 1
      · have hpx := hpx h2
        rw [h2] at hpx
        cases hb : (x.1 != 0) with
        | true =>
          rw [hb] at hpx
          generalize St.times (s.onM true) ((i : Int) + 1) = c at *
          generalize St.times (s.onM false) ((i : Int) + 1) = d at *
          obtain rfl | rfl : st = 2 ∨ st = 4 := by omega
          all_goals
            simp [St.wanted, St.want, h2, hm]
            omega
        | false =>
          rw [hb] at hpx
          generalize St.times (s.onM true) ((i : Int) + 1) = c at *
          generalize St.times (s.onM false) ((i : Int) + 1) = d at *
          obtain rfl | rfl : st = 2 ∨ st = 4 := by omega
          all_goals
            simp [St.wanted, St.want, h2, hm]
            omega
      · simp [h2]
    · simp [hm]
theorem St.may_eq (s : St) : (s.whole && s.counts && s.gs.all s.pGood && allIx s.holdP 0 s.ps && allIx s.holdM 0 s.ms && s.places) = s.may := by
  rw [Bool.eq_iff_iff]
  unfold St.may St.places St.goods St.holds
  rw [St.allIn_eq]
  simp only [Bool.and_eq_true, List.all_eq_true, allIx_iff (f := s.placeOk), allIx_iff (f := s.stands), Nat.zero_add]
  constructor
  · rintro ⟨⟨⟨⟨⟨h1, h2⟩, h3⟩, h4⟩, h5⟩, h6, h7⟩
    refine ⟨⟨⟨⟨⟨h1, fun g hg => ?_⟩, h4, h5⟩, h2⟩, h6⟩, fun j g hg => ?_⟩
    · have := h3 g hg; unfold St.pGood at this; rw [Bool.and_eq_true] at this; exact this.1
    · have := h3 g (List.mem_of_getElem? hg); unfold St.pGood at this; rw [Bool.and_eq_true] at this
      rw [← St.place_stands s j g (wiB_iff.1 this.2)]
      exact h7 j g hg
  · rintro ⟨⟨⟨⟨⟨h1, h3⟩, h4, h5⟩, h2⟩, h6⟩, h7⟩
    have hst : ∀ (j : Nat) g, s.gs[j]? = some g → 1 ≤ g.st ∧ g.st ≤ 5 := fun j g hg => by
      have := h7 j g hg
      unfold St.stands at this
      rw [Bool.and_eq_true, Bool.and_eq_true, decide_eq_true_eq] at this
      exact this.1.1
    refine ⟨⟨⟨⟨⟨h1, h2⟩, fun g hg => ?_⟩, h4⟩, h5⟩, h6, fun j g hg => ?_⟩
    · obtain ⟨j, hj⟩ := List.mem_iff_getElem?.1 hg
      unfold St.pGood
      rw [h3 g hg, wiB_iff.2 (hst j g hj)]; rfl
    · rw [St.place_stands s j g (hst j g hg)]
      exact h7 j g hg
end Go.Proofs.Ytdcbaddndoilfaa
