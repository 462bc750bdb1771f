/-
  Several texts in one: Tz, Tzk, Tzl, Tzm.
-/
import Derived.Test.YtogcfndhcphpaaaK15
import Derived.Test.YtogcfndhcphpaaaK24
import Derived.Test.YtogcfndhcphpaaaK17
import Derived.Test.YtogcfndhcphpaaaK21
import Derived.Test.YtogcfndhcphpaaaK14
/-
  Where a G of a state is: the program's Place, and the document's; the document's Queue.
-/
set_option linter.unusedVariables false
set_option linter.unusedSimpArgs false
namespace Go.Proofs.Ytogcfndhcphpaaa
open Go.RowKit

/-- Where a G is, of a state that may be. -/
def St.placeOf (s : St) (n : Int) (g : Gr) : Int × Int := if g.st = 1 then placeAt n s.ps 0 else if g.st = 2 then (4, g.m) else if g.st = 4 then (7, g.m) else if g.st = 5 then (8, 0) else waitAt n s.wts 0
def St.place (s : St) (n : Int) : Int × Int := if 1 ≤ n ∧ n ≤ s.gs.length ∧ s.may = true then s.placeOf n (s.gs.getD (n - 1).toNat St.nilG) else (0, 0)
theorem St.place_no {s : St} {p : Int} (h : ¬ (1 ≤ p ∧ p ≤ s.gs.length ∧ s.may = true)) : s.place p = (0, 0) := if_neg h
theorem St.place_yes {s : St} {j : Nat} {g : Gr} (h2 : s.may = true) (hg : s.gs[j]? = some g) : s.place ((j : Int) + 1) = s.placeOf ((j : Int) + 1) g := by
  have := (List.getElem?_eq_some_iff.1 hg).1
  unfold St.place
  rw [if_pos ⟨by omega, by omega, h2⟩, show ((j : Int) + 1 - 1).toNat = j by omega, List.getD, hg]
  rfl
theorem St.may_stands {s : St} (h : s.may = true) {j : Nat} {g : Gr} (hg : s.gs[j]? = some g) : s.stands j g = true := by
  unfold St.may at h
  rw [Bool.and_eq_true] at h
  have := allIx_iff.1 h.2 j g hg
  rwa [Nat.zero_add] at this
theorem St.may_st {s : St} (h : s.may = true) {j : Nat} {g : Gr} (hg : s.gs[j]? = some g) : 1 ≤ g.st ∧ g.st ≤ 5 := by
  have := St.may_stands h hg
  unfold St.stands at this
  rw [Bool.and_eq_true, Bool.and_eq_true, decide_eq_true_eq] at this
  exact this.1.1
set_option maxRecDepth 100000 in
set_option maxHeartbeats 8000000 in
theorem sPlace_any (h : StH) (s : St) (n : Int) (q : Int × Int) (hq : s.place n = q) (w : World) (hk : StOk w h s) (hf : StFew s) : Calls Try.prog 39 #[stV h s, .int .i64 n] w fun e w' => e = .returned (plV q) ∧ Ext w w' := by
  have HF := Lib.hid hf
  have f1 := hf.gs
  have F2 := Lib.hid hf.w
  have HK := Lib.hid hk
  obtain ⟨w1, hw1⟩ : ∃ w1, w.alloc (.cells #[.slice h.pa s.prog.length h.pc, .slice h.ga s.gs.length h.gc, .slice h.qa s.ps.length h.qc, .slice h.ma s.ms.length h.mc, .slice h.la s.glob.length h.lc, .int .i64 s.c0, .int .i64 s.c1, .int .i64 s.c2, .int .i64 s.c3, .slice h.a0 s.w0.length h.k0, .slice h.a1 s.w1.length h.k1, .slice h.a2 s.w2.length h.k2, .slice h.a3 s.w3.length h.k3, .slice h.ta s.timers.length h.tc, .int .i64 s.clock, .int .i64 s.procs] 32) = w1 := ⟨_, rfl⟩
  have HX1 : Hid (Ext w w1) := Lib.hid (by rw [← hw1]; exact (Ext.refl w).alloc _)
  have HB1 : Hid (w1.heap[w.heap.size]? = some (.cells (stC h s) 32 (0, 0))) := Lib.hid (by rw [← hw1]; exact blk_new w _)
  have HK1 := Lib.hid (hk.ext HX1.out)
  have HW1 := Lib.hid hw1
  clear hw1 hk
  clear hf
  obtain ⟨B, hB⟩ : ∃ B, w1.heap.size = B := ⟨_, rfl⟩
  have HB := Lib.hid hB
  obtain ⟨w2, hw2⟩ : ∃ w2, w1.alloc (.cells #[.int .i64 0, .int .i64 0] 52) = w2 := ⟨_, rfl⟩
  have HW2 := Lib.hid hw2
  have HX2 : Hid (Ext w1 w2) := Lib.hid (by rw [← hw2]; exact (Ext.refl w1).alloc _)
  have HP2 : Hid (w2.heap[B]? = some (.cells #[.int .i64 0, .int .i64 0] 52 (0, 0))) := Lib.hid (by rw [← hw2, ← hB]; exact blk_new w1 _)
  have HBW : Hid (w.heap.size ≤ B) := Lib.hid (by rw [← hB]; exact HX1.out.size)
  clear hB hw2
  have HQ0 := Lib.hid hq
  clear hq
  have q1 := st1 (HX2.out.blk HB1.out)
  have HLD := Lib.hid (HX2.out.blk HB1.out)
  unfold stV
  go_enter Try.func39, Try.ntmps39
  go_upto_region 1 with (first | rw [HW1.out] | rw [HW2.out])
  rw [HB.out]
  generalize Value.agg #[.slice h.pa s.prog.length h.pc, .slice h.ga s.gs.length h.gc, .slice h.qa s.ps.length h.qc, .slice h.ma s.ms.length h.mc, .slice h.la s.glob.length h.lc, .int .i64 s.c0, .int .i64 s.c1, .int .i64 s.c2, .int .i64 s.c3, .slice h.a0 s.w0.length h.k0, .slice h.a1 s.w1.length h.k1, .slice h.a2 s.w2.length h.k2, .slice h.a3 s.w3.length h.k3, .slice h.ta s.timers.length h.tc, .int .i64 s.clock, .int .i64 s.procs] = sv0
  by_cases a1 : n < 1
  · have HQ : Hid ((0, 0) = q) := Lib.hid (by rw [← HQ0.out, St.place_no (by omega)])
    have HPR := Lib.hid HP2.out
    have HXR := Lib.hid HX2.out
    obtain ⟨⟨r0, r1⟩, y0, y1⟩ := place_cells HPR.out
    go_wp2
    refine bodyPost_ret (v := .agg #[.int .i64 _, .int .i64 _]) (results_cell_row rfl _ _ B _ _ _ _ rfl (place_set HPR.out) Try.underlying52 rfl (by kernel_rfl)) rfl ⟨by rw [← HQ.out] <;> rfl, (HX1.out.trans HXR.out).set2 HBW.out _ _⟩
  by_cases a2 : (s.gs.length : Int) < n
  · have HQ : Hid ((0, 0) = q) := Lib.hid (by rw [← HQ0.out, St.place_no (by omega)])
    have HPR := Lib.hid HP2.out
    have HXR := Lib.hid HX2.out
    obtain ⟨⟨r0, r1⟩, y0, y1⟩ := place_cells HPR.out
    go_wp2
    refine bodyPost_ret (v := .agg #[.int .i64 _, .int .i64 _]) (results_cell_row rfl _ _ B _ _ _ _ rfl (place_set HPR.out) Try.underlying52 rfl (by kernel_rfl)) rfl ⟨by rw [← HQ.out] <;> rfl, (HX1.out.trans HXR.out).set2 HBW.out _ _⟩
  go_wp2_with (refine wpList_load_rowW rfl 32 _ rfl w.heap.size rfl (stL h s) (stV h s) rfl _ (range_row HLD.out) Try.underlying32 rfl (by kernel_rfl) ?_)
  refine (sstmay_any h s _ rfl _ (HK1.out.ext HX2.out) HF.out).mono ?_
  rintro e w3 ⟨rfl, hx3⟩
  have HX3 := Lib.hid (HX2.out.trans hx3)
  have HP3 := Lib.hid (hx3.blk HP2.out)
  clear hx3 q1 HLD
  cases bm : s.may with
  | false =>
    have HQ : Hid ((0, 0) = q) := Lib.hid (by rw [← HQ0.out, St.place_no (fun h => by rw [bm] at h; exact absurd h.2.2 (by simp))])
    have HPR := Lib.hid HP3.out
    have HXR := Lib.hid HX3.out
    obtain ⟨⟨r0, r1⟩, y0, y1⟩ := place_cells HPR.out
    go_wp2
    refine bodyPost_ret (v := .agg #[.int .i64 _, .int .i64 _]) (results_cell_row rfl _ _ B _ _ _ _ rfl (place_set HPR.out) Try.underlying52 rfl (by kernel_rfl)) rfl ⟨by rw [← HQ.out] <;> rfl, (HX1.out.trans HXR.out).set2 HBW.out _ _⟩
  | true =>
    obtain ⟨j, rfl⟩ : ∃ j : Nat, n = (j : Int) + 1 := ⟨(n - 1).toNat, by omega⟩
    obtain ⟨g, hg⟩ : ∃ g, s.gs[j]? = some g := ⟨_, List.getElem?_eq_getElem (by omega)⟩
    have hst := St.may_st bm hg
    have HPO : Hid (s.placeOf ((j : Int) + 1) g = q) := Lib.hid (by rw [← HQ0.out, St.place_yes bm hg])
    obtain ⟨b, o, hA, hb, p0, p1, p2, p3, p4⟩ := gs_get (HK1.out.ext HX3.out).gs hg
    obtain ⟨fn, pc, st, m, sq⟩ := g
    simp only at p0 p1 p2 p3 p4 hst
    have e1 : (j : Int) + 1 - 1 = (j : Int) := by omega
    have e4 : (j : Int) < (s.gs.length : Int) := by omega
    obtain ⟨w4, hw4⟩ : ∃ w4, w3.alloc (.cells #[.int .i64 fn, .int .i64 pc, .int .i64 st, .int .i64 m, .int .i64 sq] 55) = w4 := ⟨_, rfl⟩
    have HW4 := Lib.hid hw4
    have HX4 : Hid (Ext w1 w4) := Lib.hid (by rw [← hw4]; exact HX3.out.alloc _)
    have HG4 : Hid (w4.heap[w3.heap.size]? = some (.cells #[.int .i64 fn, .int .i64 pc, .int .i64 st, .int .i64 m, .int .i64 sq] 55 (0, 0))) := Lib.hid (by rw [← hw4]; exact blk_new w3 _)
    have HP4 : Hid (w4.heap[B]? = some (.cells #[.int .i64 0, .int .i64 0] 52 (0, 0))) := Lib.hid (by rw [← hw4]; exact blk_alloc HP3.out _)
    have q1 := st1 (HX3.out.blk HB1.out)
    have HA := Lib.hid hA
    clear hg hb a1 a2 hw4 hA
    have hA := HA.out
    go_upto_region 4 with fail
    rw [HW4.out]
    clear p0 p1 p2 p3 p4 q1 hA e1 e4
    have HLD := Lib.hid (HX4.out.blk HB1.out)
    have z2 := blk_cell HG4.out 2 _ rfl
    by_cases s1 : st = 1
    · subst s1
      obtain ⟨qa, qb, hqq⟩ : ∃ qa qb, (qa, qb) = q := ⟨q.1, q.2, rfl⟩
      have HQ := Lib.hid hqq
      clear hqq
      have HSC : Hid (Calls Try.prog 94 #[stV h s, .int .i64 ((j : Int) + 1)] w4 fun e w' => e = .returned (.agg #[.int .i64 qa, .int .i64 qb]) ∧ Ext w4 w') := Lib.hid (squeued_any h s ((j : Int) + 1) (qa, qb) (by rw [HQ.out, ← HPO.out]; rfl) w4 (HK1.out.ext HX4.out) HF.out)
      go_wp2_with (refine wpList_load_rowW rfl 32 _ rfl w.heap.size rfl (stL h s) (stV h s) rfl _ (range_row HLD.out) Try.underlying32 rfl (by kernel_rfl) ?_)
      refine HSC.out.mono ?_
      rintro e w5 ⟨rfl, hx5⟩
      have HXR := Lib.hid (HX4.out.trans hx5)
      have HPR := Lib.hid (hx5.blk HP4.out)
      clear z2 hx5
      obtain ⟨⟨r0, r1⟩, y0, y1⟩ := place_cells HPR.out
      go_wp2
      refine bodyPost_ret (v := .agg #[.int .i64 _, .int .i64 _]) (results_cell_row rfl _ _ B _ _ _ _ rfl (place_set HPR.out) Try.underlying52 rfl (by kernel_rfl)) rfl ⟨by rw [← HQ.out] <;> rfl, (HX1.out.trans HXR.out).set2 HBW.out _ _⟩
    have HXR := Lib.hid HX4.out
    have HPR := Lib.hid HP4.out
    have s1' : (st == 1) = false := by simpa using s1
    by_cases s2 : st = 2
    · subst s2
      have HQ : Hid ((4, m) = q) := Lib.hid (by rw [← HPO.out]; rfl)
      have z3 := blk_cell HG4.out 3 _ rfl
      clear s1
      obtain ⟨⟨r0, r1⟩, y0, y1⟩ := place_cells HPR.out
      go_wp2
      refine bodyPost_ret (v := .agg #[.int .i64 _, .int .i64 _]) (results_cell_row rfl _ _ B _ _ _ _ rfl (place_set HPR.out) Try.underlying52 rfl (by kernel_rfl)) rfl ⟨by rw [← HQ.out] <;> rfl, (HX1.out.trans HXR.out).set2 HBW.out _ _⟩
    have s2' : (st == 2) = false := by simpa using s2
    by_cases s3 : st = 3
    · subst s3
      obtain ⟨qa, qb, hqq⟩ : ∃ qa qb, (qa, qb) = q := ⟨q.1, q.2, rfl⟩
      have HQ := Lib.hid hqq
      clear hqq
      have HSC : Hid (Calls Try.prog 95 #[stV h s, .int .i64 ((j : Int) + 1)] w4 fun e w' => e = .returned (.agg #[.int .i64 qa, .int .i64 qb]) ∧ Ext w4 w') := Lib.hid (swaiting_any h s ((j : Int) + 1) (qa, qb) (by rw [HQ.out, ← HPO.out]; rfl) w4 (HK1.out.ext HX4.out) HF.out)
      clear s1 s2
      go_wp2_with (refine wpList_load_rowW rfl 32 _ rfl w.heap.size rfl (stL h s) (stV h s) rfl _ (range_row HLD.out) Try.underlying32 rfl (by kernel_rfl) ?_)
      refine HSC.out.mono ?_
      rintro e w5 ⟨rfl, hx5⟩
      clear HXR HPR
      have HXR := Lib.hid (HX4.out.trans hx5)
      have HPR := Lib.hid (hx5.blk HP4.out)
      clear z2 hx5
      obtain ⟨⟨r0, r1⟩, y0, y1⟩ := place_cells HPR.out
      go_wp2
      refine bodyPost_ret (v := .agg #[.int .i64 _, .int .i64 _]) (results_cell_row rfl _ _ B _ _ _ _ rfl (place_set HPR.out) Try.underlying52 rfl (by kernel_rfl)) rfl ⟨by rw [← HQ.out] <;> rfl, (HX1.out.trans HXR.out).set2 HBW.out _ _⟩
    have s3' : (st == 3) = false := by simpa using s3
    by_cases s4 : st = 4
    · subst s4
      have HQ : Hid ((7, m) = q) := Lib.hid (by rw [← HPO.out]; rfl)
      have z3 := blk_cell HG4.out 3 _ rfl
      clear s1 s2
      obtain ⟨⟨r0, r1⟩, y0, y1⟩ := place_cells HPR.out
      go_wp2
      refine bodyPost_ret (v := .agg #[.int .i64 _, .int .i64 _]) (results_cell_row rfl _ _ B _ _ _ _ rfl (place_set HPR.out) Try.underlying52 rfl (by kernel_rfl)) rfl ⟨by rw [← HQ.out] <;> rfl, (HX1.out.trans HXR.out).set2 HBW.out _ _⟩
    have s4' : (st == 4) = false := by simpa using s4
    obtain rfl : st = 5 := by omega
    have HQ : Hid ((8, 0) = q) := Lib.hid (by rw [← HPO.out]; rfl)
    clear s1 s2 s3 s4
    obtain ⟨⟨r0, r1⟩, y0, y1⟩ := place_cells HPR.out
    go_wp2
    refine bodyPost_ret (v := .agg #[.int .i64 _, .int .i64 _]) (results_cell_row rfl _ _ B _ _ _ _ rfl (place_set HPR.out) Try.underlying52 rfl (by kernel_rfl)) rfl ⟨by rw [← HQ.out] <;> rfl, (HX1.out.trans HXR.out).set2 HBW.out _ _⟩
set_option maxRecDepth 100000 in
set_option maxHeartbeats 8000000 in
theorem rPlace_any (h : StH) (s : St) (n : Int) (q : Int × Int) (hq : s.place n = q) (w : World) (hk : StOk w h s) (hf : StFew s) : Calls Try.prog 28 #[stV h s, .int .i64 n] w fun e w' => e = .returned (plV q) ∧ Ext w w' := by
  have HF := Lib.hid hf
  have f1 := hf.gs
  have F2 := Lib.hid hf.w
  have HK := Lib.hid hk
  obtain ⟨w1, hw1⟩ : ∃ w1, w.alloc (.cells #[.slice h.pa s.prog.length h.pc, .slice h.ga s.gs.length h.gc, .slice h.qa s.ps.length h.qc, .slice h.ma s.ms.length h.mc, .slice h.la s.glob.length h.lc, .int .i64 s.c0, .int .i64 s.c1, .int .i64 s.c2, .int .i64 s.c3, .slice h.a0 s.w0.length h.k0, .slice h.a1 s.w1.length h.k1, .slice h.a2 s.w2.length h.k2, .slice h.a3 s.w3.length h.k3, .slice h.ta s.timers.length h.tc, .int .i64 s.clock, .int .i64 s.procs] 32) = w1 := ⟨_, rfl⟩
  have HX1 : Hid (Ext w w1) := Lib.hid (by rw [← hw1]; exact (Ext.refl w).alloc _)
  have HB1 : Hid (w1.heap[w.heap.size]? = some (.cells (stC h s) 32 (0, 0))) := Lib.hid (by rw [← hw1]; exact blk_new w _)
  have HK1 := Lib.hid (hk.ext HX1.out)
  have HW1 := Lib.hid hw1
  clear hw1 hk
  clear hf
  obtain ⟨B, hB⟩ : ∃ B, w1.heap.size = B := ⟨_, rfl⟩
  have HB := Lib.hid hB
  obtain ⟨w2, hw2⟩ : ∃ w2, w1.alloc (.cells #[.int .i64 0, .int .i64 0] 52) = w2 := ⟨_, rfl⟩
  have HW2 := Lib.hid hw2
  have HX2 : Hid (Ext w1 w2) := Lib.hid (by rw [← hw2]; exact (Ext.refl w1).alloc _)
  have HP2 : Hid (w2.heap[B]? = some (.cells #[.int .i64 0, .int .i64 0] 52 (0, 0))) := Lib.hid (by rw [← hw2, ← hB]; exact blk_new w1 _)
  have HBW : Hid (w.heap.size ≤ B) := Lib.hid (by rw [← hB]; exact HX1.out.size)
  clear hB hw2
  have HQ0 := Lib.hid hq
  clear hq
  have q1 := st1 (HX2.out.blk HB1.out)
  have HLD := Lib.hid (HX2.out.blk HB1.out)
  unfold stV
  go_enter Try.func28, Try.ntmps28
  go_upto_region 1 with (first | rw [HW1.out] | rw [HW2.out])
  rw [HB.out]
  generalize Value.agg #[.slice h.pa s.prog.length h.pc, .slice h.ga s.gs.length h.gc, .slice h.qa s.ps.length h.qc, .slice h.ma s.ms.length h.mc, .slice h.la s.glob.length h.lc, .int .i64 s.c0, .int .i64 s.c1, .int .i64 s.c2, .int .i64 s.c3, .slice h.a0 s.w0.length h.k0, .slice h.a1 s.w1.length h.k1, .slice h.a2 s.w2.length h.k2, .slice h.a3 s.w3.length h.k3, .slice h.ta s.timers.length h.tc, .int .i64 s.clock, .int .i64 s.procs] = sv0
  by_cases a1 : n < 1
  · have HQ : Hid ((0, 0) = q) := Lib.hid (by rw [← HQ0.out, St.place_no (by omega)])
    have HPR := Lib.hid HP2.out
    have HXR := Lib.hid HX2.out
    obtain ⟨⟨r0, r1⟩, y0, y1⟩ := place_cells HPR.out
    go_wp2
    refine bodyPost_ret (v := .agg #[.int .i64 _, .int .i64 _]) (results_cell_row rfl _ _ B _ _ _ _ rfl (place_set HPR.out) Try.underlying52 rfl (by kernel_rfl)) rfl ⟨by rw [← HQ.out] <;> rfl, (HX1.out.trans HXR.out).set2 HBW.out _ _⟩
  by_cases a2 : (s.gs.length : Int) < n
  · have HQ : Hid ((0, 0) = q) := Lib.hid (by rw [← HQ0.out, St.place_no (by omega)])
    have HPR := Lib.hid HP2.out
    have HXR := Lib.hid HX2.out
    obtain ⟨⟨r0, r1⟩, y0, y1⟩ := place_cells HPR.out
    go_wp2
    refine bodyPost_ret (v := .agg #[.int .i64 _, .int .i64 _]) (results_cell_row rfl _ _ B _ _ _ _ rfl (place_set HPR.out) Try.underlying52 rfl (by kernel_rfl)) rfl ⟨by rw [← HQ.out] <;> rfl, (HX1.out.trans HXR.out).set2 HBW.out _ _⟩
  go_wp2_with (refine wpList_load_rowW rfl 32 _ rfl w.heap.size rfl (stL h s) (stV h s) rfl _ (range_row HLD.out) Try.underlying32 rfl (by kernel_rfl) ?_)
  refine (rstmay_any h s _ rfl _ (HK1.out.ext HX2.out) HF.out).mono ?_
  rintro e w3 ⟨rfl, hx3⟩
  have HX3 := Lib.hid (HX2.out.trans hx3)
  have HP3 := Lib.hid (hx3.blk HP2.out)
  clear hx3 q1 HLD
  cases bm : s.may with
  | false =>
    have HQ : Hid ((0, 0) = q) := Lib.hid (by rw [← HQ0.out, St.place_no (fun h => by rw [bm] at h; exact absurd h.2.2 (by simp))])
    have HPR := Lib.hid HP3.out
    have HXR := Lib.hid HX3.out
    obtain ⟨⟨r0, r1⟩, y0, y1⟩ := place_cells HPR.out
    go_wp2
    refine bodyPost_ret (v := .agg #[.int .i64 _, .int .i64 _]) (results_cell_row rfl _ _ B _ _ _ _ rfl (place_set HPR.out) Try.underlying52 rfl (by kernel_rfl)) rfl ⟨by rw [← HQ.out] <;> rfl, (HX1.out.trans HXR.out).set2 HBW.out _ _⟩
  | true =>
    obtain ⟨j, rfl⟩ : ∃ j : Nat, n = (j : Int) + 1 := ⟨(n - 1).toNat, by omega⟩
    obtain ⟨g, hg⟩ : ∃ g, s.gs[j]? = some g := ⟨_, List.getElem?_eq_getElem (by omega)⟩
    have hst := St.may_st bm hg
    have HPO : Hid (s.placeOf ((j : Int) + 1) g = q) := Lib.hid (by rw [← HQ0.out, St.place_yes bm hg])
    obtain ⟨b, o, hA, hb, p0, p1, p2, p3, p4⟩ := gs_get (HK1.out.ext HX3.out).gs hg
    obtain ⟨fn, pc, st, m, sq⟩ := g
    simp only at p0 p1 p2 p3 p4 hst
    have e1 : (j : Int) + 1 - 1 = (j : Int) := by omega
    have e4 : (j : Int) < (s.gs.length : Int) := by omega
    obtain ⟨w4, hw4⟩ : ∃ w4, w3.alloc (.cells #[.int .i64 fn, .int .i64 pc, .int .i64 st, .int .i64 m, .int .i64 sq] 55) = w4 := ⟨_, rfl⟩
    have HW4 := Lib.hid hw4
    have HX4 : Hid (Ext w1 w4) := Lib.hid (by rw [← hw4]; exact HX3.out.alloc _)
    have HG4 : Hid (w4.heap[w3.heap.size]? = some (.cells #[.int .i64 fn, .int .i64 pc, .int .i64 st, .int .i64 m, .int .i64 sq] 55 (0, 0))) := Lib.hid (by rw [← hw4]; exact blk_new w3 _)
    have HP4 : Hid (w4.heap[B]? = some (.cells #[.int .i64 0, .int .i64 0] 52 (0, 0))) := Lib.hid (by rw [← hw4]; exact blk_alloc HP3.out _)
    have q1 := st1 (HX3.out.blk HB1.out)
    have HA := Lib.hid hA
    clear hg hb a1 a2 hw4 hA
    have hA := HA.out
    go_upto_region 4 with fail
    rw [HW4.out]
    clear p0 p1 p2 p3 p4 q1 hA e1 e4
    have HLD := Lib.hid (HX4.out.blk HB1.out)
    have z2 := blk_cell HG4.out 2 _ rfl
    by_cases s1 : st = 1
    · subst s1
      obtain ⟨qa, qb, hqq⟩ : ∃ qa qb, (qa, qb) = q := ⟨q.1, q.2, rfl⟩
      have HQ := Lib.hid hqq
      clear hqq
      have HSC : Hid (Calls Try.prog 82 #[stV h s, .int .i64 ((j : Int) + 1)] w4 fun e w' => e = .returned (.agg #[.int .i64 qa, .int .i64 qb]) ∧ Ext w4 w') := Lib.hid (ratP_any h s ((j : Int) + 1) (qa, qb) (by rw [HQ.out, ← HPO.out]; rfl) w4 (HK1.out.ext HX4.out) HF.out)
      go_wp2_with (refine wpList_load_rowW rfl 32 _ rfl w.heap.size rfl (stL h s) (stV h s) rfl _ (range_row HLD.out) Try.underlying32 rfl (by kernel_rfl) ?_)
      refine HSC.out.mono ?_
      rintro e w5 ⟨rfl, hx5⟩
      have HXR := Lib.hid (HX4.out.trans hx5)
      have HPR := Lib.hid (hx5.blk HP4.out)
      clear z2 hx5
      obtain ⟨⟨r0, r1⟩, y0, y1⟩ := place_cells HPR.out
      go_wp2
      refine bodyPost_ret (v := .agg #[.int .i64 _, .int .i64 _]) (results_cell_row rfl _ _ B _ _ _ _ rfl (place_set HPR.out) Try.underlying52 rfl (by kernel_rfl)) rfl ⟨by rw [← HQ.out] <;> rfl, (HX1.out.trans HXR.out).set2 HBW.out _ _⟩
    have HXR := Lib.hid HX4.out
    have HPR := Lib.hid HP4.out
    have s1' : (st == 1) = false := by simpa using s1
    by_cases s2 : st = 2
    · subst s2
      have HQ : Hid ((4, m) = q) := Lib.hid (by rw [← HPO.out]; rfl)
      have z3 := blk_cell HG4.out 3 _ rfl
      clear s1
      obtain ⟨⟨r0, r1⟩, y0, y1⟩ := place_cells HPR.out
      go_wp2
      refine bodyPost_ret (v := .agg #[.int .i64 _, .int .i64 _]) (results_cell_row rfl _ _ B _ _ _ _ rfl (place_set HPR.out) Try.underlying52 rfl (by kernel_rfl)) rfl ⟨by rw [← HQ.out] <;> rfl, (HX1.out.trans HXR.out).set2 HBW.out _ _⟩
    have s2' : (st == 2) = false := by simpa using s2
    by_cases s4 : st = 4
    · subst s4
      have HQ : Hid ((7, m) = q) := Lib.hid (by rw [← HPO.out]; rfl)
      have z3 := blk_cell HG4.out 3 _ rfl
      clear s1 s2
      obtain ⟨⟨r0, r1⟩, y0, y1⟩ := place_cells HPR.out
      go_wp2
      refine bodyPost_ret (v := .agg #[.int .i64 _, .int .i64 _]) (results_cell_row rfl _ _ B _ _ _ _ rfl (place_set HPR.out) Try.underlying52 rfl (by kernel_rfl)) rfl ⟨by rw [← HQ.out] <;> rfl, (HX1.out.trans HXR.out).set2 HBW.out _ _⟩
    have s4' : (st == 4) = false := by simpa using s4
    by_cases s5 : st = 5
    · subst s5
      have HQ : Hid ((8, 0) = q) := Lib.hid (by rw [← HPO.out]; rfl)
      clear s1 s2 s4
      obtain ⟨⟨r0, r1⟩, y0, y1⟩ := place_cells HPR.out
      go_wp2
      refine bodyPost_ret (v := .agg #[.int .i64 _, .int .i64 _]) (results_cell_row rfl _ _ B _ _ _ _ rfl (place_set HPR.out) Try.underlying52 rfl (by kernel_rfl)) rfl ⟨by rw [← HQ.out] <;> rfl, (HX1.out.trans HXR.out).set2 HBW.out _ _⟩
    obtain rfl : st = 3 := by omega
    have HWT : Hid (waitAt ((j : Int) + 1) s.wts 0 = q) := Lib.hid (by rw [← HPO.out]; rfl)
    clear s1 s2 s4 s5 HLD s1' s2' s4' hst
    go_wp2_with fail
    clear z2
    go_loopw [6] (fun iv wr => ∃ k : Nat, k ≤ 4 ∧ iv = .int .i64 k ∧ waitAt ((j : Int) + 1) (s.wts.drop k) k = q ∧ wr = w4) (fun iv _ => 4 - (intOf iv).toNat)
    case atStart => exact ⟨0, by omega, rfl, HWT.out, rfl⟩
    case round =>
      obtain ⟨k, hk, rfl, hpl, rfl⟩ := hrel
      have HPL := Lib.hid hpl
      clear hpl
      by_cases hlt : k < 4
      · obtain ⟨A0, d0, l, hcell, hI, hl⟩ := HK1.out.wait hlt
        have HL := Lib.hid (wts_few F2.out hl)
        have HCN := Lib.hid (rtimes_any _ l ((j : Int) + 1) wr (hI.ext HX4.out) (by have := HL.out; omega))
        have HTL : Hid (St.times l ((j : Int) + 1) ≤ 100000) := Lib.hid (Nat.le_trans (times_le l _) HL.out)
        have HD : Hid (waitAt ((j : Int) + 1) (s.wts.drop k) k = if ((j : Int) + 1) ∈ l then (5, (k : Int)) else waitAt ((j : Int) + 1) (s.wts.drop (k + 1)) (k + 1)) := Lib.hid (by rw [drop_next hl, waitAt])
        have q9 := blk_cell (HX4.out.blk HB1.out) (9 + k) _ hcell
        clear hcell hI hl
        go_wp2_with fail
        refine HCN.out.mono ?_
        rintro e w' ⟨rfl, rfl⟩
        clear q9
        by_cases hm : ((j : Int) + 1) ∈ l
        · have HQ : Hid ((5, (k : Int)) = q) := Lib.hid (by rw [← HPL.out, HD.out, if_pos hm])
          have hmt : ((0 : Int) < (St.times l ((j : Int) + 1) : Int)) := by have := List.count_pos_iff.2 hm; unfold St.times; omega
          obtain ⟨⟨r0, r1⟩, y0, y1⟩ := place_cells HPR.out
          clear hm
          go_wp2
          refine bodyPost_ret (v := .agg #[.int .i64 _, .int .i64 _]) (results_cell_row rfl _ _ B _ _ _ _ rfl (place_set HPR.out) Try.underlying52 rfl (by kernel_rfl)) rfl ⟨by rw [← HQ.out] <;> rfl, (HX1.out.trans HXR.out).set2 HBW.out _ _⟩
        · have HN : Hid (waitAt ((j : Int) + 1) (s.wts.drop (k + 1)) (k + 1) = q) := Lib.hid (by rw [← HPL.out, HD.out, if_neg hm])
          have hmt : St.times l ((j : Int) + 1) = 0 := by unfold St.times; exact List.count_eq_zero.2 hm
          rw [hmt]
          clear hm hmt
          go_wp2
          go_roundw
          case rel => exact ⟨k + 1, by omega, by go_num, HN.out, trivial⟩
          case measure => simp [intOf]; omega
      · have HQ : Hid ((6, 0) = q) := Lib.hid (by
          obtain rfl : k = 4 := by omega
          rw [← HPL.out]; rfl)
        obtain ⟨⟨r0, r1⟩, y0, y1⟩ := place_cells HPR.out
        go_wp2
        refine bodyPost_ret (v := .agg #[.int .i64 _, .int .i64 _]) (results_cell_row rfl _ _ B _ _ _ _ rfl (place_set HPR.out) Try.underlying52 rfl (by kernel_rfl)) rfl ⟨by rw [← HQ.out] <;> rfl, (HX1.out.trans HXR.out).set2 HBW.out _ _⟩
set_option maxRecDepth 100000 in
set_option maxHeartbeats 2000000 in
theorem rQueue_any (h : StH) (s : St) (p : Int) (q : List Int) (hq : s.queue p = q) (w : World) (hk : StOk w h s) (hf : StFew s) : Calls Try.prog 29 #[stV h s, .int .i64 p] w (IntsP q w) := by
  have HF := Lib.hid hf
  have f1 := hf.ps
  have HK := Lib.hid hk
  obtain ⟨w1, hw1⟩ : ∃ w1, w.alloc (.cells #[.slice h.pa s.prog.length h.pc, .slice h.ga s.gs.length h.gc, .slice h.qa s.ps.length h.qc, .slice h.ma s.ms.length h.mc, .slice h.la s.glob.length h.lc, .int .i64 s.c0, .int .i64 s.c1, .int .i64 s.c2, .int .i64 s.c3, .slice h.a0 s.w0.length h.k0, .slice h.a1 s.w1.length h.k1, .slice h.a2 s.w2.length h.k2, .slice h.a3 s.w3.length h.k3, .slice h.ta s.timers.length h.tc, .int .i64 s.clock, .int .i64 s.procs] 32) = w1 := ⟨_, rfl⟩
  have HX1 : Hid (Ext w w1) := Lib.hid (by rw [← hw1]; exact (Ext.refl w).alloc _)
  have HB1 : Hid (w1.heap[w.heap.size]? = some (.cells (stC h s) 32 (0, 0))) := Lib.hid (by rw [← hw1]; exact blk_new w _)
  have HK1 := Lib.hid (hk.ext HX1.out)
  have HW1 := Lib.hid hw1
  clear hw1 hk
  clear hf
  have HQ := Lib.hid hq
  have HQN : Hid (¬ (1 ≤ p ∧ p ≤ s.procs ∧ s.may = true) → ∀ w', Ext w1 w' → IntsP q w (.returned (.slice none 0 0)) w') := Lib.hid fun hn w' hx => by
    rw [St.queue_no hn] at hq
    subst hq
    exact IntsP.mk' (OwnInts.nil _ _) (Nat.le_refl _) (HX1.out.trans hx)
  clear hq
  have HLD := Lib.hid HB1.out
  have q15 := st15 HB1.out
  unfold stV
  go_enter Try.func29, Try.ntmps29
  go_upto_region 1 with fail
  rw [HW1.out]
  generalize Value.agg #[.slice h.pa s.prog.length h.pc, .slice h.ga s.gs.length h.gc, .slice h.qa s.ps.length h.qc, .slice h.ma s.ms.length h.mc, .slice h.la s.glob.length h.lc, .int .i64 s.c0, .int .i64 s.c1, .int .i64 s.c2, .int .i64 s.c3, .slice h.a0 s.w0.length h.k0, .slice h.a1 s.w1.length h.k1, .slice h.a2 s.w2.length h.k2, .slice h.a3 s.w3.length h.k3, .slice h.ta s.timers.length h.tc, .int .i64 s.clock, .int .i64 s.procs] = sv0
  by_cases a1 : p < 1
  · have HE := Lib.hid (HQN.out (fun h => by omega) w1 (Ext.refl _))
    go_wp2
    go_ret
    exact HE.out
  by_cases a2 : s.procs < p
  · have HE := Lib.hid (HQN.out (fun h => by omega) w1 (Ext.refl _))
    go_wp2
    go_ret
    exact HE.out
  go_wp2_with (refine wpList_load_rowW rfl 32 _ rfl w.heap.size rfl (stL h s) (stV h s) rfl _ (range_row HLD.out) Try.underlying32 rfl (by kernel_rfl) ?_)
  refine (rstmay_any h s _ rfl _ HK1.out HF.out).mono ?_
  rintro e w3 ⟨rfl, hx3⟩
  have HX3 := Lib.hid hx3
  clear hx3 q15 HLD
  cases bm : s.may with
  | false =>
    have HE := Lib.hid (HQN.out (fun h => by rw [bm] at h; exact absurd h.2.2 (by simp)) w3 HX3.out)
    go_wp2
    go_ret
    exact HE.out
  | true =>
    have hps := St.may_procs bm
    obtain ⟨j, rfl⟩ : ∃ j : Nat, p = (j : Int) + 1 := ⟨(p - 1).toNat, by omega⟩
    obtain ⟨x, hp⟩ : ∃ x, s.ps[j]? = some x := ⟨_, List.getElem?_eq_getElem (by omega)⟩
    obtain ⟨m, nx, r, sq⟩ := x
    obtain ⟨b0, b1, b2, b3, b4, b5, b6, b7, hd, nn, rfl⟩ := Ri.open8 (HK.out.buf _ (List.mem_of_getElem? hp))
    have HQY : Hid (St.queueOf ⟨m, nx, ⟨[b0, b1, b2, b3, b4, b5, b6, b7], hd, nn⟩, sq⟩ = q) := Lib.hid (by rw [← HQ.out]; exact (St.queue_yes (by omega) bm hp).symm)
    obtain ⟨b, o, hA, hb, hc⟩ := ps_get (HK1.out.ext HX3.out).ps hp
    obtain ⟨⟨p0, p1, p2, p3, p4, p5, p6⟩, p7, p8, p9, p10, p11, p12⟩ := hc
    have e1 : (j : Int) + 1 - 1 = (j : Int) := by omega
    have e4 : (j : Int) < (s.ps.length : Int) := by omega
    have q2 := st2 (HX3.out.blk HB1.out)
    clear hps hp hb a1 a2
    go_wp2_with fail
    refine (rqueueOf_any m nx b0 b1 b2 b3 b4 b5 b6 b7 hd nn sq w3).mono ?_
    rintro e w5 he
    rw [HQY.out] at he
    obtain ⟨A3, c3, rfl, ho3, hx3⟩ := he
    have HE : Hid (IntsP q w (.returned (.slice A3 q.length c3)) w5) := Lib.hid (IntsP.mk' ho3 (by have := HX1.out.size; have := HX3.out.size; omega) (HX1.out.trans (HX3.out.trans hx3)))
    clear p0 p1 p2 p3 p4 p5 p6 p7 p8 p9 p10 p11 p12
    go_wp2
    go_ret
    exact HE.out
end Go.Proofs.Ytogcfndhcphpaaa
/-
  The fixed calls of layer 12.
-/
set_option linter.unusedVariables false
set_option linter.unusedSimpArgs false
namespace Go.Proofs.Ytogcfndhcphpaaa
open Go.RowKit

def fxS : St := St.made [[(0, 0)]] 2
def fxT : St := { fxS with glob := [] }
theorem fx_new : St.new [[(0, 0)]] 2 = (fxS, 0) := St.new_yes (by decide +kernel)
theorem fx_new2 : St.new [] 2 = (St.nil, 1) := St.new_no (by decide +kernel)
theorem fx_new3 : St.new [[]] 9 = (St.nil, 1) := St.new_no (by decide +kernel)
theorem fx_may : fxS.may = true := by decide +kernel
theorem fx_mayt : fxT.may = false := by decide +kernel
theorem fx_place : fxS.place 1 = (3, 0) := by decide +kernel
theorem fx_queue : fxS.queue 1 = [] := by decide +kernel
theorem fx_few : StFew fxS ∧ StFew fxT := by
  refine ⟨⟨?_, ?_, ?_, ?_, ?_, ?_, ?_, ?_⟩, ⟨?_, ?_, ?_, ?_, ?_, ?_, ?_, ?_⟩⟩
  all_goals first | decide | (simp [fxS, fxT, St.made])
/-- A state in a box of its own. -/
theorem st_box (wa : World) (h : StH) (s : St) : ∃ wb wc, wa.alloc (.cells #[.slice none 0 0, .slice none 0 0, .slice none 0 0, .slice none 0 0, .slice none 0 0, .int .i64 0, .int .i64 0, .int .i64 0, .int .i64 0, .slice none 0 0, .slice none 0 0, .slice none 0 0, .slice none 0 0, .slice none 0 0, .int .i64 0, .int .i64 0] 32) = wb ∧ wb.setCells wa.heap.size 0 (stL h s) = wc ∧ wb.there wa.heap.size 0 (stL h s).length ∧ wc.heap[wa.heap.size]? = some (.cells (stC h s) 32 (0, 0)) ∧ Ext wa wc := by
  have hb := blk_new wa (.cells #[.slice none 0 0, .slice none 0 0, .slice none 0 0, .slice none 0 0, .slice none 0 0, .int .i64 0, .int .i64 0, .int .i64 0, .int .i64 0, .slice none 0 0, .slice none 0 0, .slice none 0 0, .slice none 0 0, .slice none 0 0, .int .i64 0, .int .i64 0] 32)
  refine ⟨_, _, rfl, rfl, there_row hb (Nat.le_refl 16), setCells_at [.slice none 0 0, .slice none 0 0, .slice none 0 0, .slice none 0 0, .slice none 0 0, .int .i64 0, .int .i64 0, .int .i64 0, .int .i64 0, .slice none 0 0, .slice none 0 0, .slice none 0 0, .slice none 0 0, .slice none 0 0, .int .i64 0, .int .i64 0] (stL h s) rfl hb, ?_⟩
  exact ((Ext.refl wa).alloc _).upd (setCells_upd _ _ _ _) (Nat.le_refl _)
theorem nest_nil (w : World) : NestAt 2 pairL w (.slice none 0 0) [] := ⟨[], rfl, RowsAt.nil w, fun i u xs h => by simp at h⟩
theorem nest_one {w : World} {b g n : Nat} {l : List (Int × Int)} (hg : w.heap[g]? = some (.cells #[.slice (some ⟨b, 0, none⟩) n n] 69 (0, 0))) (hr : RowsAt 2 pairL w (.slice (some ⟨b, 0, none⟩) n n) l) : NestAt 2 pairL w (.slice (some ⟨g, 0, none⟩) 1 1) [l] := by
  refine ⟨[.slice (some ⟨b, 0, none⟩) n n], rfl, ⟨_, _, rfl, Nat.le_refl 1, fun _ => ⟨g, 0, rfl, blk_lt hg, fun j x hj i u hu => ?_⟩⟩, fun i u xs hu hx => ?_⟩
  · match j, i with
    | 0, 0 => simp at hj; subst hj; simp [oneL] at hu; subst hu; exact blk_cell hg _ _ rfl
    | 0, i + 1 => simp [oneL] at hu
    | j + 1, _ => simp at hj
  · match i with
    | 0 => simp at hu hx; subst hu hx; exact hr
    | i + 1 => simp at hu
set_option maxRecDepth 100000 in
set_option maxHeartbeats 16000000 in
theorem tfixed_yes (w : World) : Calls Try.prog 13 #[] w fun e w' => e = .returned (.bool true) ∧ Ext w w' := by
  obtain ⟨w1, hw1⟩ : ∃ w1, w.alloc (.cells #[.int .i64 0, .int .i64 0] 68) = w1 := ⟨_, rfl⟩
  obtain ⟨w2, hw2⟩ : ∃ w2, w1.alloc (.cells #[.slice (some ⟨w.heap.size, 0, none⟩) 1 1] 69) = w2 := ⟨_, rfl⟩
  have hx1 : Ext w w1 := by rw [← hw1]; exact (Ext.refl w).alloc _
  have hx2 : Ext w1 w2 := by rw [← hw2]; exact (Ext.refl w1).alloc _
  have hb1 : w1.heap[w.heap.size]? = some (.cells #[.int .i64 0, .int .i64 0] 68 (0, 0)) := by rw [← hw1]; exact blk_new w _
  have hb2 : w2.heap[w1.heap.size]? = some (.cells #[.slice (some ⟨w.heap.size, 0, none⟩) 1 1] 69 (0, 0)) := by rw [← hw2]; exact blk_new w1 _
  have hn : NestAt 2 pairL w2 (.slice (some ⟨w1.heap.size, 0, none⟩) 1 1) [[(0, 0)]] := nest_one hb2 ⟨_, _, rfl, Nat.le_refl 1, fun _ => ⟨w.heap.size, 0, rfl, blk_lt (hx2.blk hb1), fun j x hj i u hu => by
    match j with
    | 0 =>
      simp at hj; subst hj
      refine blk_cell (hx2.blk hb1) _ _ ?_
      match i with
      | 0 | 1 => simp [pairL] at hu; subst hu; rfl
      | i + 2 => simp [pairL] at hu
    | j + 1 => simp at hj⟩⟩
  have HN1 := Lib.hid (sNew_any _ [[(0, 0)]] 2 _ fx_new w2 hn (by decide) (by decide))
  have HX2 : Hid (Ext w w2) := Lib.hid (hx1.trans hx2)
  have HW1 := Lib.hid hw1
  have HW2 := Lib.hid hw2
  clear hw1 hw2 hx1 hx2 hb1 hb2 hn
  go_enter Try.func13, Try.ntmps13
  go_wp2_with (first | rw [HW1.out] | rw [HW2.out])
  refine HN1.out.mono ?_
  rintro e wa ⟨h1, rfl, hk1, hxa⟩
  simp only
  obtain ⟨wb, wc, hwb, hwc, hth, hbc, hxc⟩ := st_box wa h1 fxS
  have HWB := Lib.hid hwb
  have HWC := Lib.hid hwc
  have HTH := Lib.hid hth
  have HBS := Lib.hid hbc
  have HX3 : Hid (Ext w wc) := Lib.hid (HX2.out.trans (hxa.trans hxc))
  have HK1 := Lib.hid (hk1.ext hxc)
  have HN2 := Lib.hid (sNew_any _ [] 2 _ fx_new2 wc (nest_nil wc) (by decide) (by decide))
  clear hwb hwc hth hbc hxc hk1 hxa
  go_wp2_with (first | rw [HWB.out] | (refine wpList_store_row rfl 32 _ _ rfl wa.heap.size (stL h1 fxS) (stV h1 fxS) rfl rfl rfl HTH.out (by kernel_rfl) (stL_one _ _) HWC.out ?_))
  refine HN2.out.mono ?_
  rintro e wd ⟨h2, rfl, hk2, hxd⟩
  simp only
  obtain ⟨we, wf, hwe, hwf, hth2, -, hxf⟩ := st_box wd h2 St.nil
  have HWE := Lib.hid hwe
  have HWF := Lib.hid hwf
  have HTH2 := Lib.hid hth2
  have HX4 : Hid (Ext wc wf) := Lib.hid (hxd.trans hxf)
  obtain ⟨wg, hwg⟩ : ∃ wg, wf.alloc (.cells #[] 68) = wg := ⟨_, rfl⟩
  obtain ⟨wh, hwh⟩ : ∃ wh, wg.alloc (.cells #[.slice (some ⟨wf.heap.size, 0, none⟩) 0 0] 69) = wh := ⟨_, rfl⟩
  have hxg : Ext wf wg := by rw [← hwg]; exact (Ext.refl wf).alloc _
  have hxh : Ext wg wh := by rw [← hwh]; exact (Ext.refl wg).alloc _
  have hbh : wh.heap[wg.heap.size]? = some (.cells #[.slice (some ⟨wf.heap.size, 0, none⟩) 0 0] 69 (0, 0)) := by rw [← hwh]; exact blk_new wg _
  have HN3 := Lib.hid (sNew_any _ [[]] 9 _ fx_new3 wh (nest_one hbh ⟨_, _, rfl, Nat.le_refl 0, fun h => by simp at h⟩) (by decide) (by decide))
  have HX5 : Hid (Ext wc wh) := Lib.hid (HX4.out.trans (hxg.trans hxh))
  have HWG := Lib.hid hwg
  have HWH := Lib.hid hwh
  clear hwe hwf hth2 hxf hk2 hxd hwg hwh hxg hxh hbh
  go_wp2_with (first | rw [HWE.out] | rw [HWG.out] | rw [HWH.out] | (refine wpList_store_row rfl 32 _ _ rfl wd.heap.size (stL h2 St.nil) (stV h2 St.nil) rfl rfl rfl HTH2.out (by kernel_rfl) (stL_one _ _) HWF.out ?_))
  refine HN3.out.mono ?_
  rintro e wi ⟨h3, rfl, hk3, hxi⟩
  simp only
  obtain ⟨wj, wk, hwj, hwk, hth3, -, hxk⟩ := st_box wi h3 St.nil
  obtain ⟨wl, wm, hwl, hwm, hth4, hbm, hxm⟩ := st_box wk h1 fxS
  have HWJ := Lib.hid hwj
  have HWK := Lib.hid hwk
  have HTH3 := Lib.hid hth3
  have HWL := Lib.hid hwl
  have HWM := Lib.hid hwm
  have HTH4 := Lib.hid hth4
  have HXK : Hid (Ext wc wk) := Lib.hid (HX5.out.trans (hxi.trans hxk))
  have HLD : Hid (wk.heap[wa.heap.size]? = some (.cells (stC h1 fxS) 32 (0, 0))) := Lib.hid (HXK.out.blk HBS.out)
  obtain ⟨wn, hwn⟩ : ∃ wn, wm.setCell ⟨wk.heap.size, 4, none⟩ (.slice none 0 0) = wn := ⟨_, rfl⟩
  have HWN := Lib.hid hwn
  obtain ⟨ht, hht⟩ : ∃ ht : StH, ht = { h1 with la := none, lc := 0 } := ⟨_, rfl⟩
  have hbn : wn.heap[wk.heap.size]? = some (.cells (stC ht fxT) 32 (0, 0)) := by rw [← hwn, hht]; exact blk_set hbm 4 _
  have HBT := Lib.hid hbn
  have hxn : Ext wk wn := by rw [← hwn]; exact hxm.setCell (p := ⟨wk.heap.size, 4, none⟩) (Nat.le_refl _) _
  have HXN : Hid (Ext wc wn) := Lib.hid (HXK.out.trans hxn)
  have HBN : Hid (wn.heap[wa.heap.size]? = some (.cells (stC h1 fxS) 32 (0, 0))) := Lib.hid (HXN.out.blk HBS.out)
  have HKN := Lib.hid (HK1.out.ext HXN.out)
  have HKT : Hid (StOk wn ht fxT) := Lib.hid (by
    have := HKN.out
    rw [hht]
    exact ⟨this.prog, this.gs, this.ps, this.ms, (OwnInts.nil wn 0).at.2, this.w0, this.w1, this.w2, this.w3, this.timers, this.buf⟩)
  have q4 : wm.cell? ⟨wk.heap.size, 4, none⟩ = some (.slice h1.la fxS.glob.length h1.lc) := st4 hbm
  have qf := frozen_of_row _ _ 4 _ _ hbm
  clear hwj hwk hth3 hwl hwm hth4 hbm hxm hxk hxi hk3 hwn hbn hxn hht
  go_upto_region 6 with (first | rw [HWJ.out] | rw [HWL.out] | (refine wpList_store_row rfl 32 _ _ rfl wi.heap.size (stL h3 St.nil) (stV h3 St.nil) rfl rfl rfl HTH3.out (by kernel_rfl) (stL_one _ _) HWK.out ?_) | (refine wpList_store_row rfl 32 _ _ rfl wk.heap.size (stL h1 fxS) (stV h1 fxS) rfl rfl rfl HTH4.out (by kernel_rfl) (stL_one _ _) HWM.out ?_) | (refine wpList_load_rowW rfl 32 _ rfl wa.heap.size rfl (stL h1 fxS) (stV h1 fxS) rfl _ (range_row HLD.out) Try.underlying32 rfl (by kernel_rfl) ?_))
  rw [HWN.out]
  clear q4 qf
  have hf := fx_few
  have hq : ∀ w, (Op.equalIn 10000 52 (.agg #[.int .i64 3, .int .i64 0]) (.agg #[.int .i64 3, .int .i64 0])).run Try.prog w = .ok true w := fun w => run_eqPlace 3 0 3 0 w
  have HF := Lib.hid hf
  clear hf
  obtain ⟨sf, hsf⟩ : ∃ sf, sf = fxS := ⟨_, rfl⟩
  refine region_rgx ([(21, (fun u => u = .agg #[.int .i64 3, .int .i64 0] : Value → Prop), (fun _ _ => True : (Nat → GV) → World → Prop)), (35, (fun u => u = .bool true : Value → Prop), (fun _ _ => True : (Nat → GV) → World → Prop)), (39, (fun u => u = .bool false : Value → Prop), (fun _ _ => True : (Nat → GV) → World → Prop)), (44, (fun u => ∃ A c, u = .slice A 0 c : Value → Prop), (fun _ _ => True : (Nat → GV) → World → Prop)), (50, (fun u => ∃ h', u = stV h' fxS : Value → Prop), (fun u w => StAt w (u 50).v fxS : (Nat → GV) → World → Prop)), (52, (fun u => u = .bool true : Value → Prop), (fun _ _ => True : (Nat → GV) → World → Prop))]) (wn) (by kernel_rfl) (by kernel_rfl) ?_ ?_ ?_
  · exact List.forall_mem_cons.2 ⟨⟨⟨_, rfl⟩, fun _ _ _ _ _ => trivial, fun _ _ _ _ _ => trivial⟩, List.forall_mem_cons.2 ⟨⟨⟨_, rfl⟩, fun _ _ _ _ _ => trivial, fun _ _ _ _ _ => trivial⟩, List.forall_mem_cons.2 ⟨⟨⟨_, rfl⟩, fun _ _ _ _ _ => trivial, fun _ _ _ _ _ => trivial⟩, List.forall_mem_cons.2 ⟨⟨⟨_, none, 0, rfl⟩, fun _ _ _ _ _ => trivial, fun _ _ _ _ _ => trivial⟩, List.forall_mem_cons.2 ⟨⟨⟨_, h1, rfl⟩, fun u v w h ht => by show (fun u w => StAt w (u 50).v fxS : (Nat → GV) → World → Prop) v w; dsimp only; rw [← h 50 (.inl rfl) (by kernel_rfl)]; exact ht, fun u w w2 hx ht => ht.ext hx⟩, List.forall_mem_cons.2 ⟨⟨⟨_, rfl⟩, fun _ _ _ _ _ => trivial, fun _ _ _ _ _ => trivial⟩, List.forall_mem_nil _⟩⟩⟩⟩⟩⟩
  · first | assumption | exact Ext.refl _
  refine rg_pure (v := ?_) rfl (by kernel_rfl) (by kernel_rfl) (fun w hS hN => ?_) ?_
  rotate_left 1
  · clear hN
    go_simp
    refine givesP_mk ?_
    with_reducible rfl
  refine rg_pure (v := ?_) rfl (by kernel_rfl) (by kernel_rfl) (fun w hS hN => ?_) ?_
  rotate_left 1
  · clear hN
    go_simp
    refine givesP_mk ?_
    with_reducible rfl
  refine rg_pure (v := ?_) rfl (by kernel_rfl) (by kernel_rfl) (fun w hS hN => ?_) ?_
  rotate_left 1
  · clear hN
    go_simp
    refine givesP_mk ?_
    with_reducible rfl
  refine rg_pure (v := ?_) rfl (by kernel_rfl) (by kernel_rfl) (fun w hS hN => ?_) ?_
  rotate_left 1
  · clear hN
    go_simp
    refine givesP_mk ?_
    with_reducible rfl
  refine rg_pure (v := ?_) rfl (by kernel_rfl) (by kernel_rfl) (fun w hS hN => ?_) ?_
  rotate_left 1
  · have k1 : w.cell? ⟨wa.heap.size, 15, none⟩ = some (.int .i64 2) := st15 (hS.blk HBN.out)
    clear hN
    go_simp
    refine givesP_mk ?_
    with_reducible rfl
  refine rg_pure (v := ?_) rfl (by kernel_rfl) (by kernel_rfl) (fun w hS hN => ?_) ?_
  rotate_left 1
  · clear hN
    go_simp
    refine givesP_mk ?_
    with_reducible rfl
  refine rg_pure (v := ?_) rfl (by kernel_rfl) (by kernel_rfl) (fun w hS hN => ?_) ?_
  rotate_left 1
  · clear hN
    go_simp
    refine givesP_mk ?_
    with_reducible rfl
  refine rg_pure (v := ?_) rfl (by kernel_rfl) (by kernel_rfl) (fun w hS hN => ?_) ?_
  rotate_left 1
  · clear hN
    go_simp
    refine givesP_mk ?_
    with_reducible rfl
  refine rg_pure (v := ?_) rfl (by kernel_rfl) (by kernel_rfl) (fun w hS hN => ?_) ?_
  rotate_left 1
  · clear hN
    go_simp
    refine givesP_mk ?_
    with_reducible rfl
  refine rg_pure (v := ?_) rfl (by kernel_rfl) (by kernel_rfl) (fun w hS hN => ?_) ?_
  rotate_left 1
  · have k2 : w.cell? ⟨wa.heap.size, 2, none⟩ = some (.slice h1.qa 8 h1.qc) := st2 (hS.blk HBN.out)
    clear hN
    go_simp
    refine givesP_mk ?_
    with_reducible rfl
  refine rg_pure (v := ?_) rfl (by kernel_rfl) (by kernel_rfl) (fun w hS hN => ?_) ?_
  rotate_left 1
  · clear hN
    go_simp
    refine givesP_mk ?_
    with_reducible rfl
  refine rg_pure (v := ?_) rfl (by kernel_rfl) (by kernel_rfl) (fun w hS hN => ?_) ?_
  rotate_left 1
  · clear hN
    go_simp
    refine givesP_mk ?_
    with_reducible rfl
  refine rg_pure (v := ?_) rfl (by kernel_rfl) (by kernel_rfl) (fun w hS hN => ?_) ?_
  rotate_left 1
  · clear hN
    go_simp
    refine givesP_mk ?_
    with_reducible rfl
  refine rg_pure (v := ?_) rfl (by kernel_rfl) (by kernel_rfl) (fun w hS hN => ?_) ?_
  rotate_left 1
  · clear hN
    go_simp
    refine givesP_mk ?_
    with_reducible rfl
  refine rg_pure (v := ?_) rfl (by kernel_rfl) (by kernel_rfl) (fun w hS hN => ?_) ?_
  rotate_left 1
  · clear hN
    go_simp
    refine givesP_mk ?_
    with_reducible rfl
  refine rg_pure (v := ?_) rfl (by kernel_rfl) (by kernel_rfl) (fun w hS hN => ?_) ?_
  rotate_left 1
  · have k3 : w.cell? ⟨wa.heap.size, 1, none⟩ = some (.slice h1.ga 1 h1.gc) := st1 (hS.blk HBN.out)
    clear hN
    go_simp
    refine givesP_mk ?_
    with_reducible rfl
  refine rg_pure (v := ?_) rfl (by kernel_rfl) (by kernel_rfl) (fun w hS hN => ?_) ?_
  rotate_left 1
  · clear hN
    go_simp
    refine givesP_mk ?_
    with_reducible rfl
  refine rg_pure (v := ?_) rfl (by kernel_rfl) (by kernel_rfl) (fun w hS hN => ?_) ?_
  rotate_left 1
  · clear hN
    go_simp
    refine givesP_mk ?_
    with_reducible rfl
  refine rg_pure (v := ?_) rfl (by kernel_rfl) (by kernel_rfl) (fun w hS hN => ?_) ?_
  rotate_left 1
  · clear hN
    go_simp
    refine givesP_mk ?_
    with_reducible rfl
  refine rg_pure (v := ?_) rfl (by kernel_rfl) (by kernel_rfl) (fun w hS hN => ?_) ?_
  rotate_left 1
  · clear hN
    go_simp
    refine givesP_mk ?_
    with_reducible rfl
  refine rg_pure (v := stV h1 fxS) rfl (by kernel_rfl) (by kernel_rfl) (fun w hS hN => ?_) ?_
  · clear hN
    exact givesP_load 32 _ rfl _ (by go_simp) (stL h1 fxS) _ rfl _ (range_row (hS.blk HBN.out)) Try.underlying32 rfl (by kernel_rfl)
  refine rg_mem (fun u => u = .agg #[.int .i64 3, .int .i64 0] : Value → Prop) (fun _ _ => True : (Nat → GV) → World → Prop) (fun _ => Ext) rfl rfl rfl rfl (by kernel_rfl) (by kernel_rfl) (fun w hS hN R hR => ?_) ?_
  · have HR := Lib.hid hR
    clear hR
    (try clear hN)
    go_simp
    refine givesM_call ((sPlace_any h1 fxS 1 _ fx_place w (HKN.out.ext hS) HF.out.1).mono ?_)
    rintro e w' ⟨rfl, hx⟩
    exact ⟨_, rfl, HR.out _ _ rfl trivial hx⟩
  rintro u21 s21 t21 rfl
  refine rg_pure (v := ?_) rfl (by kernel_rfl) (by kernel_rfl) (fun w hS hN => ?_) ?_
  rotate_left 1
  · clear hN
    go_simp
    refine givesP_mk ?_
    with_reducible rfl
  refine rg_pure (v := ?_) rfl (by kernel_rfl) (by kernel_rfl) (fun w hS hN => ?_) ?_
  rotate_left 1
  · clear hN
    go_simp
    refine givesP_mk ?_
    with_reducible rfl
  refine rg_pure (v := ?_) rfl (by kernel_rfl) (by kernel_rfl) (fun w hS hN => ?_) ?_
  rotate_left 1
  · clear hN
    go_simp
    refine givesP_mk ?_
    with_reducible rfl
  refine rg_pure (v := ?_) rfl (by kernel_rfl) (by kernel_rfl) (fun w hS hN => ?_) ?_
  rotate_left 1
  · clear hN
    go_simp
    refine givesP_mk ?_
    with_reducible rfl
  refine rg_pure (v := ?_) rfl (by kernel_rfl) (by kernel_rfl) (fun w hS hN => ?_) ?_
  rotate_left 1
  · clear hN
    go_simp
    refine givesP_mk ?_
    with_reducible rfl
  refine rg_pure (v := ?_) rfl (by kernel_rfl) (by kernel_rfl) (fun w hS hN => ?_) ?_
  rotate_left 1
  · clear hN
    go_simp
    refine givesP_mk ?_
    with_reducible rfl
  refine rg_pure (v := ?_) rfl (by kernel_rfl) (by kernel_rfl) (fun w hS hN => ?_) ?_
  rotate_left 1
  · clear hN
    go_simp
    refine givesP_mk ?_
    with_reducible rfl
  refine rg_pure (v := ?_) rfl (by kernel_rfl) (by kernel_rfl) (fun w hS hN => ?_) ?_
  rotate_left 1
  · clear hN
    go_simp
    refine givesP_mk ?_
    with_reducible rfl
  refine rg_pure (v := ?_) rfl (by kernel_rfl) (by kernel_rfl) (fun w hS hN => ?_) ?_
  rotate_left 1
  · clear hN
    go_simp
    refine givesP_mk ?_
    with_reducible rfl
  refine rg_pure (v := ?_) rfl (by kernel_rfl) (by kernel_rfl) (fun w hS hN => ?_) ?_
  rotate_left 1
  · clear hN
    go_simp
    refine givesP_mk ?_
    with_reducible rfl
  refine rg_pure (v := ?_) rfl (by kernel_rfl) (by kernel_rfl) (fun w hS hN => ?_) ?_
  rotate_left 1
  · clear hN
    go_simp
    refine givesP_mk ?_
    with_reducible rfl
  refine rg_pure (v := ?_) rfl (by kernel_rfl) (by kernel_rfl) (fun w hS hN => ?_) ?_
  rotate_left 1
  · clear hN
    go_simp
    refine givesP_mk ?_
    with_reducible rfl
  refine rg_pure (v := stV h1 fxS) rfl (by kernel_rfl) (by kernel_rfl) (fun w hS hN => ?_) ?_
  · clear hN
    exact givesP_load 32 _ rfl _ (by go_simp) (stL h1 fxS) _ rfl _ (range_row (hS.blk HBN.out)) Try.underlying32 rfl (by kernel_rfl)
  refine rg_mem (fun u => u = .bool true : Value → Prop) (fun _ _ => True : (Nat → GV) → World → Prop) (fun _ => Ext) rfl rfl rfl rfl (by kernel_rfl) (by kernel_rfl) (fun w hS hN R hR => ?_) ?_
  · have HR := Lib.hid hR
    clear hR
    (try clear hN)
    go_simp
    refine givesM_call ((sstmay_any h1 fxS true fx_may w (HKN.out.ext hS) HF.out.1).mono ?_)
    rintro e w' ⟨rfl, hx⟩
    exact ⟨_, rfl, HR.out _ _ rfl trivial hx⟩
  rintro u35 s35 t35 rfl
  refine rg_pure (v := ?_) rfl (by kernel_rfl) (by kernel_rfl) (fun w hS hN => ?_) ?_
  rotate_left 1
  · clear hN
    go_simp
    refine givesP_mk ?_
    with_reducible rfl
  refine rg_pure (v := ?_) rfl (by kernel_rfl) (by kernel_rfl) (fun w hS hN => ?_) ?_
  rotate_left 1
  · clear hN
    go_simp
    refine givesP_mk ?_
    with_reducible rfl
  refine rg_pure (v := stV ht fxT) rfl (by kernel_rfl) (by kernel_rfl) (fun w hS hN => ?_) ?_
  · clear hN
    exact givesP_load 32 _ rfl _ (by go_simp) (stL ht fxT) _ rfl _ (range_row (hS.blk HBT.out)) Try.underlying32 rfl (by kernel_rfl)
  refine rg_mem (fun u => u = .bool false : Value → Prop) (fun _ _ => True : (Nat → GV) → World → Prop) (fun _ => Ext) rfl rfl rfl rfl (by kernel_rfl) (by kernel_rfl) (fun w hS hN R hR => ?_) ?_
  · have HR := Lib.hid hR
    clear hR
    (try clear hN)
    go_simp
    refine givesM_call ((sstmay_any ht fxT false fx_mayt w (HKT.out.ext hS) HF.out.2).mono ?_)
    rintro e w' ⟨rfl, hx⟩
    exact ⟨_, rfl, HR.out _ _ rfl trivial hx⟩
  rintro u39 s39 t39 rfl
  refine rg_pure (v := ?_) rfl (by kernel_rfl) (by kernel_rfl) (fun w hS hN => ?_) ?_
  rotate_left 1
  · clear hN
    go_simp
    refine givesP_mk ?_
    with_reducible rfl
  refine rg_pure (v := ?_) rfl (by kernel_rfl) (by kernel_rfl) (fun w hS hN => ?_) ?_
  rotate_left 1
  · clear hN
    go_simp
    refine givesP_mk ?_
    with_reducible rfl
  refine rg_pure (v := ?_) rfl (by kernel_rfl) (by kernel_rfl) (fun w hS hN => ?_) ?_
  rotate_left 1
  · clear hN
    go_simp
    refine givesP_mk ?_
    with_reducible rfl
  refine rg_pure (v := stV h1 fxS) rfl (by kernel_rfl) (by kernel_rfl) (fun w hS hN => ?_) ?_
  · clear hN
    exact givesP_load 32 _ rfl _ (by go_simp) (stL h1 fxS) _ rfl _ (range_row (hS.blk HBN.out)) Try.underlying32 rfl (by kernel_rfl)
  refine rg_mem (fun u => ∃ A c, u = .slice A 0 c : Value → Prop) (fun _ _ => True : (Nat → GV) → World → Prop) (fun _ => Ext) rfl rfl rfl rfl (by kernel_rfl) (by kernel_rfl) (fun w hS hN R hR => ?_) ?_
  · have HR := Lib.hid hR
    clear hR
    (try clear hN)
    go_simp
    refine givesM_call ((sQueue_any h1 fxS 1 _ fx_queue w (HKN.out.ext hS) HF.out.1).mono ?_)
    rintro e w' ⟨A, c, rfl, ho, hx⟩
    exact ⟨_, rfl, HR.out _ _ ⟨_, _, rfl⟩ trivial hx⟩
  rintro u44 s44 t44 ⟨A44, c44, rfl⟩
  refine rg_pure (v := ?_) rfl (by kernel_rfl) (by kernel_rfl) (fun w hS hN => ?_) ?_
  rotate_left 1
  · clear hN
    go_simp
    refine givesP_mk ?_
    with_reducible rfl
  refine rg_pure (v := ?_) rfl (by kernel_rfl) (by kernel_rfl) (fun w hS hN => ?_) ?_
  rotate_left 1
  · clear hN
    go_simp
    refine givesP_mk ?_
    with_reducible rfl
  refine rg_pure (v := ?_) rfl (by kernel_rfl) (by kernel_rfl) (fun w hS hN => ?_) ?_
  rotate_left 1
  · clear hN
    go_simp
    refine givesP_mk ?_
    with_reducible rfl
  refine rg_pure (v := ?_) rfl (by kernel_rfl) (by kernel_rfl) (fun w hS hN => ?_) ?_
  rotate_left 1
  · clear hN
    go_simp
    refine givesP_mk ?_
    with_reducible rfl
  refine rg_pure (v := stV h1 fxS) rfl (by kernel_rfl) (by kernel_rfl) (fun w hS hN => ?_) ?_
  · clear hN
    exact givesP_load 32 _ rfl _ (by go_simp) (stL h1 fxS) _ rfl _ (range_row (hS.blk HBN.out)) Try.underlying32 rfl (by kernel_rfl)
  refine rg_mem (fun u => ∃ h', u = stV h' fxS : Value → Prop) (fun u w => StAt w (u 50).v fxS : (Nat → GV) → World → Prop) (fun _ => Ext) rfl rfl rfl rfl (by kernel_rfl) (by kernel_rfl) (fun w hS hN R hR => ?_) ?_
  · have HR := Lib.hid hR
    clear hR
    (try clear hN)
    go_simp
    refine givesM_call ((sCopy_any h1 fxS w (HKN.out.ext hS) HF.out.1).mono ?_)
    rintro e w' ⟨h', L, rfl, ho, hL, hx⟩
    exact ⟨_, rfl, HR.out _ _ ⟨_, rfl⟩ ⟨h', rfl, ho.ok HKN.out.buf⟩ hx⟩
  rintro u50 s50 t50 ⟨h50, rfl⟩
  refine rg_pure (v := stV h1 fxS) rfl (by kernel_rfl) (by kernel_rfl) (fun w hS hN => ?_) ?_
  · clear hN
    exact givesP_load 32 _ rfl _ (by go_simp) (stL h1 fxS) _ rfl _ (range_row (hS.blk HBN.out)) Try.underlying32 rfl (by kernel_rfl)
  refine rg_mem (fun u => u = .bool true : Value → Prop) (fun _ _ => True : (Nat → GV) → World → Prop) (fun _ => Ext) rfl rfl rfl rfl (by kernel_rfl) (by kernel_rfl) (fun w hS hN R hR => ?_) ?_
  · have HR := Lib.hid hR
    clear hR
    obtain ⟨hh, he, hk⟩ : StAt w (stV h50 fxS) fxS := hN.get 50 rfl (by kernel_rfl)
    (try clear hN)
    go_simp
    refine givesM_call ((rstsame_any hh h1 fxS fxS true (by simp) w hk (HKN.out.ext hS) HF.out.1 (by decide)).mono ?_)
    rintro e w' ⟨rfl, hx⟩
    exact ⟨_, rfl, HR.out _ _ rfl trivial hx⟩
  rintro u52 s52 t52 rfl
  refine rg_pure (v := ?_) rfl (by kernel_rfl) (by kernel_rfl) (fun w hS hN => ?_) ?_
  rotate_left 1
  · clear hN
    go_simp
    refine givesP_mk ?_
    with_reducible rfl
  refine rg_pure (v := ?_) rfl (by kernel_rfl) (by kernel_rfl) (fun w hS hN => ?_) ?_
  rotate_left 1
  · clear hN
    go_simp
    refine givesP_mk ?_
    with_reducible rfl
  refine rg_done rfl (Nat.le_of_ble_eq_true (by kernel_rfl)) ?_
  intro w8 hS hT
  have HX8 := Lib.hid (HX3.out.trans (HXN.out.trans hS))
  clear hT hS hq
  go_simp
  go_wp2
  go_ret
  exact ⟨rfl, HX8.out⟩
end Go.Proofs.Ytogcfndhcphpaaa
/-
  The walk of the statement StateNew.
-/
set_option linter.unusedVariables false
set_option linter.unusedSimpArgs false
namespace Go.Proofs.Ytogcfndhcphpaaa
open Go.RowKit

theorem plfield (a b : Int) (w : World) : (Instr.field 52 (.agg #[.int .i64 a, .int .i64 b]) 0).run Try.prog w = .ok (.int .i64 a) w := by kernel_rfl
theorem plfield1 (a b : Int) (w : World) : (Instr.field 52 (.agg #[.int .i64 a, .int .i64 b]) 1).run Try.prog w = .ok (.int .i64 b) w := by kernel_rfl
theorem holdP_nil (p : List (List (Int × Int))) (n : Int) (j : Nat) : (St.made p n).holdP j nilPr = true := by
  unfold St.holdP
  have h1 : nilPr.ring.may = true := by decide +kernel
  rw [h1]
  simp [nilPr, St.low, St.made]
theorem made_may {p : List (List (Int × Int))} {n : Int} (h : Pg.may p = true ∧ 1 ≤ n ∧ n ≤ 8) : (St.made p n).may = true := by
  have hp := Pg.may_iff.1 h.1
  have hr : (St.made p n).runs = [1] := rfl
  have hw : (St.made p n).waiters = [] := rfl
  have ht : (St.made p n).onM true = [] := rfl
  have hf : (St.made p n).onM false = [] := rfl
  have c1 : (St.made p n).whole = true := by
    unfold St.whole
    rw [Bool.and_eq_true, Bool.and_eq_true, Bool.and_eq_true]
    refine ⟨⟨⟨h.1, ?_⟩, ?_⟩, ?_⟩
    · rw [decide_eq_true_eq]; simp [St.made, h.2]
    · show St.low 0 = true; decide
    · show decide (Sl.May []) = true; decide
  have c2 : (St.made p n).goods = true := by
    unfold St.goods
    rw [List.all_eq_true]
    intro g hg
    have : g = ⟨0, 0, 1, 0, 0⟩ := by simpa [St.made] using hg
    subst this
    unfold St.good
    have h0 : (0 : Int) < (p.length : Int) := by omega
    simp [St.low, St.made, h0]
    omega
  have c3 : (St.made p n).holds = true := by
    unfold St.holds
    rw [Bool.and_eq_true]
    refine ⟨allIx_yes fun j x hj => ?_, rfl⟩
    have : x = nilPr := List.eq_of_mem_replicate (show x ∈ List.replicate 8 nilPr from List.mem_of_getElem? hj)
    subst this
    exact holdP_nil p n j
  have c4 : (St.made p n).counts = true := rfl
  have c5 : (St.made p n).allIn = true := by
    unfold St.allIn
    rw [hr, hw, ht, hf]
    rfl
  have c6 : allIx (St.made p n).stands 0 (St.made p n).gs = true := by
    refine allIx_yes fun j g hj => ?_
    match j with
    | 0 =>
      have : g = ⟨0, 0, 1, 0, 0⟩ := by simpa [St.made] using hj.symm
      subst this
      unfold St.stands
      rw [hr, hw, ht, hf]
      simp [St.times, St.want]
    | j + 1 => simp [St.made] at hj
  unfold St.may
  rw [c1, c2, c3, c4, c5, c6]
  rfl
theorem made_place {p : List (List (Int × Int))} {n : Int} (h : Pg.may p = true ∧ 1 ≤ n ∧ n ≤ 8) : (St.made p n).place 1 = (3, 0) := by
  have := St.place_yes (j := 0) (made_may h) (g := ⟨0, 0, 1, 0, 0⟩) rfl
  rw [show ((0 : Nat) : Int) + 1 = 1 from rfl] at this
  rw [this]
  unfold St.placeOf
  rw [if_pos rfl]
  show placeAt 1 (List.replicate 8 nilPr) 0 = _
  decide +kernel
theorem made_few {p : List (List (Int × Int))} {n : Int} (h1 : p.length ≤ 100000) (h2 : ∀ l ∈ p, l.length ≤ 100000) : StFew (St.made p n) :=
  ⟨⟨h1, h2⟩, by simp [St.made], by simp [St.made], by simp [St.made], by simp [St.made], by simp [St.made], by simp [St.made], by simp [St.made]⟩
theorem nil_few : StFew St.nil := ⟨by simp [St.nil], by simp [St.nil], by simp [St.nil], by simp [St.nil], by simp [St.nil], by simp [St.nil], by simp [St.nil], by simp [St.nil]⟩
end Go.Proofs.Ytogcfndhcphpaaa
/-
  The walk of the statement StateQueues.
-/
set_option linter.unusedVariables false
set_option linter.unusedSimpArgs false
namespace Go.Proofs.Ytogcfndhcphpaaa
open Go.RowKit

theorem sum_count (n : Nat) : ∀ l : List Int, (∀ x ∈ l, 1 ≤ x ∧ x ≤ (n : Int)) → ((List.range n).map fun i : Nat => l.count ((i : Int) + 1)).sum = l.length
  | [], _ => by
    have key : ∀ m : Nat, ((List.range m).map fun i : Nat => ([] : List Int).count ((i : Int) + 1)).sum = 0 := by
      intro m
      induction m with
      | zero => rfl
      | succ m ih => rw [List.range_succ, List.map_append, List.sum_append, ih]; simp
    exact key n
  | x :: l, h => by
    have ih := sum_count n l fun y hy => h y (by simp [hy])
    obtain ⟨h1, h2⟩ := h x (by simp)
    rw [List.length_cons, ← ih]
    have key : ∀ m : Nat, ((List.range m).map fun i : Nat => (x :: l).count ((i : Int) + 1)).sum = ((List.range m).map fun i : Nat => l.count ((i : Int) + 1)).sum + if x ≤ (m : Int) then 1 else 0 := by
      intro m
      induction m with
      | zero => simp; omega
      | succ m ihm =>
        rw [List.range_succ, List.map_append, List.sum_append, List.map_append, List.sum_append, ihm]
        simp only [List.map_cons, List.map_nil, List.sum_cons, List.sum_nil, List.count_cons]
        by_cases hx : x ≤ (m : Int)
        · have h3 : (x == (m : Int) + 1) = false := by simp; omega
          have h4 : x ≤ ((m + 1 : Nat) : Int) := by omega
          simp only [h3, hx, h4, if_true, Bool.false_eq_true, if_false]; omega
        · by_cases he : x = (m : Int) + 1
          · have h3 : (x == (m : Int) + 1) = true := by simpa using he
            have h4 : x ≤ ((m + 1 : Nat) : Int) := by omega
            simp only [h3, hx, h4, if_true, if_false]; omega
          · have h3 : (x == (m : Int) + 1) = false := by simpa using he
            have h4 : ¬ x ≤ ((m + 1 : Nat) : Int) := by omega
            simp only [h3, hx, h4, Bool.false_eq_true, if_false]; omega
    rw [key n, if_pos h2]
theorem sum_want (gs : List Gr) (f : Nat → Nat) (h : ∀ (i : Nat) g, gs[i]? = some g → f i = if g.st = 1 then 1 else 0) : ((List.range gs.length).map f).sum = gs.countP fun g => g.st == 1 := by
  have key : ∀ m, m ≤ gs.length → ((List.range m).map f).sum = (gs.take m).countP fun g => g.st == 1 := by
    intro m
    induction m with
    | zero => intro _; rfl
    | succ m ih =>
      intro hm
      have hg : gs[m]? = some gs[m] := List.getElem?_eq_getElem (by omega)
      rw [List.range_succ, List.map_append, List.sum_append, ih (by omega), take_next hg, List.countP_append]
      have := h m _ hg
      simp only [List.map_cons, List.map_nil, List.sum_cons, List.sum_nil, List.countP_cons, List.countP_nil, this]
      by_cases hs : gs[m].st = 1
      · simp [hs]
      · simp [hs]
  have := key gs.length (Nat.le_refl _)
  rwa [List.take_length] at this
theorem St.may_parts {s : St} (h : s.may = true) : s.whole = true ∧ s.goods = true ∧ s.holds = true ∧ s.counts = true ∧ s.allIn = true ∧ ∀ (j : Nat) g, s.gs[j]? = some g → s.stands j g = true := by
  have h0 := h
  unfold St.may at h
  simp only [Bool.and_eq_true] at h
  obtain ⟨⟨⟨⟨⟨h1, h2⟩, h3⟩, h4⟩, h5⟩, h6⟩ := h
  exact ⟨h1, h2, h3, h4, h5, fun j g hg => St.may_stands h0 hg⟩
theorem St.stands_times {s : St} {j : Nat} {g : Gr} (h : s.stands j g = true) : St.times s.runs ((j : Int) + 1) = St.want g.st 1 ∧ St.times (s.onM true) ((j : Int) + 1) = St.want g.st 2 ∧ St.times s.waiters ((j : Int) + 1) = St.want g.st 3 ∧ St.times (s.onM false) ((j : Int) + 1) = St.want g.st 4 := by
  unfold St.stands at h
  rw [Bool.and_eq_true, Bool.and_eq_true, decide_eq_true_eq, decide_eq_true_eq] at h
  exact h.1.2
theorem St.may_holdP {s : St} (h : s.may = true) {j : Nat} {p : Pr} (hp : s.ps[j]? = some p) : s.holdP j p = true := by
  have := (St.may_parts h).2.2.1
  unfold St.holds at this
  rw [Bool.and_eq_true] at this
  have := allIx_iff.1 this.1 j p hp
  rwa [Nat.zero_add] at this
/-- A P that is there no more has no queue. -/
theorem St.may_empty {s : St} (h : s.may = true) {j : Nat} {p : Pr} (hp : s.ps[j]? = some p) (hj : s.procs ≤ j) : St.queueOf p = [] := by
  have := St.may_holdP h hp
  unfold St.holdP at this
  simp only [Bool.and_eq_true, Bool.not_eq_true', Bool.and_eq_false_iff, Bool.or_eq_false_iff, decide_eq_true_eq, decide_eq_false_iff_not] at this
  obtain ⟨⟨⟨⟨hr, -⟩, -⟩, -⟩, hh⟩ := this
  rcases hh with hh | hh
  · exact absurd hj hh
  · unfold St.queueOf
    rw [if_neg (by simpa using hh.1.2), List.nil_append]
    unfold Ri.list
    rw [if_pos hr]
    have hi : p.ring.inside = true := by unfold Ri.may at hr; rw [Bool.and_eq_true] at hr; exact hr.1
    have h0 := (Ri.inside_iff p.ring).1 hi
    have : p.ring.n = 0 := by have := hh.2; omega
    rw [this]
    rfl
theorem St.runs_count {s : St} (h : s.may = true) : s.runs.length = s.gs.countP fun g => g.st == 1 := by
  obtain ⟨-, -, -, -, h5, h6⟩ := St.may_parts h
  unfold St.allIn at h5
  simp only [Bool.and_eq_true, St.within_iff] at h5
  rw [← sum_count s.gs.length s.runs h5.1.1.1, ← sum_want s.gs _ fun i g hg => (St.stands_times (h6 i g hg)).1]
  rfl
theorem St.runs_take {s : St} (h : s.may = true) (k : Nat) (hk : s.procs = k) : (s.ps.take k).flatMap St.queueOf = s.ps.flatMap St.queueOf := by
  have e : s.ps.flatMap St.queueOf = (s.ps.take k).flatMap St.queueOf ++ (s.ps.drop k).flatMap St.queueOf := by rw [← List.flatMap_append, List.take_append_drop]
  have hz : (s.ps.drop k).flatMap St.queueOf = [] := by
    rw [List.flatMap_eq_nil_iff]
    intro p hp
    obtain ⟨j, hj⟩ := List.mem_iff_getElem?.1 hp
    rw [List.getElem?_drop] at hj
    exact St.may_empty h hj (by omega)
  rw [e, hz, List.append_nil]
/-- As many as can run stand in the queues of the Ps that are there, and in the global one. -/
theorem St.queues_sum {s : St} (h : s.may = true) (k : Nat) (hk : s.procs = k) : s.glob.length + ((s.ps.take k).flatMap St.queueOf).length = s.gs.countP fun g => g.st == 1 := by
  rw [← St.runs_count h, St.runs_take h k hk]
  unfold St.runs
  rw [List.length_append]
  omega
end Go.Proofs.Ytogcfndhcphpaaa
