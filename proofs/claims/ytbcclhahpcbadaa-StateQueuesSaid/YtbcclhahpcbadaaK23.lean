/-
  Several texts in one: Tz, Tzk, Lr.
-/
import Derived.Test.YtbcclhahpcbadaaK14
import Derived.Test.YtbcclhahpcbadaaK22
import Derived.Test.YtbcclhahpcbadaaK16
import Derived.Test.YtbcclhahpcbadaaK18
import Derived.Test.YtbcclhahpcbadaaK13
import Derived.Test.YtbcclhahpcbadaaK19
import Derived.Test.YtbcclhahpcbadaaK01
import Derived.Lib.SmallJoins
/-
  Where a G of a state is: the program's Place, and the document's; the document's Queue.
-/
set_option linter.unusedVariables false
set_option linter.unusedSimpArgs false
namespace Go.Proofs.Ytbcclhahpcbadaa
open Go.RowKit

/-- Where a G is, of a state that may be. -/
def St.placeOf (s : St) (n : Int) (g : Gr) : Int × Int := if g.st = 1 then placeAt n s.ps 0 else if g.st = 2 then (4, g.m) else if g.st = 4 then (7, g.m) else if g.st = 5 then (8, 0) else waitAt n s.wts 0
def St.place (s : St) (n : Int) : Int × Int := if 1 ≤ n ∧ n ≤ s.gs.length ∧ s.may = true then s.placeOf n (s.gs.getD (n - 1).toNat St.nilG) else (0, 0)
theorem St.place_no {s : St} {p : Int} (h : ¬ (1 ≤ p ∧ p ≤ s.gs.length ∧ s.may = true)) : s.place p = (0, 0) := if_neg h
theorem St.place_yes {s : St} {j : Nat} {g : Gr} (h2 : s.may = true) (hg : s.gs[j]? = some g) : s.place ((j : Int) + 1) = s.placeOf ((j : Int) + 1) g := by
  have := (List.getElem?_eq_some_iff.1 hg).1
  unfold St.place
  rw [if_pos ⟨by omega, by omega, h2⟩, show ((j : Int) + 1 - 1).toNat = j by omega, List.getD, hg]
  rfl
theorem St.may_stands {s : St} (h : s.may = true) {j : Nat} {g : Gr} (hg : s.gs[j]? = some g) : s.stands j g = true := by
  unfold St.may at h
  rw [Bool.and_eq_true] at h
  have := allIx_iff.1 h.2 j g hg
  rwa [Nat.zero_add] at this
theorem St.may_st {s : St} (h : s.may = true) {j : Nat} {g : Gr} (hg : s.gs[j]? = some g) : 1 ≤ g.st ∧ g.st ≤ 5 := by
  have := St.may_stands h hg
  unfold St.stands at this
  rw [Bool.and_eq_true, Bool.and_eq_true, decide_eq_true_eq] at this
  exact this.1.1
set_option maxRecDepth 100000 in
set_option maxHeartbeats 8000000 in
theorem sPlace_any (h : StH) (s : St) (n : Int) (q : Int × Int) (hq : s.place n = q) (w : World) (hk : StOk w h s) (hf : StFew s) : Calls Try.prog 16 #[stV h s, .int .i64 n] w fun e w' => e = .returned (plV q) ∧ Ext w w' := by
  have HF := Lib.hid hf
  have f1 := hf.gs
  have F2 := Lib.hid hf.w
  have HK := Lib.hid hk
  obtain ⟨w1, hw1⟩ : ∃ w1, w.alloc (.cells #[.slice h.pa s.prog.length h.pc, .slice h.ga s.gs.length h.gc, .slice h.qa s.ps.length h.qc, .slice h.ma s.ms.length h.mc, .slice h.la s.glob.length h.lc, .int .i64 s.c0, .int .i64 s.c1, .int .i64 s.c2, .int .i64 s.c3, .slice h.a0 s.w0.length h.k0, .slice h.a1 s.w1.length h.k1, .slice h.a2 s.w2.length h.k2, .slice h.a3 s.w3.length h.k3, .slice h.ta s.timers.length h.tc, .int .i64 s.clock, .int .i64 s.procs] 32) = w1 := ⟨_, rfl⟩
  have HX1 : Hid (Ext w w1) := Lib.hid (by rw [← hw1]; exact (Ext.refl w).alloc _)
  have HB1 : Hid (w1.heap[w.heap.size]? = some (.cells (stC h s) 32 (0, 0))) := Lib.hid (by rw [← hw1]; exact blk_new w _)
  have HK1 := Lib.hid (hk.ext HX1.out)
  have HW1 := Lib.hid hw1
  clear hw1 hk
  clear hf
  obtain ⟨B, hB⟩ : ∃ B, w1.heap.size = B := ⟨_, rfl⟩
  have HB := Lib.hid hB
  obtain ⟨w2, hw2⟩ : ∃ w2, w1.alloc (.cells #[.int .i64 0, .int .i64 0] 43) = w2 := ⟨_, rfl⟩
  have HW2 := Lib.hid hw2
  have HX2 : Hid (Ext w1 w2) := Lib.hid (by rw [← hw2]; exact (Ext.refl w1).alloc _)
  have HP2 : Hid (w2.heap[B]? = some (.cells #[.int .i64 0, .int .i64 0] 43 (0, 0))) := Lib.hid (by rw [← hw2, ← hB]; exact blk_new w1 _)
  have HBW : Hid (w.heap.size ≤ B) := Lib.hid (by rw [← hB]; exact HX1.out.size)
  clear hB hw2
  have HQ0 := Lib.hid hq
  clear hq
  have q1 := st1 (HX2.out.blk HB1.out)
  have HLD := Lib.hid (HX2.out.blk HB1.out)
  unfold stV
  go_enter Try.func16, Try.ntmps16
  go_upto_region 1 with (first | rw [HW1.out] | rw [HW2.out])
  rw [HB.out]
  generalize Value.agg #[.slice h.pa s.prog.length h.pc, .slice h.ga s.gs.length h.gc, .slice h.qa s.ps.length h.qc, .slice h.ma s.ms.length h.mc, .slice h.la s.glob.length h.lc, .int .i64 s.c0, .int .i64 s.c1, .int .i64 s.c2, .int .i64 s.c3, .slice h.a0 s.w0.length h.k0, .slice h.a1 s.w1.length h.k1, .slice h.a2 s.w2.length h.k2, .slice h.a3 s.w3.length h.k3, .slice h.ta s.timers.length h.tc, .int .i64 s.clock, .int .i64 s.procs] = sv0
  by_cases a1 : n < 1
  · have HQ : Hid ((0, 0) = q) := Lib.hid (by rw [← HQ0.out, St.place_no (by omega)])
    have HPR := Lib.hid HP2.out
    have HXR := Lib.hid HX2.out
    obtain ⟨⟨r0, r1⟩, y0, y1⟩ := place_cells HPR.out
    go_wp2
    refine bodyPost_ret (v := .agg #[.int .i64 _, .int .i64 _]) (results_cell_row rfl _ _ B _ _ _ _ rfl (place_set HPR.out) Try.underlying43 rfl (by kernel_rfl)) rfl ⟨by rw [← HQ.out] <;> rfl, (HX1.out.trans HXR.out).set2 HBW.out _ _⟩
  by_cases a2 : (s.gs.length : Int) < n
  · have HQ : Hid ((0, 0) = q) := Lib.hid (by rw [← HQ0.out, St.place_no (by omega)])
    have HPR := Lib.hid HP2.out
    have HXR := Lib.hid HX2.out
    obtain ⟨⟨r0, r1⟩, y0, y1⟩ := place_cells HPR.out
    go_wp2
    refine bodyPost_ret (v := .agg #[.int .i64 _, .int .i64 _]) (results_cell_row rfl _ _ B _ _ _ _ rfl (place_set HPR.out) Try.underlying43 rfl (by kernel_rfl)) rfl ⟨by rw [← HQ.out] <;> rfl, (HX1.out.trans HXR.out).set2 HBW.out _ _⟩
  go_wp2_with (refine wpList_load_rowW rfl 32 _ rfl w.heap.size rfl (stL h s) (stV h s) rfl _ (range_row HLD.out) Try.underlying32 rfl (by kernel_rfl) ?_)
  refine (sstmay_any h s _ rfl _ (HK1.out.ext HX2.out) HF.out).mono ?_
  rintro e w3 ⟨rfl, hx3⟩
  have HX3 := Lib.hid (HX2.out.trans hx3)
  have HP3 := Lib.hid (hx3.blk HP2.out)
  clear hx3 q1 HLD
  cases bm : s.may with
  | false =>
    have HQ : Hid ((0, 0) = q) := Lib.hid (by rw [← HQ0.out, St.place_no (fun h => by rw [bm] at h; exact absurd h.2.2 (by simp))])
    have HPR := Lib.hid HP3.out
    have HXR := Lib.hid HX3.out
    obtain ⟨⟨r0, r1⟩, y0, y1⟩ := place_cells HPR.out
    go_wp2
    refine bodyPost_ret (v := .agg #[.int .i64 _, .int .i64 _]) (results_cell_row rfl _ _ B _ _ _ _ rfl (place_set HPR.out) Try.underlying43 rfl (by kernel_rfl)) rfl ⟨by rw [← HQ.out] <;> rfl, (HX1.out.trans HXR.out).set2 HBW.out _ _⟩
  | true =>
    obtain ⟨j, rfl⟩ : ∃ j : Nat, n = (j : Int) + 1 := ⟨(n - 1).toNat, by omega⟩
    obtain ⟨g, hg⟩ : ∃ g, s.gs[j]? = some g := ⟨_, List.getElem?_eq_getElem (by omega)⟩
    have hst := St.may_st bm hg
    have HPO : Hid (s.placeOf ((j : Int) + 1) g = q) := Lib.hid (by rw [← HQ0.out, St.place_yes bm hg])
    obtain ⟨b, o, hA, hb, p0, p1, p2, p3, p4⟩ := gs_get (HK1.out.ext HX3.out).gs hg
    obtain ⟨fn, pc, st, m, sq⟩ := g
    simp only at p0 p1 p2 p3 p4 hst
    have e1 : (j : Int) + 1 - 1 = (j : Int) := by omega
    have e4 : (j : Int) < (s.gs.length : Int) := by omega
    obtain ⟨w4, hw4⟩ : ∃ w4, w3.alloc (.cells #[.int .i64 fn, .int .i64 pc, .int .i64 st, .int .i64 m, .int .i64 sq] 50) = w4 := ⟨_, rfl⟩
    have HW4 := Lib.hid hw4
    have HX4 : Hid (Ext w1 w4) := Lib.hid (by rw [← hw4]; exact HX3.out.alloc _)
    have HG4 : Hid (w4.heap[w3.heap.size]? = some (.cells #[.int .i64 fn, .int .i64 pc, .int .i64 st, .int .i64 m, .int .i64 sq] 50 (0, 0))) := Lib.hid (by rw [← hw4]; exact blk_new w3 _)
    have HP4 : Hid (w4.heap[B]? = some (.cells #[.int .i64 0, .int .i64 0] 43 (0, 0))) := Lib.hid (by rw [← hw4]; exact blk_alloc HP3.out _)
    have q1 := st1 (HX3.out.blk HB1.out)
    have HA := Lib.hid hA
    clear hg hb a1 a2 hw4 hA
    have hA := HA.out
    go_upto_region 4 with fail
    rw [HW4.out]
    clear p0 p1 p2 p3 p4 q1 hA e1 e4
    have HLD := Lib.hid (HX4.out.blk HB1.out)
    have z2 := blk_cell HG4.out 2 _ rfl
    by_cases s1 : st = 1
    · subst s1
      obtain ⟨qa, qb, hqq⟩ : ∃ qa qb, (qa, qb) = q := ⟨q.1, q.2, rfl⟩
      have HQ := Lib.hid hqq
      clear hqq
      have HSC : Hid (Calls Try.prog 45 #[stV h s, .int .i64 ((j : Int) + 1)] w4 fun e w' => e = .returned (.agg #[.int .i64 qa, .int .i64 qb]) ∧ Ext w4 w') := Lib.hid (squeued_any h s ((j : Int) + 1) (qa, qb) (by rw [HQ.out, ← HPO.out]; rfl) w4 (HK1.out.ext HX4.out) HF.out)
      go_wp2_with (refine wpList_load_rowW rfl 32 _ rfl w.heap.size rfl (stL h s) (stV h s) rfl _ (range_row HLD.out) Try.underlying32 rfl (by kernel_rfl) ?_)
      refine HSC.out.mono ?_
      rintro e w5 ⟨rfl, hx5⟩
      have HXR := Lib.hid (HX4.out.trans hx5)
      have HPR := Lib.hid (hx5.blk HP4.out)
      clear z2 hx5
      obtain ⟨⟨r0, r1⟩, y0, y1⟩ := place_cells HPR.out
      go_wp2
      refine bodyPost_ret (v := .agg #[.int .i64 _, .int .i64 _]) (results_cell_row rfl _ _ B _ _ _ _ rfl (place_set HPR.out) Try.underlying43 rfl (by kernel_rfl)) rfl ⟨by rw [← HQ.out] <;> rfl, (HX1.out.trans HXR.out).set2 HBW.out _ _⟩
    have HXR := Lib.hid HX4.out
    have HPR := Lib.hid HP4.out
    have s1' : (st == 1) = false := by simpa using s1
    by_cases s2 : st = 2
    · subst s2
      have HQ : Hid ((4, m) = q) := Lib.hid (by rw [← HPO.out]; rfl)
      have z3 := blk_cell HG4.out 3 _ rfl
      clear s1
      obtain ⟨⟨r0, r1⟩, y0, y1⟩ := place_cells HPR.out
      go_wp2
      refine bodyPost_ret (v := .agg #[.int .i64 _, .int .i64 _]) (results_cell_row rfl _ _ B _ _ _ _ rfl (place_set HPR.out) Try.underlying43 rfl (by kernel_rfl)) rfl ⟨by rw [← HQ.out] <;> rfl, (HX1.out.trans HXR.out).set2 HBW.out _ _⟩
    have s2' : (st == 2) = false := by simpa using s2
    by_cases s3 : st = 3
    · subst s3
      obtain ⟨qa, qb, hqq⟩ : ∃ qa qb, (qa, qb) = q := ⟨q.1, q.2, rfl⟩
      have HQ := Lib.hid hqq
      clear hqq
      have HSC : Hid (Calls Try.prog 46 #[stV h s, .int .i64 ((j : Int) + 1)] w4 fun e w' => e = .returned (.agg #[.int .i64 qa, .int .i64 qb]) ∧ Ext w4 w') := Lib.hid (swaiting_any h s ((j : Int) + 1) (qa, qb) (by rw [HQ.out, ← HPO.out]; rfl) w4 (HK1.out.ext HX4.out) HF.out)
      clear s1 s2
      go_wp2_with (refine wpList_load_rowW rfl 32 _ rfl w.heap.size rfl (stL h s) (stV h s) rfl _ (range_row HLD.out) Try.underlying32 rfl (by kernel_rfl) ?_)
      refine HSC.out.mono ?_
      rintro e w5 ⟨rfl, hx5⟩
      clear HXR HPR
      have HXR := Lib.hid (HX4.out.trans hx5)
      have HPR := Lib.hid (hx5.blk HP4.out)
      clear z2 hx5
      obtain ⟨⟨r0, r1⟩, y0, y1⟩ := place_cells HPR.out
      go_wp2
      refine bodyPost_ret (v := .agg #[.int .i64 _, .int .i64 _]) (results_cell_row rfl _ _ B _ _ _ _ rfl (place_set HPR.out) Try.underlying43 rfl (by kernel_rfl)) rfl ⟨by rw [← HQ.out] <;> rfl, (HX1.out.trans HXR.out).set2 HBW.out _ _⟩
    have s3' : (st == 3) = false := by simpa using s3
    by_cases s4 : st = 4
    · subst s4
      have HQ : Hid ((7, m) = q) := Lib.hid (by rw [← HPO.out]; rfl)
      have z3 := blk_cell HG4.out 3 _ rfl
      clear s1 s2
      obtain ⟨⟨r0, r1⟩, y0, y1⟩ := place_cells HPR.out
      go_wp2
      refine bodyPost_ret (v := .agg #[.int .i64 _, .int .i64 _]) (results_cell_row rfl _ _ B _ _ _ _ rfl (place_set HPR.out) Try.underlying43 rfl (by kernel_rfl)) rfl ⟨by rw [← HQ.out] <;> rfl, (HX1.out.trans HXR.out).set2 HBW.out _ _⟩
    have s4' : (st == 4) = false := by simpa using s4
    obtain rfl : st = 5 := by omega
    have HQ : Hid ((8, 0) = q) := Lib.hid (by rw [← HPO.out]; rfl)
    clear s1 s2 s3 s4
    obtain ⟨⟨r0, r1⟩, y0, y1⟩ := place_cells HPR.out
    go_wp2
    refine bodyPost_ret (v := .agg #[.int .i64 _, .int .i64 _]) (results_cell_row rfl _ _ B _ _ _ _ rfl (place_set HPR.out) Try.underlying43 rfl (by kernel_rfl)) rfl ⟨by rw [← HQ.out] <;> rfl, (HX1.out.trans HXR.out).set2 HBW.out _ _⟩
set_option maxRecDepth 100000 in
set_option maxHeartbeats 8000000 in
theorem rPlace_any (h : StH) (s : St) (n : Int) (q : Int × Int) (hq : s.place n = q) (w : World) (hk : StOk w h s) (hf : StFew s) : Calls Try.prog 17 #[stV h s, .int .i64 n] w fun e w' => e = .returned (plV q) ∧ Ext w w' := by
  have HF := Lib.hid hf
  have f1 := hf.gs
  have F2 := Lib.hid hf.w
  have HK := Lib.hid hk
  obtain ⟨w1, hw1⟩ : ∃ w1, w.alloc (.cells #[.slice h.pa s.prog.length h.pc, .slice h.ga s.gs.length h.gc, .slice h.qa s.ps.length h.qc, .slice h.ma s.ms.length h.mc, .slice h.la s.glob.length h.lc, .int .i64 s.c0, .int .i64 s.c1, .int .i64 s.c2, .int .i64 s.c3, .slice h.a0 s.w0.length h.k0, .slice h.a1 s.w1.length h.k1, .slice h.a2 s.w2.length h.k2, .slice h.a3 s.w3.length h.k3, .slice h.ta s.timers.length h.tc, .int .i64 s.clock, .int .i64 s.procs] 32) = w1 := ⟨_, rfl⟩
  have HX1 : Hid (Ext w w1) := Lib.hid (by rw [← hw1]; exact (Ext.refl w).alloc _)
  have HB1 : Hid (w1.heap[w.heap.size]? = some (.cells (stC h s) 32 (0, 0))) := Lib.hid (by rw [← hw1]; exact blk_new w _)
  have HK1 := Lib.hid (hk.ext HX1.out)
  have HW1 := Lib.hid hw1
  clear hw1 hk
  clear hf
  obtain ⟨B, hB⟩ : ∃ B, w1.heap.size = B := ⟨_, rfl⟩
  have HB := Lib.hid hB
  obtain ⟨w2, hw2⟩ : ∃ w2, w1.alloc (.cells #[.int .i64 0, .int .i64 0] 43) = w2 := ⟨_, rfl⟩
  have HW2 := Lib.hid hw2
  have HX2 : Hid (Ext w1 w2) := Lib.hid (by rw [← hw2]; exact (Ext.refl w1).alloc _)
  have HP2 : Hid (w2.heap[B]? = some (.cells #[.int .i64 0, .int .i64 0] 43 (0, 0))) := Lib.hid (by rw [← hw2, ← hB]; exact blk_new w1 _)
  have HBW : Hid (w.heap.size ≤ B) := Lib.hid (by rw [← hB]; exact HX1.out.size)
  clear hB hw2
  have HQ0 := Lib.hid hq
  clear hq
  have q1 := st1 (HX2.out.blk HB1.out)
  have HLD := Lib.hid (HX2.out.blk HB1.out)
  unfold stV
  go_enter Try.func17, Try.ntmps17
  go_upto_region 1 with (first | rw [HW1.out] | rw [HW2.out])
  rw [HB.out]
  generalize Value.agg #[.slice h.pa s.prog.length h.pc, .slice h.ga s.gs.length h.gc, .slice h.qa s.ps.length h.qc, .slice h.ma s.ms.length h.mc, .slice h.la s.glob.length h.lc, .int .i64 s.c0, .int .i64 s.c1, .int .i64 s.c2, .int .i64 s.c3, .slice h.a0 s.w0.length h.k0, .slice h.a1 s.w1.length h.k1, .slice h.a2 s.w2.length h.k2, .slice h.a3 s.w3.length h.k3, .slice h.ta s.timers.length h.tc, .int .i64 s.clock, .int .i64 s.procs] = sv0
  by_cases a1 : n < 1
  · have HQ : Hid ((0, 0) = q) := Lib.hid (by rw [← HQ0.out, St.place_no (by omega)])
    have HPR := Lib.hid HP2.out
    have HXR := Lib.hid HX2.out
    obtain ⟨⟨r0, r1⟩, y0, y1⟩ := place_cells HPR.out
    go_wp2
    refine bodyPost_ret (v := .agg #[.int .i64 _, .int .i64 _]) (results_cell_row rfl _ _ B _ _ _ _ rfl (place_set HPR.out) Try.underlying43 rfl (by kernel_rfl)) rfl ⟨by rw [← HQ.out] <;> rfl, (HX1.out.trans HXR.out).set2 HBW.out _ _⟩
  by_cases a2 : (s.gs.length : Int) < n
  · have HQ : Hid ((0, 0) = q) := Lib.hid (by rw [← HQ0.out, St.place_no (by omega)])
    have HPR := Lib.hid HP2.out
    have HXR := Lib.hid HX2.out
    obtain ⟨⟨r0, r1⟩, y0, y1⟩ := place_cells HPR.out
    go_wp2
    refine bodyPost_ret (v := .agg #[.int .i64 _, .int .i64 _]) (results_cell_row rfl _ _ B _ _ _ _ rfl (place_set HPR.out) Try.underlying43 rfl (by kernel_rfl)) rfl ⟨by rw [← HQ.out] <;> rfl, (HX1.out.trans HXR.out).set2 HBW.out _ _⟩
  go_wp2_with (refine wpList_load_rowW rfl 32 _ rfl w.heap.size rfl (stL h s) (stV h s) rfl _ (range_row HLD.out) Try.underlying32 rfl (by kernel_rfl) ?_)
  refine (rstmay_any h s _ rfl _ (HK1.out.ext HX2.out) HF.out).mono ?_
  rintro e w3 ⟨rfl, hx3⟩
  have HX3 := Lib.hid (HX2.out.trans hx3)
  have HP3 := Lib.hid (hx3.blk HP2.out)
  clear hx3 q1 HLD
  cases bm : s.may with
  | false =>
    have HQ : Hid ((0, 0) = q) := Lib.hid (by rw [← HQ0.out, St.place_no (fun h => by rw [bm] at h; exact absurd h.2.2 (by simp))])
    have HPR := Lib.hid HP3.out
    have HXR := Lib.hid HX3.out
    obtain ⟨⟨r0, r1⟩, y0, y1⟩ := place_cells HPR.out
    go_wp2
    refine bodyPost_ret (v := .agg #[.int .i64 _, .int .i64 _]) (results_cell_row rfl _ _ B _ _ _ _ rfl (place_set HPR.out) Try.underlying43 rfl (by kernel_rfl)) rfl ⟨by rw [← HQ.out] <;> rfl, (HX1.out.trans HXR.out).set2 HBW.out _ _⟩
  | true =>
    obtain ⟨j, rfl⟩ : ∃ j : Nat, n = (j : Int) + 1 := ⟨(n - 1).toNat, by omega⟩
    obtain ⟨g, hg⟩ : ∃ g, s.gs[j]? = some g := ⟨_, List.getElem?_eq_getElem (by omega)⟩
    have hst := St.may_st bm hg
    have HPO : Hid (s.placeOf ((j : Int) + 1) g = q) := Lib.hid (by rw [← HQ0.out, St.place_yes bm hg])
    obtain ⟨b, o, hA, hb, p0, p1, p2, p3, p4⟩ := gs_get (HK1.out.ext HX3.out).gs hg
    obtain ⟨fn, pc, st, m, sq⟩ := g
    simp only at p0 p1 p2 p3 p4 hst
    have e1 : (j : Int) + 1 - 1 = (j : Int) := by omega
    have e4 : (j : Int) < (s.gs.length : Int) := by omega
    obtain ⟨w4, hw4⟩ : ∃ w4, w3.alloc (.cells #[.int .i64 fn, .int .i64 pc, .int .i64 st, .int .i64 m, .int .i64 sq] 50) = w4 := ⟨_, rfl⟩
    have HW4 := Lib.hid hw4
    have HX4 : Hid (Ext w1 w4) := Lib.hid (by rw [← hw4]; exact HX3.out.alloc _)
    have HG4 : Hid (w4.heap[w3.heap.size]? = some (.cells #[.int .i64 fn, .int .i64 pc, .int .i64 st, .int .i64 m, .int .i64 sq] 50 (0, 0))) := Lib.hid (by rw [← hw4]; exact blk_new w3 _)
    have HP4 : Hid (w4.heap[B]? = some (.cells #[.int .i64 0, .int .i64 0] 43 (0, 0))) := Lib.hid (by rw [← hw4]; exact blk_alloc HP3.out _)
    have q1 := st1 (HX3.out.blk HB1.out)
    have HA := Lib.hid hA
    clear hg hb a1 a2 hw4 hA
    have hA := HA.out
    go_upto_region 4 with fail
    rw [HW4.out]
    clear p0 p1 p2 p3 p4 q1 hA e1 e4
    have HLD := Lib.hid (HX4.out.blk HB1.out)
    have z2 := blk_cell HG4.out 2 _ rfl
    by_cases s1 : st = 1
    · subst s1
      obtain ⟨qa, qb, hqq⟩ : ∃ qa qb, (qa, qb) = q := ⟨q.1, q.2, rfl⟩
      have HQ := Lib.hid hqq
      clear hqq
      have HSC : Hid (Calls Try.prog 47 #[stV h s, .int .i64 ((j : Int) + 1)] w4 fun e w' => e = .returned (.agg #[.int .i64 qa, .int .i64 qb]) ∧ Ext w4 w') := Lib.hid (ratP_any h s ((j : Int) + 1) (qa, qb) (by rw [HQ.out, ← HPO.out]; rfl) w4 (HK1.out.ext HX4.out) HF.out)
      go_wp2_with (refine wpList_load_rowW rfl 32 _ rfl w.heap.size rfl (stL h s) (stV h s) rfl _ (range_row HLD.out) Try.underlying32 rfl (by kernel_rfl) ?_)
      refine HSC.out.mono ?_
      rintro e w5 ⟨rfl, hx5⟩
      have HXR := Lib.hid (HX4.out.trans hx5)
      have HPR := Lib.hid (hx5.blk HP4.out)
      clear z2 hx5
      obtain ⟨⟨r0, r1⟩, y0, y1⟩ := place_cells HPR.out
      go_wp2
      refine bodyPost_ret (v := .agg #[.int .i64 _, .int .i64 _]) (results_cell_row rfl _ _ B _ _ _ _ rfl (place_set HPR.out) Try.underlying43 rfl (by kernel_rfl)) rfl ⟨by rw [← HQ.out] <;> rfl, (HX1.out.trans HXR.out).set2 HBW.out _ _⟩
    have HXR := Lib.hid HX4.out
    have HPR := Lib.hid HP4.out
    have s1' : (st == 1) = false := by simpa using s1
    by_cases s2 : st = 2
    · subst s2
      have HQ : Hid ((4, m) = q) := Lib.hid (by rw [← HPO.out]; rfl)
      have z3 := blk_cell HG4.out 3 _ rfl
      clear s1
      obtain ⟨⟨r0, r1⟩, y0, y1⟩ := place_cells HPR.out
      go_wp2
      refine bodyPost_ret (v := .agg #[.int .i64 _, .int .i64 _]) (results_cell_row rfl _ _ B _ _ _ _ rfl (place_set HPR.out) Try.underlying43 rfl (by kernel_rfl)) rfl ⟨by rw [← HQ.out] <;> rfl, (HX1.out.trans HXR.out).set2 HBW.out _ _⟩
    have s2' : (st == 2) = false := by simpa using s2
    by_cases s4 : st = 4
    · subst s4
      have HQ : Hid ((7, m) = q) := Lib.hid (by rw [← HPO.out]; rfl)
      have z3 := blk_cell HG4.out 3 _ rfl
      clear s1 s2
      obtain ⟨⟨r0, r1⟩, y0, y1⟩ := place_cells HPR.out
      go_wp2
      refine bodyPost_ret (v := .agg #[.int .i64 _, .int .i64 _]) (results_cell_row rfl _ _ B _ _ _ _ rfl (place_set HPR.out) Try.underlying43 rfl (by kernel_rfl)) rfl ⟨by rw [← HQ.out] <;> rfl, (HX1.out.trans HXR.out).set2 HBW.out _ _⟩
    have s4' : (st == 4) = false := by simpa using s4
    by_cases s5 : st = 5
    · subst s5
      have HQ : Hid ((8, 0) = q) := Lib.hid (by rw [← HPO.out]; rfl)
      clear s1 s2 s4
      obtain ⟨⟨r0, r1⟩, y0, y1⟩ := place_cells HPR.out
      go_wp2
      refine bodyPost_ret (v := .agg #[.int .i64 _, .int .i64 _]) (results_cell_row rfl _ _ B _ _ _ _ rfl (place_set HPR.out) Try.underlying43 rfl (by kernel_rfl)) rfl ⟨by rw [← HQ.out] <;> rfl, (HX1.out.trans HXR.out).set2 HBW.out _ _⟩
    obtain rfl : st = 3 := by omega
    have HWT : Hid (waitAt ((j : Int) + 1) s.wts 0 = q) := Lib.hid (by rw [← HPO.out]; rfl)
    clear s1 s2 s4 s5 HLD s1' s2' s4' hst
    go_wp2_with fail
    clear z2
    go_loopw [6] (fun iv wr => ∃ k : Nat, k ≤ 4 ∧ iv = .int .i64 k ∧ waitAt ((j : Int) + 1) (s.wts.drop k) k = q ∧ wr = w4) (fun iv _ => 4 - (intOf iv).toNat)
    case atStart => exact ⟨0, by omega, rfl, HWT.out, rfl⟩
    case round =>
      obtain ⟨k, hk, rfl, hpl, rfl⟩ := hrel
      have HPL := Lib.hid hpl
      clear hpl
      by_cases hlt : k < 4
      · obtain ⟨A0, d0, l, hcell, hI, hl⟩ := HK1.out.wait hlt
        have HL := Lib.hid (wts_few F2.out hl)
        have HCN := Lib.hid (rtimes_any _ l ((j : Int) + 1) wr (hI.ext HX4.out) (by have := HL.out; omega))
        have HTL : Hid (St.times l ((j : Int) + 1) ≤ 100000) := Lib.hid (Nat.le_trans (times_le l _) HL.out)
        have HD : Hid (waitAt ((j : Int) + 1) (s.wts.drop k) k = if ((j : Int) + 1) ∈ l then (5, (k : Int)) else waitAt ((j : Int) + 1) (s.wts.drop (k + 1)) (k + 1)) := Lib.hid (by rw [drop_next hl, waitAt])
        have q9 := blk_cell (HX4.out.blk HB1.out) (9 + k) _ hcell
        clear hcell hI hl
        go_wp2_with fail
        refine HCN.out.mono ?_
        rintro e w' ⟨rfl, rfl⟩
        clear q9
        by_cases hm : ((j : Int) + 1) ∈ l
        · have HQ : Hid ((5, (k : Int)) = q) := Lib.hid (by rw [← HPL.out, HD.out, if_pos hm])
          have hmt : ((0 : Int) < (St.times l ((j : Int) + 1) : Int)) := by have := List.count_pos_iff.2 hm; unfold St.times; omega
          obtain ⟨⟨r0, r1⟩, y0, y1⟩ := place_cells HPR.out
          clear hm
          go_wp2
          refine bodyPost_ret (v := .agg #[.int .i64 _, .int .i64 _]) (results_cell_row rfl _ _ B _ _ _ _ rfl (place_set HPR.out) Try.underlying43 rfl (by kernel_rfl)) rfl ⟨by rw [← HQ.out] <;> rfl, (HX1.out.trans HXR.out).set2 HBW.out _ _⟩
        · have HN : Hid (waitAt ((j : Int) + 1) (s.wts.drop (k + 1)) (k + 1) = q) := Lib.hid (by rw [← HPL.out, HD.out, if_neg hm])
          have hmt : St.times l ((j : Int) + 1) = 0 := by unfold St.times; exact List.count_eq_zero.2 hm
          rw [hmt]
          clear hm hmt
          go_wp2
          go_roundw
          case rel => exact ⟨k + 1, by omega, by go_num, HN.out, trivial⟩
          case measure => simp [intOf]; omega
      · have HQ : Hid ((6, 0) = q) := Lib.hid (by
          obtain rfl : k = 4 := by omega
          rw [← HPL.out]; rfl)
        obtain ⟨⟨r0, r1⟩, y0, y1⟩ := place_cells HPR.out
        go_wp2
        refine bodyPost_ret (v := .agg #[.int .i64 _, .int .i64 _]) (results_cell_row rfl _ _ B _ _ _ _ rfl (place_set HPR.out) Try.underlying43 rfl (by kernel_rfl)) rfl ⟨by rw [← HQ.out] <;> rfl, (HX1.out.trans HXR.out).set2 HBW.out _ _⟩
set_option maxRecDepth 100000 in
set_option maxHeartbeats 2000000 in
theorem rQueue_any (h : StH) (s : St) (p : Int) (q : List Int) (hq : s.queue p = q) (w : World) (hk : StOk w h s) (hf : StFew s) : Calls Try.prog 20 #[stV h s, .int .i64 p] w (IntsP q w) := by
  have HF := Lib.hid hf
  have f1 := hf.ps
  have HK := Lib.hid hk
  obtain ⟨w1, hw1⟩ : ∃ w1, w.alloc (.cells #[.slice h.pa s.prog.length h.pc, .slice h.ga s.gs.length h.gc, .slice h.qa s.ps.length h.qc, .slice h.ma s.ms.length h.mc, .slice h.la s.glob.length h.lc, .int .i64 s.c0, .int .i64 s.c1, .int .i64 s.c2, .int .i64 s.c3, .slice h.a0 s.w0.length h.k0, .slice h.a1 s.w1.length h.k1, .slice h.a2 s.w2.length h.k2, .slice h.a3 s.w3.length h.k3, .slice h.ta s.timers.length h.tc, .int .i64 s.clock, .int .i64 s.procs] 32) = w1 := ⟨_, rfl⟩
  have HX1 : Hid (Ext w w1) := Lib.hid (by rw [← hw1]; exact (Ext.refl w).alloc _)
  have HB1 : Hid (w1.heap[w.heap.size]? = some (.cells (stC h s) 32 (0, 0))) := Lib.hid (by rw [← hw1]; exact blk_new w _)
  have HK1 := Lib.hid (hk.ext HX1.out)
  have HW1 := Lib.hid hw1
  clear hw1 hk
  clear hf
  have HQ := Lib.hid hq
  have HQN : Hid (¬ (1 ≤ p ∧ p ≤ s.procs ∧ s.may = true) → ∀ w', Ext w1 w' → IntsP q w (.returned (.slice none 0 0)) w') := Lib.hid fun hn w' hx => by
    rw [St.queue_no hn] at hq
    subst hq
    exact IntsP.mk' (OwnInts.nil _ _) (Nat.le_refl _) (HX1.out.trans hx)
  clear hq
  have HLD := Lib.hid HB1.out
  have q15 := st15 HB1.out
  unfold stV
  go_enter Try.func20, Try.ntmps20
  go_upto_region 1 with fail
  rw [HW1.out]
  generalize Value.agg #[.slice h.pa s.prog.length h.pc, .slice h.ga s.gs.length h.gc, .slice h.qa s.ps.length h.qc, .slice h.ma s.ms.length h.mc, .slice h.la s.glob.length h.lc, .int .i64 s.c0, .int .i64 s.c1, .int .i64 s.c2, .int .i64 s.c3, .slice h.a0 s.w0.length h.k0, .slice h.a1 s.w1.length h.k1, .slice h.a2 s.w2.length h.k2, .slice h.a3 s.w3.length h.k3, .slice h.ta s.timers.length h.tc, .int .i64 s.clock, .int .i64 s.procs] = sv0
  by_cases a1 : p < 1
  · have HE := Lib.hid (HQN.out (fun h => by omega) w1 (Ext.refl _))
    go_wp2
    go_ret
    exact HE.out
  by_cases a2 : s.procs < p
  · have HE := Lib.hid (HQN.out (fun h => by omega) w1 (Ext.refl _))
    go_wp2
    go_ret
    exact HE.out
  go_wp2_with (refine wpList_load_rowW rfl 32 _ rfl w.heap.size rfl (stL h s) (stV h s) rfl _ (range_row HLD.out) Try.underlying32 rfl (by kernel_rfl) ?_)
  refine (rstmay_any h s _ rfl _ HK1.out HF.out).mono ?_
  rintro e w3 ⟨rfl, hx3⟩
  have HX3 := Lib.hid hx3
  clear hx3 q15 HLD
  cases bm : s.may with
  | false =>
    have HE := Lib.hid (HQN.out (fun h => by rw [bm] at h; exact absurd h.2.2 (by simp)) w3 HX3.out)
    go_wp2
    go_ret
    exact HE.out
  | true =>
    have hps := St.may_procs bm
    obtain ⟨j, rfl⟩ : ∃ j : Nat, p = (j : Int) + 1 := ⟨(p - 1).toNat, by omega⟩
    obtain ⟨x, hp⟩ : ∃ x, s.ps[j]? = some x := ⟨_, List.getElem?_eq_getElem (by omega)⟩
    obtain ⟨m, nx, r, sq⟩ := x
    obtain ⟨b0, b1, b2, b3, b4, b5, b6, b7, hd, nn, rfl⟩ := Ri.open8 (HK.out.buf _ (List.mem_of_getElem? hp))
    have HQY : Hid (St.queueOf ⟨m, nx, ⟨[b0, b1, b2, b3, b4, b5, b6, b7], hd, nn⟩, sq⟩ = q) := Lib.hid (by rw [← HQ.out]; exact (St.queue_yes (by omega) bm hp).symm)
    obtain ⟨b, o, hA, hb, hc⟩ := ps_get (HK1.out.ext HX3.out).ps hp
    obtain ⟨⟨p0, p1, p2, p3, p4, p5, p6⟩, p7, p8, p9, p10, p11, p12⟩ := hc
    have e1 : (j : Int) + 1 - 1 = (j : Int) := by omega
    have e4 : (j : Int) < (s.ps.length : Int) := by omega
    have q2 := st2 (HX3.out.blk HB1.out)
    clear hps hp hb a1 a2
    go_wp2_with fail
    refine (rqueueOf_any m nx b0 b1 b2 b3 b4 b5 b6 b7 hd nn sq w3).mono ?_
    rintro e w5 he
    rw [HQY.out] at he
    obtain ⟨A3, c3, rfl, ho3, hx3⟩ := he
    have HE : Hid (IntsP q w (.returned (.slice A3 q.length c3)) w5) := Lib.hid (IntsP.mk' ho3 (by have := HX1.out.size; have := HX3.out.size; omega) (HX1.out.trans (HX3.out.trans hx3)))
    clear p0 p1 p2 p3 p4 p5 p6 p7 p8 p9 p10 p11 p12
    go_wp2
    go_ret
    exact HE.out
end Go.Proofs.Ytbcclhahpcbadaa
/-
  The fixed calls of layer 12.
-/
set_option linter.unusedVariables false
set_option linter.unusedSimpArgs false
namespace Go.Proofs.Ytbcclhahpcbadaa
open Go.RowKit

def fxS : St := St.made [[(0, 0)]] 2
def fxT : St := { fxS with glob := [] }
theorem fx_new : St.new [[(0, 0)]] 2 = (fxS, 0) := St.new_yes (by decide +kernel)
theorem fx_new2 : St.new [] 2 = (St.nil, 1) := St.new_no (by decide +kernel)
theorem fx_new3 : St.new [[]] 9 = (St.nil, 1) := St.new_no (by decide +kernel)
theorem fx_may : fxS.may = true := by decide +kernel
theorem fx_mayt : fxT.may = false := by decide +kernel
theorem fx_place : fxS.place 1 = (3, 0) := by decide +kernel
theorem fx_queue : fxS.queue 1 = [] := by decide +kernel
theorem fx_few : StFew fxS ∧ StFew fxT := by
  refine ⟨⟨?_, ?_, ?_, ?_, ?_, ?_, ?_, ?_⟩, ⟨?_, ?_, ?_, ?_, ?_, ?_, ?_, ?_⟩⟩
  all_goals first | decide | (simp [fxS, fxT, St.made])
/-- A state in a box of its own. -/
theorem st_box (wa : World) (h : StH) (s : St) : ∃ wb wc, wa.alloc (.cells #[.slice none 0 0, .slice none 0 0, .slice none 0 0, .slice none 0 0, .slice none 0 0, .int .i64 0, .int .i64 0, .int .i64 0, .int .i64 0, .slice none 0 0, .slice none 0 0, .slice none 0 0, .slice none 0 0, .slice none 0 0, .int .i64 0, .int .i64 0] 32) = wb ∧ wb.setCells wa.heap.size 0 (stL h s) = wc ∧ wb.there wa.heap.size 0 (stL h s).length ∧ wc.heap[wa.heap.size]? = some (.cells (stC h s) 32 (0, 0)) ∧ Ext wa wc := by
  have hb := blk_new wa (.cells #[.slice none 0 0, .slice none 0 0, .slice none 0 0, .slice none 0 0, .slice none 0 0, .int .i64 0, .int .i64 0, .int .i64 0, .int .i64 0, .slice none 0 0, .slice none 0 0, .slice none 0 0, .slice none 0 0, .slice none 0 0, .int .i64 0, .int .i64 0] 32)
  refine ⟨_, _, rfl, rfl, there_row hb (Nat.le_refl 16), setCells_at [.slice none 0 0, .slice none 0 0, .slice none 0 0, .slice none 0 0, .slice none 0 0, .int .i64 0, .int .i64 0, .int .i64 0, .int .i64 0, .slice none 0 0, .slice none 0 0, .slice none 0 0, .slice none 0 0, .slice none 0 0, .int .i64 0, .int .i64 0] (stL h s) rfl hb, ?_⟩
  exact ((Ext.refl wa).alloc _).upd (setCells_upd _ _ _ _) (Nat.le_refl _)
theorem nest_nil (w : World) : NestAt 2 pairL w (.slice none 0 0) [] := ⟨[], rfl, RowsAt.nil w, fun i u xs h => by simp at h⟩
theorem nest_one {w : World} {b g n : Nat} {l : List (Int × Int)} (hg : w.heap[g]? = some (.cells #[.slice (some ⟨b, 0, none⟩) n n] 61 (0, 0))) (hr : RowsAt 2 pairL w (.slice (some ⟨b, 0, none⟩) n n) l) : NestAt 2 pairL w (.slice (some ⟨g, 0, none⟩) 1 1) [l] := by
  refine ⟨[.slice (some ⟨b, 0, none⟩) n n], rfl, ⟨_, _, rfl, Nat.le_refl 1, fun _ => ⟨g, 0, rfl, blk_lt hg, fun j x hj i u hu => ?_⟩⟩, fun i u xs hu hx => ?_⟩
  · match j, i with
    | 0, 0 => simp at hj; subst hj; simp [oneL] at hu; subst hu; exact blk_cell hg _ _ rfl
    | 0, i + 1 => simp [oneL] at hu
    | j + 1, _ => simp at hj
  · match i with
    | 0 => simp at hu hx; subst hu hx; exact hr
    | i + 1 => simp at hu
set_option maxRecDepth 100000 in
set_option maxHeartbeats 16000000 in
theorem tfixed_yes (w : World) : Calls Try.prog 10 #[] w fun e w' => e = .returned (.bool true) ∧ Ext w w' := by
  obtain ⟨w1, hw1⟩ : ∃ w1, w.alloc (.cells #[.int .i64 0, .int .i64 0] 63) = w1 := ⟨_, rfl⟩
  obtain ⟨w2, hw2⟩ : ∃ w2, w1.alloc (.cells #[.slice (some ⟨w.heap.size, 0, none⟩) 1 1] 61) = w2 := ⟨_, rfl⟩
  have hx1 : Ext w w1 := by rw [← hw1]; exact (Ext.refl w).alloc _
  have hx2 : Ext w1 w2 := by rw [← hw2]; exact (Ext.refl w1).alloc _
  have hb1 : w1.heap[w.heap.size]? = some (.cells #[.int .i64 0, .int .i64 0] 63 (0, 0)) := by rw [← hw1]; exact blk_new w _
  have hb2 : w2.heap[w1.heap.size]? = some (.cells #[.slice (some ⟨w.heap.size, 0, none⟩) 1 1] 61 (0, 0)) := by rw [← hw2]; exact blk_new w1 _
  have hn : NestAt 2 pairL w2 (.slice (some ⟨w1.heap.size, 0, none⟩) 1 1) [[(0, 0)]] := nest_one hb2 ⟨_, _, rfl, Nat.le_refl 1, fun _ => ⟨w.heap.size, 0, rfl, blk_lt (hx2.blk hb1), fun j x hj i u hu => by
    match j with
    | 0 =>
      simp at hj; subst hj
      refine blk_cell (hx2.blk hb1) _ _ ?_
      match i with
      | 0 | 1 => simp [pairL] at hu; subst hu; rfl
      | i + 2 => simp [pairL] at hu
    | j + 1 => simp at hj⟩⟩
  have HN1 := Lib.hid (sNew_any _ [[(0, 0)]] 2 _ fx_new w2 hn (by decide) (by decide))
  have HX2 : Hid (Ext w w2) := Lib.hid (hx1.trans hx2)
  have HW1 := Lib.hid hw1
  have HW2 := Lib.hid hw2
  clear hw1 hw2 hx1 hx2 hb1 hb2 hn
  go_enter Try.func10, Try.ntmps10
  go_wp2_with (first | rw [HW1.out] | rw [HW2.out])
  refine HN1.out.mono ?_
  rintro e wa ⟨h1, rfl, hk1, hxa⟩
  simp only
  obtain ⟨wb, wc, hwb, hwc, hth, hbc, hxc⟩ := st_box wa h1 fxS
  have HWB := Lib.hid hwb
  have HWC := Lib.hid hwc
  have HTH := Lib.hid hth
  have HBS := Lib.hid hbc
  have HX3 : Hid (Ext w wc) := Lib.hid (HX2.out.trans (hxa.trans hxc))
  have HK1 := Lib.hid (hk1.ext hxc)
  have HN2 := Lib.hid (sNew_any _ [] 2 _ fx_new2 wc (nest_nil wc) (by decide) (by decide))
  clear hwb hwc hth hbc hxc hk1 hxa
  go_wp2_with (first | rw [HWB.out] | (refine wpList_store_row rfl 32 _ _ rfl wa.heap.size (stL h1 fxS) (stV h1 fxS) rfl rfl rfl HTH.out (by kernel_rfl) (stL_one _ _) HWC.out ?_))
  refine HN2.out.mono ?_
  rintro e wd ⟨h2, rfl, hk2, hxd⟩
  simp only
  obtain ⟨we, wf, hwe, hwf, hth2, -, hxf⟩ := st_box wd h2 St.nil
  have HWE := Lib.hid hwe
  have HWF := Lib.hid hwf
  have HTH2 := Lib.hid hth2
  have HX4 : Hid (Ext wc wf) := Lib.hid (hxd.trans hxf)
  obtain ⟨wg, hwg⟩ : ∃ wg, wf.alloc (.cells #[] 63) = wg := ⟨_, rfl⟩
  obtain ⟨wh, hwh⟩ : ∃ wh, wg.alloc (.cells #[.slice (some ⟨wf.heap.size, 0, none⟩) 0 0] 61) = wh := ⟨_, rfl⟩
  have hxg : Ext wf wg := by rw [← hwg]; exact (Ext.refl wf).alloc _
  have hxh : Ext wg wh := by rw [← hwh]; exact (Ext.refl wg).alloc _
  have hbh : wh.heap[wg.heap.size]? = some (.cells #[.slice (some ⟨wf.heap.size, 0, none⟩) 0 0] 61 (0, 0)) := by rw [← hwh]; exact blk_new wg _
  have HN3 := Lib.hid (sNew_any _ [[]] 9 _ fx_new3 wh (nest_one hbh ⟨_, _, rfl, Nat.le_refl 0, fun h => by simp at h⟩) (by decide) (by decide))
  have HX5 : Hid (Ext wc wh) := Lib.hid (HX4.out.trans (hxg.trans hxh))
  have HWG := Lib.hid hwg
  have HWH := Lib.hid hwh
  clear hwe hwf hth2 hxf hk2 hxd hwg hwh hxg hxh hbh
  go_wp2_with (first | rw [HWE.out] | rw [HWG.out] | rw [HWH.out] | (refine wpList_store_row rfl 32 _ _ rfl wd.heap.size (stL h2 St.nil) (stV h2 St.nil) rfl rfl rfl HTH2.out (by kernel_rfl) (stL_one _ _) HWF.out ?_))
  refine HN3.out.mono ?_
  rintro e wi ⟨h3, rfl, hk3, hxi⟩
  simp only
  obtain ⟨wj, wk, hwj, hwk, hth3, -, hxk⟩ := st_box wi h3 St.nil
  obtain ⟨wl, wm, hwl, hwm, hth4, hbm, hxm⟩ := st_box wk h1 fxS
  have HWJ := Lib.hid hwj
  have HWK := Lib.hid hwk
  have HTH3 := Lib.hid hth3
  have HWL := Lib.hid hwl
  have HWM := Lib.hid hwm
  have HTH4 := Lib.hid hth4
  have HXK : Hid (Ext wc wk) := Lib.hid (HX5.out.trans (hxi.trans hxk))
  have HLD : Hid (wk.heap[wa.heap.size]? = some (.cells (stC h1 fxS) 32 (0, 0))) := Lib.hid (HXK.out.blk HBS.out)
  obtain ⟨wn, hwn⟩ : ∃ wn, wm.setCell ⟨wk.heap.size, 4, none⟩ (.slice none 0 0) = wn := ⟨_, rfl⟩
  have HWN := Lib.hid hwn
  obtain ⟨ht, hht⟩ : ∃ ht : StH, ht = { h1 with la := none, lc := 0 } := ⟨_, rfl⟩
  have hbn : wn.heap[wk.heap.size]? = some (.cells (stC ht fxT) 32 (0, 0)) := by rw [← hwn, hht]; exact blk_set hbm 4 _
  have HBT := Lib.hid hbn
  have hxn : Ext wk wn := by rw [← hwn]; exact hxm.setCell (p := ⟨wk.heap.size, 4, none⟩) (Nat.le_refl _) _
  have HXN : Hid (Ext wc wn) := Lib.hid (HXK.out.trans hxn)
  have HBN : Hid (wn.heap[wa.heap.size]? = some (.cells (stC h1 fxS) 32 (0, 0))) := Lib.hid (HXN.out.blk HBS.out)
  have HKN := Lib.hid (HK1.out.ext HXN.out)
  have HKT : Hid (StOk wn ht fxT) := Lib.hid (by
    have := HKN.out
    rw [hht]
    exact ⟨this.prog, this.gs, this.ps, this.ms, (OwnInts.nil wn 0).at.2, this.w0, this.w1, this.w2, this.w3, this.timers, this.buf⟩)
  have q4 : wm.cell? ⟨wk.heap.size, 4, none⟩ = some (.slice h1.la fxS.glob.length h1.lc) := st4 hbm
  have qf := frozen_of_row _ _ 4 _ _ hbm
  clear hwj hwk hth3 hwl hwm hth4 hbm hxm hxk hxi hk3 hwn hbn hxn hht
  go_upto_region 6 with (first | rw [HWJ.out] | rw [HWL.out] | (refine wpList_store_row rfl 32 _ _ rfl wi.heap.size (stL h3 St.nil) (stV h3 St.nil) rfl rfl rfl HTH3.out (by kernel_rfl) (stL_one _ _) HWK.out ?_) | (refine wpList_store_row rfl 32 _ _ rfl wk.heap.size (stL h1 fxS) (stV h1 fxS) rfl rfl rfl HTH4.out (by kernel_rfl) (stL_one _ _) HWM.out ?_) | (refine wpList_load_rowW rfl 32 _ rfl wa.heap.size rfl (stL h1 fxS) (stV h1 fxS) rfl _ (range_row HLD.out) Try.underlying32 rfl (by kernel_rfl) ?_))
  rw [HWN.out]
  clear q4 qf
  have hf := fx_few
  have hq : ∀ w, (Op.equalIn 10000 43 (.agg #[.int .i64 3, .int .i64 0]) (.agg #[.int .i64 3, .int .i64 0])).run Try.prog w = .ok true w := fun w => run_eqPlace 3 0 3 0 w
  have HF := Lib.hid hf
  clear hf
  obtain ⟨sf, hsf⟩ : ∃ sf, sf = fxS := ⟨_, rfl⟩
  refine region_rgx ([(21, (fun u => u = .agg #[.int .i64 3, .int .i64 0] : Value → Prop), (fun _ _ => True : (Nat → GV) → World → Prop)), (35, (fun u => u = .bool true : Value → Prop), (fun _ _ => True : (Nat → GV) → World → Prop)), (39, (fun u => u = .bool false : Value → Prop), (fun _ _ => True : (Nat → GV) → World → Prop)), (44, (fun u => ∃ A c, u = .slice A 0 c : Value → Prop), (fun _ _ => True : (Nat → GV) → World → Prop)), (50, (fun u => ∃ h', u = stV h' fxS : Value → Prop), (fun u w => StAt w (u 50).v fxS : (Nat → GV) → World → Prop)), (52, (fun u => u = .bool true : Value → Prop), (fun _ _ => True : (Nat → GV) → World → Prop))]) (wn) (by kernel_rfl) (by kernel_rfl) ?_ ?_ ?_
  · exact List.forall_mem_cons.2 ⟨⟨⟨_, rfl⟩, fun _ _ _ _ _ => trivial, fun _ _ _ _ _ => trivial⟩, List.forall_mem_cons.2 ⟨⟨⟨_, rfl⟩, fun _ _ _ _ _ => trivial, fun _ _ _ _ _ => trivial⟩, List.forall_mem_cons.2 ⟨⟨⟨_, rfl⟩, fun _ _ _ _ _ => trivial, fun _ _ _ _ _ => trivial⟩, List.forall_mem_cons.2 ⟨⟨⟨_, none, 0, rfl⟩, fun _ _ _ _ _ => trivial, fun _ _ _ _ _ => trivial⟩, List.forall_mem_cons.2 ⟨⟨⟨_, h1, rfl⟩, fun u v w h ht => by show (fun u w => StAt w (u 50).v fxS : (Nat → GV) → World → Prop) v w; dsimp only; rw [← h 50 (.inl rfl) (by kernel_rfl)]; exact ht, fun u w w2 hx ht => ht.ext hx⟩, List.forall_mem_cons.2 ⟨⟨⟨_, rfl⟩, fun _ _ _ _ _ => trivial, fun _ _ _ _ _ => trivial⟩, List.forall_mem_nil _⟩⟩⟩⟩⟩⟩
  · first | assumption | exact Ext.refl _
  refine rg_pure (v := ?_) rfl (by kernel_rfl) (by kernel_rfl) (fun w hS hN => ?_) ?_
  rotate_left 1
  · clear hN
    go_simp
    refine givesP_mk ?_
    with_reducible rfl
  refine rg_pure (v := ?_) rfl (by kernel_rfl) (by kernel_rfl) (fun w hS hN => ?_) ?_
  rotate_left 1
  · clear hN
    go_simp
    refine givesP_mk ?_
    with_reducible rfl
  refine rg_pure (v := ?_) rfl (by kernel_rfl) (by kernel_rfl) (fun w hS hN => ?_) ?_
  rotate_left 1
  · clear hN
    go_simp
    refine givesP_mk ?_
    with_reducible rfl
  refine rg_pure (v := ?_) rfl (by kernel_rfl) (by kernel_rfl) (fun w hS hN => ?_) ?_
  rotate_left 1
  · clear hN
    go_simp
    refine givesP_mk ?_
    with_reducible rfl
  refine rg_pure (v := ?_) rfl (by kernel_rfl) (by kernel_rfl) (fun w hS hN => ?_) ?_
  rotate_left 1
  · have k1 : w.cell? ⟨wa.heap.size, 15, none⟩ = some (.int .i64 2) := st15 (hS.blk HBN.out)
    clear hN
    go_simp
    refine givesP_mk ?_
    with_reducible rfl
  refine rg_pure (v := ?_) rfl (by kernel_rfl) (by kernel_rfl) (fun w hS hN => ?_) ?_
  rotate_left 1
  · clear hN
    go_simp
    refine givesP_mk ?_
    with_reducible rfl
  refine rg_pure (v := ?_) rfl (by kernel_rfl) (by kernel_rfl) (fun w hS hN => ?_) ?_
  rotate_left 1
  · clear hN
    go_simp
    refine givesP_mk ?_
    with_reducible rfl
  refine rg_pure (v := ?_) rfl (by kernel_rfl) (by kernel_rfl) (fun w hS hN => ?_) ?_
  rotate_left 1
  · clear hN
    go_simp
    refine givesP_mk ?_
    with_reducible rfl
  refine rg_pure (v := ?_) rfl (by kernel_rfl) (by kernel_rfl) (fun w hS hN => ?_) ?_
  rotate_left 1
  · clear hN
    go_simp
    refine givesP_mk ?_
    with_reducible rfl
  refine rg_pure (v := ?_) rfl (by kernel_rfl) (by kernel_rfl) (fun w hS hN => ?_) ?_
  rotate_left 1
  · have k2 : w.cell? ⟨wa.heap.size, 2, none⟩ = some (.slice h1.qa 8 h1.qc) := st2 (hS.blk HBN.out)
    clear hN
    go_simp
    refine givesP_mk ?_
    with_reducible rfl
  refine rg_pure (v := ?_) rfl (by kernel_rfl) (by kernel_rfl) (fun w hS hN => ?_) ?_
  rotate_left 1
  · clear hN
    go_simp
    refine givesP_mk ?_
    with_reducible rfl
  refine rg_pure (v := ?_) rfl (by kernel_rfl) (by kernel_rfl) (fun w hS hN => ?_) ?_
  rotate_left 1
  · clear hN
    go_simp
    refine givesP_mk ?_
    with_reducible rfl
  refine rg_pure (v := ?_) rfl (by kernel_rfl) (by kernel_rfl) (fun w hS hN => ?_) ?_
  rotate_left 1
  · clear hN
    go_simp
    refine givesP_mk ?_
    with_reducible rfl
  refine rg_pure (v := ?_) rfl (by kernel_rfl) (by kernel_rfl) (fun w hS hN => ?_) ?_
  rotate_left 1
  · clear hN
    go_simp
    refine givesP_mk ?_
    with_reducible rfl
  refine rg_pure (v := ?_) rfl (by kernel_rfl) (by kernel_rfl) (fun w hS hN => ?_) ?_
  rotate_left 1
  · clear hN
    go_simp
    refine givesP_mk ?_
    with_reducible rfl
  refine rg_pure (v := ?_) rfl (by kernel_rfl) (by kernel_rfl) (fun w hS hN => ?_) ?_
  rotate_left 1
  · have k3 : w.cell? ⟨wa.heap.size, 1, none⟩ = some (.slice h1.ga 1 h1.gc) := st1 (hS.blk HBN.out)
    clear hN
    go_simp
    refine givesP_mk ?_
    with_reducible rfl
  refine rg_pure (v := ?_) rfl (by kernel_rfl) (by kernel_rfl) (fun w hS hN => ?_) ?_
  rotate_left 1
  · clear hN
    go_simp
    refine givesP_mk ?_
    with_reducible rfl
  refine rg_pure (v := ?_) rfl (by kernel_rfl) (by kernel_rfl) (fun w hS hN => ?_) ?_
  rotate_left 1
  · clear hN
    go_simp
    refine givesP_mk ?_
    with_reducible rfl
  refine rg_pure (v := ?_) rfl (by kernel_rfl) (by kernel_rfl) (fun w hS hN => ?_) ?_
  rotate_left 1
  · clear hN
    go_simp
    refine givesP_mk ?_
    with_reducible rfl
  refine rg_pure (v := ?_) rfl (by kernel_rfl) (by kernel_rfl) (fun w hS hN => ?_) ?_
  rotate_left 1
  · clear hN
    go_simp
    refine givesP_mk ?_
    with_reducible rfl
  refine rg_pure (v := stV h1 fxS) rfl (by kernel_rfl) (by kernel_rfl) (fun w hS hN => ?_) ?_
  · clear hN
    exact givesP_load 32 _ rfl _ (by go_simp) (stL h1 fxS) _ rfl _ (range_row (hS.blk HBN.out)) Try.underlying32 rfl (by kernel_rfl)
  refine rg_mem (fun u => u = .agg #[.int .i64 3, .int .i64 0] : Value → Prop) (fun _ _ => True : (Nat → GV) → World → Prop) (fun _ => Ext) rfl rfl rfl rfl (by kernel_rfl) (by kernel_rfl) (fun w hS hN R hR => ?_) ?_
  · have HR := Lib.hid hR
    clear hR
    (try clear hN)
    go_simp
    refine givesM_call ((sPlace_any h1 fxS 1 _ fx_place w (HKN.out.ext hS) HF.out.1).mono ?_)
    rintro e w' ⟨rfl, hx⟩
    exact ⟨_, rfl, HR.out _ _ rfl trivial hx⟩
  rintro u21 s21 t21 rfl
  refine rg_pure (v := ?_) rfl (by kernel_rfl) (by kernel_rfl) (fun w hS hN => ?_) ?_
  rotate_left 1
  · clear hN
    go_simp
    refine givesP_mk ?_
    with_reducible rfl
  refine rg_pure (v := ?_) rfl (by kernel_rfl) (by kernel_rfl) (fun w hS hN => ?_) ?_
  rotate_left 1
  · clear hN
    go_simp
    refine givesP_mk ?_
    with_reducible rfl
  refine rg_pure (v := ?_) rfl (by kernel_rfl) (by kernel_rfl) (fun w hS hN => ?_) ?_
  rotate_left 1
  · clear hN
    go_simp
    refine givesP_mk ?_
    with_reducible rfl
  refine rg_pure (v := ?_) rfl (by kernel_rfl) (by kernel_rfl) (fun w hS hN => ?_) ?_
  rotate_left 1
  · clear hN
    go_simp
    refine givesP_mk ?_
    with_reducible rfl
  refine rg_pure (v := ?_) rfl (by kernel_rfl) (by kernel_rfl) (fun w hS hN => ?_) ?_
  rotate_left 1
  · clear hN
    go_simp
    refine givesP_mk ?_
    with_reducible rfl
  refine rg_pure (v := ?_) rfl (by kernel_rfl) (by kernel_rfl) (fun w hS hN => ?_) ?_
  rotate_left 1
  · clear hN
    go_simp
    refine givesP_mk ?_
    with_reducible rfl
  refine rg_pure (v := ?_) rfl (by kernel_rfl) (by kernel_rfl) (fun w hS hN => ?_) ?_
  rotate_left 1
  · clear hN
    go_simp
    refine givesP_mk ?_
    with_reducible rfl
  refine rg_pure (v := ?_) rfl (by kernel_rfl) (by kernel_rfl) (fun w hS hN => ?_) ?_
  rotate_left 1
  · clear hN
    go_simp
    refine givesP_mk ?_
    with_reducible rfl
  refine rg_pure (v := ?_) rfl (by kernel_rfl) (by kernel_rfl) (fun w hS hN => ?_) ?_
  rotate_left 1
  · clear hN
    go_simp
    refine givesP_mk ?_
    with_reducible rfl
  refine rg_pure (v := ?_) rfl (by kernel_rfl) (by kernel_rfl) (fun w hS hN => ?_) ?_
  rotate_left 1
  · clear hN
    go_simp
    refine givesP_mk ?_
    with_reducible rfl
  refine rg_pure (v := ?_) rfl (by kernel_rfl) (by kernel_rfl) (fun w hS hN => ?_) ?_
  rotate_left 1
  · clear hN
    go_simp
    refine givesP_mk ?_
    with_reducible rfl
  refine rg_pure (v := ?_) rfl (by kernel_rfl) (by kernel_rfl) (fun w hS hN => ?_) ?_
  rotate_left 1
  · clear hN
    go_simp
    refine givesP_mk ?_
    with_reducible rfl
  refine rg_pure (v := stV h1 fxS) rfl (by kernel_rfl) (by kernel_rfl) (fun w hS hN => ?_) ?_
  · clear hN
    exact givesP_load 32 _ rfl _ (by go_simp) (stL h1 fxS) _ rfl _ (range_row (hS.blk HBN.out)) Try.underlying32 rfl (by kernel_rfl)
  refine rg_mem (fun u => u = .bool true : Value → Prop) (fun _ _ => True : (Nat → GV) → World → Prop) (fun _ => Ext) rfl rfl rfl rfl (by kernel_rfl) (by kernel_rfl) (fun w hS hN R hR => ?_) ?_
  · have HR := Lib.hid hR
    clear hR
    (try clear hN)
    go_simp
    refine givesM_call ((sstmay_any h1 fxS true fx_may w (HKN.out.ext hS) HF.out.1).mono ?_)
    rintro e w' ⟨rfl, hx⟩
    exact ⟨_, rfl, HR.out _ _ rfl trivial hx⟩
  rintro u35 s35 t35 rfl
  refine rg_pure (v := ?_) rfl (by kernel_rfl) (by kernel_rfl) (fun w hS hN => ?_) ?_
  rotate_left 1
  · clear hN
    go_simp
    refine givesP_mk ?_
    with_reducible rfl
  refine rg_pure (v := ?_) rfl (by kernel_rfl) (by kernel_rfl) (fun w hS hN => ?_) ?_
  rotate_left 1
  · clear hN
    go_simp
    refine givesP_mk ?_
    with_reducible rfl
  refine rg_pure (v := stV ht fxT) rfl (by kernel_rfl) (by kernel_rfl) (fun w hS hN => ?_) ?_
  · clear hN
    exact givesP_load 32 _ rfl _ (by go_simp) (stL ht fxT) _ rfl _ (range_row (hS.blk HBT.out)) Try.underlying32 rfl (by kernel_rfl)
  refine rg_mem (fun u => u = .bool false : Value → Prop) (fun _ _ => True : (Nat → GV) → World → Prop) (fun _ => Ext) rfl rfl rfl rfl (by kernel_rfl) (by kernel_rfl) (fun w hS hN R hR => ?_) ?_
  · have HR := Lib.hid hR
    clear hR
    (try clear hN)
    go_simp
    refine givesM_call ((sstmay_any ht fxT false fx_mayt w (HKT.out.ext hS) HF.out.2).mono ?_)
    rintro e w' ⟨rfl, hx⟩
    exact ⟨_, rfl, HR.out _ _ rfl trivial hx⟩
  rintro u39 s39 t39 rfl
  refine rg_pure (v := ?_) rfl (by kernel_rfl) (by kernel_rfl) (fun w hS hN => ?_) ?_
  rotate_left 1
  · clear hN
    go_simp
    refine givesP_mk ?_
    with_reducible rfl
  refine rg_pure (v := ?_) rfl (by kernel_rfl) (by kernel_rfl) (fun w hS hN => ?_) ?_
  rotate_left 1
  · clear hN
    go_simp
    refine givesP_mk ?_
    with_reducible rfl
  refine rg_pure (v := ?_) rfl (by kernel_rfl) (by kernel_rfl) (fun w hS hN => ?_) ?_
  rotate_left 1
  · clear hN
    go_simp
    refine givesP_mk ?_
    with_reducible rfl
  refine rg_pure (v := stV h1 fxS) rfl (by kernel_rfl) (by kernel_rfl) (fun w hS hN => ?_) ?_
  · clear hN
    exact givesP_load 32 _ rfl _ (by go_simp) (stL h1 fxS) _ rfl _ (range_row (hS.blk HBN.out)) Try.underlying32 rfl (by kernel_rfl)
  refine rg_mem (fun u => ∃ A c, u = .slice A 0 c : Value → Prop) (fun _ _ => True : (Nat → GV) → World → Prop) (fun _ => Ext) rfl rfl rfl rfl (by kernel_rfl) (by kernel_rfl) (fun w hS hN R hR => ?_) ?_
  · have HR := Lib.hid hR
    clear hR
    (try clear hN)
    go_simp
    refine givesM_call ((sQueue_any h1 fxS 1 _ fx_queue w (HKN.out.ext hS) HF.out.1).mono ?_)
    rintro e w' ⟨A, c, rfl, ho, hx⟩
    exact ⟨_, rfl, HR.out _ _ ⟨_, _, rfl⟩ trivial hx⟩
  rintro u44 s44 t44 ⟨A44, c44, rfl⟩
  refine rg_pure (v := ?_) rfl (by kernel_rfl) (by kernel_rfl) (fun w hS hN => ?_) ?_
  rotate_left 1
  · clear hN
    go_simp
    refine givesP_mk ?_
    with_reducible rfl
  refine rg_pure (v := ?_) rfl (by kernel_rfl) (by kernel_rfl) (fun w hS hN => ?_) ?_
  rotate_left 1
  · clear hN
    go_simp
    refine givesP_mk ?_
    with_reducible rfl
  refine rg_pure (v := ?_) rfl (by kernel_rfl) (by kernel_rfl) (fun w hS hN => ?_) ?_
  rotate_left 1
  · clear hN
    go_simp
    refine givesP_mk ?_
    with_reducible rfl
  refine rg_pure (v := ?_) rfl (by kernel_rfl) (by kernel_rfl) (fun w hS hN => ?_) ?_
  rotate_left 1
  · clear hN
    go_simp
    refine givesP_mk ?_
    with_reducible rfl
  refine rg_pure (v := stV h1 fxS) rfl (by kernel_rfl) (by kernel_rfl) (fun w hS hN => ?_) ?_
  · clear hN
    exact givesP_load 32 _ rfl _ (by go_simp) (stL h1 fxS) _ rfl _ (range_row (hS.blk HBN.out)) Try.underlying32 rfl (by kernel_rfl)
  refine rg_mem (fun u => ∃ h', u = stV h' fxS : Value → Prop) (fun u w => StAt w (u 50).v fxS : (Nat → GV) → World → Prop) (fun _ => Ext) rfl rfl rfl rfl (by kernel_rfl) (by kernel_rfl) (fun w hS hN R hR => ?_) ?_
  · have HR := Lib.hid hR
    clear hR
    (try clear hN)
    go_simp
    refine givesM_call ((sCopy_any h1 fxS w (HKN.out.ext hS) HF.out.1).mono ?_)
    rintro e w' ⟨h', L, rfl, ho, hL, hx⟩
    exact ⟨_, rfl, HR.out _ _ ⟨_, rfl⟩ ⟨h', rfl, ho.ok HKN.out.buf⟩ hx⟩
  rintro u50 s50 t50 ⟨h50, rfl⟩
  refine rg_pure (v := stV h1 fxS) rfl (by kernel_rfl) (by kernel_rfl) (fun w hS hN => ?_) ?_
  · clear hN
    exact givesP_load 32 _ rfl _ (by go_simp) (stL h1 fxS) _ rfl _ (range_row (hS.blk HBN.out)) Try.underlying32 rfl (by kernel_rfl)
  refine rg_mem (fun u => u = .bool true : Value → Prop) (fun _ _ => True : (Nat → GV) → World → Prop) (fun _ => Ext) rfl rfl rfl rfl (by kernel_rfl) (by kernel_rfl) (fun w hS hN R hR => ?_) ?_
  · have HR := Lib.hid hR
    clear hR
    obtain ⟨hh, he, hk⟩ : StAt w (stV h50 fxS) fxS := hN.get 50 rfl (by kernel_rfl)
    (try clear hN)
    go_simp
    refine givesM_call ((rstsame_any hh h1 fxS fxS true (by simp) w hk (HKN.out.ext hS) HF.out.1 (by decide)).mono ?_)
    rintro e w' ⟨rfl, hx⟩
    exact ⟨_, rfl, HR.out _ _ rfl trivial hx⟩
  rintro u52 s52 t52 rfl
  refine rg_pure (v := ?_) rfl (by kernel_rfl) (by kernel_rfl) (fun w hS hN => ?_) ?_
  rotate_left 1
  · clear hN
    go_simp
    refine givesP_mk ?_
    with_reducible rfl
  refine rg_pure (v := ?_) rfl (by kernel_rfl) (by kernel_rfl) (fun w hS hN => ?_) ?_
  rotate_left 1
  · clear hN
    go_simp
    refine givesP_mk ?_
    with_reducible rfl
  refine rg_done rfl (Nat.le_of_ble_eq_true (by kernel_rfl)) ?_
  intro w8 hS hT
  have HX8 := Lib.hid (HX3.out.trans (HXN.out.trans hS))
  clear hT hS hq
  go_simp
  go_wp2
  go_ret
  exact ⟨rfl, HX8.out⟩
end Go.Proofs.Ytbcclhahpcbadaa
/-
  Arguments that are slices of anything that is read cell by cell, opened: by how one element is read.
-/
set_option linter.unusedVariables false
set_option linter.unusedSimpArgs false
namespace Go.Proofs.Ytbcclhahpcbadaa
open Go.ChangeShapes Go.WideShapes Go.Deep Go.RowKit

/-- A slice of elements of m cells, each read by R. -/
def RecsAt {α : Type} (m : Nat) (R : World → List Value → α → Prop) (w : World) (v : Value) (xs : List α) : Prop :=
  ∃ A c, v = .slice A xs.length c ∧ xs.length ≤ c ∧ (0 < xs.length → ∃ b o, A = some ⟨b, o, none⟩ ∧ b < w.heap.size ∧ ∀ j x, xs[j]? = some x → ∃ cs : List Value, cs.length = m ∧ R w cs x ∧ ∀ i u, cs[i]? = some u → w.cell? ⟨b, o + j * m + i, none⟩ = some u)
theorem RecsAt.ext {α : Type} {m : Nat} {R : World → List Value → α → Prop} {w w' : World} {v : Value} {xs : List α} (h : RecsAt m R w v xs) (hx : Ext w w') (hR : ∀ cs x, R w cs x → R w' cs x) : RecsAt m R w' v xs := by
  obtain ⟨A, c, rfl, hc, hA⟩ := h
  refine ⟨A, c, rfl, hc, fun h0 => ?_⟩
  obtain ⟨b, o, hb, hlt, hk⟩ := hA h0
  refine ⟨b, o, hb, Nat.lt_of_lt_of_le hlt hx.size, fun j x hj => ?_⟩
  obtain ⟨cs, h1, h2, h3⟩ := hk j x hj
  exact ⟨cs, h1, hR _ _ h2, fun i u hu => by rw [Below.cell hx hlt]; exact h3 i u hu⟩
theorem RecsAt.rows {α : Type} {m : Nat} {f : α → List Value} {w : World} {v : Value} {xs : List α} (h : RecsAt m (fun _ cs x => cs = f x) w v xs) : RowsAt m f w v xs := by
  obtain ⟨A, c, rfl, hc, hA⟩ := h
  refine ⟨A, c, rfl, hc, fun h0 => ?_⟩
  obtain ⟨b, o, hb, hlt, hk⟩ := hA h0
  refine ⟨b, o, hb, hlt, fun j x hj i u hu => ?_⟩
  obtain ⟨cs, _, rfl, h3⟩ := hk j x hj
  exact h3 i u hu
section
variable {H : Type} {enc : TypeId × Value → H} {P : Program} {w : World} {base : Nat} {held : Bool}
theorem open_recs {α : Type} {R : World → List Value → α → Prop} {G : α → Prop} {m : Nat} (x0 : α) {t e : TypeId} {fuel len cap : Nat} {A : Option Addr} {x : DataW H × List MemPlace} (ht : P.underlying t = some (.slice e)) (hC : P.cellsOf e = m) (hm0 : 0 < m)
    (elem : ∀ (n : Nat) (cs : List Value) (y : DataW H × List MemPlace), DataW.trod enc P w base (fun _ => true) held n e cs = some y → ∃ x : α, R w cs x ∧ G x)
    (h : DataW.trod enc P w base (fun _ => true) held fuel t [.slice A len cap] = some x) :
    len ≤ maxLen ∧ ∃ l : List α, l.length = len ∧ RecsAt m R w (.slice A len cap) l ∧ ∀ x ∈ l, G x := by
  rcases open_slice ht h with ⟨h0, _⟩ | ⟨a, l, c, mm, n, D, Pl, hcs, _, hl, hm, hmm, _, hi⟩
  · simp at h0
    obtain ⟨rfl, rfl, rfl⟩ := h0
    exact ⟨by simp [maxLen], [], rfl, ⟨none, 0, rfl, Nat.le_refl _, fun h => by simp at h⟩, by simp⟩
  · simp at hcs
    obtain ⟨rfl, rfl, rfl⟩ := hcs
    have hmc : mm = cap := by simpa using hmm
    subst hmc
    have key : ∀ i, i < len → ∃ x : α, G x ∧ ∃ cs : List Value, cs.length = m ∧ R w cs x ∧ ∀ j u, cs[j]? = some u → w.cell? (a.add (i * m + j)) = some u := fun i hi' => by
      obtain ⟨cs', hc, ht'⟩ := hi i (by omega)
      rw [hC] at hc
      obtain ⟨x, hx, hg⟩ := elem _ _ _ ht'
      obtain ⟨_, hcl, hat⟩ := World.cells?_some hc
      refine ⟨x, hg, cs', hcl, hx, fun j u hj => ?_⟩
      have hjl : j < m := by rw [← hcl]; exact (List.getElem?_eq_some_iff.1 hj).1
      rw [← Go.Deep.add_add, hat j hjl, hj]
    refine ⟨by omega, (List.range len).map fun i => if h : i < len then (key i h).choose else x0, by simp, ⟨some a, mm, by simp, by simpa using hl, fun hpos => ?_⟩, ?_⟩
    · obtain ⟨b, o, spot⟩ := a
      have hl0 : 0 < len := by simpa using hpos
      have h00 : ∃ u, w.cell? ((⟨b, o, spot⟩ : Addr).add 0) = some u := by
        obtain ⟨_, _, cs, hcl, _, hat⟩ := key 0 hl0
        refine ⟨cs[0]'(by omega), ?_⟩
        have := hat 0 _ (List.getElem?_eq_getElem (by omega))
        simpa using this
      have hspot : spot = none := by
        obtain ⟨u, hu⟩ := h00
        simpa [Addr.add] using World.cell?_spot hu
      subst hspot
      refine ⟨b, o, rfl, ?_, fun j p hj => ?_⟩
      · obtain ⟨u, hu⟩ := h00
        rw [Addr.add_lit] at hu
        exact block_lt_of_cell hu
      · rw [List.getElem?_map] at hj
        have hjl : j < len := by
          rcases Nat.lt_or_ge j len with h | h
          · exact h
          · rw [List.getElem?_eq_none (by simpa using h)] at hj; simp at hj
        rw [List.getElem?_range hjl] at hj
        simp only [Option.map_some, Option.some.injEq, hjl, dif_pos] at hj
        obtain ⟨_, cs, k0, k1, k2⟩ := (key j hjl).choose_spec
        rw [hj] at k1
        refine ⟨cs, k0, k1, fun i u hu => ?_⟩
        have := k2 i u hu
        rw [Addr.add_lit] at this
        rw [Nat.add_assoc]
        exact this
    · intro x hx
      obtain ⟨i, hi', rfl⟩ := List.mem_map.1 hx
      have hil := List.mem_range.1 hi'
      rw [dif_pos hil]
      exact (key i hil).choose_spec.1
/-- The cells of a struct whose fields are of one cell. -/
theorem cells_fields {e : TypeId} {fs : Array Field} {n : Nat} {cs : List Value} {y : DataW H × List MemPlace} (he : P.underlying e = some (.struct fs)) (hone : oneCellFields P fs = true) (hC : P.cellsOf e = fs.size)
    (h : DataW.trod enc P w base (fun _ => true) held n e cs = some y) :
    cs.length = fs.size ∧ ∀ (j : Nat) (f : Field), fs[j]? = some f → ∃ (v : Value) (z : DataW H × List MemPlace) (k : Nat), cs[j]? = some v ∧ DataW.trod enc P w base (fun _ => true) held k f.type [v] = some z := by
  obtain ⟨ys, n', hn', hy, hlen, hyl, hf⟩ := DataW.trod_struct he h
  refine ⟨by rw [hlen, hC], fun j f hj => ?_⟩
  obtain ⟨ho, hk⟩ := hone_of hone j f hj
  have hjl : j < fs.size := (Array.getElem?_eq_some_iff.1 hj).1
  have h1 := hf j f hj
  rw [ho, hk] at h1
  have hone' : (cs.drop j).take 1 = [cs[j]'(by omega)] := by
    rw [List.drop_eq_getElem_cons (by omega)]
    rfl
  rw [hone'] at h1
  have hys : ys[j]? = some (ys[j]'(by omega)) := List.getElem?_eq_getElem (by omega)
  exact ⟨_, _, _, List.getElem?_eq_getElem (by omega), h1.trans hys⟩
theorem cells_int {t : TypeId} {n : Nat} {v : Value} {y : DataW H × List MemPlace} (t0 : P.underlying t = some (.int .i64)) (h : DataW.trod enc P w base (fun _ => true) held n t [v] = some y) : ∃ a : Int, v = .int .i64 a ∧ (Lit.int .i64 a).wf = true := by
  obtain ⟨a, e0, _, w0⟩ := DataW.trod_int t0 h
  simp at e0
  exact ⟨a, e0, w0⟩
theorem cells_pair {e : TypeId} {f0 f1 : Field} {n : Nat} {cs : List Value} {y : DataW H × List MemPlace} (he : P.underlying e = some (.struct #[f0, f1])) (hone : oneCellFields P #[f0, f1] = true) (hC : P.cellsOf e = 2)
    (t0 : P.underlying f0.type = some (.int .i64)) (t1 : P.underlying f1.type = some (.int .i64)) (h : DataW.trod enc P w base (fun _ => true) held n e cs = some y) :
    ∃ p : Int × Int, cs = [.int .i64 p.1, .int .i64 p.2] ∧ (Lit.int .i64 p.1).wf = true ∧ (Lit.int .i64 p.2).wf = true := by
  obtain ⟨hl, hf⟩ := cells_fields he hone hC h
  obtain ⟨v0, _, _, c0, h0⟩ := hf 0 f0 rfl
  obtain ⟨v1, _, _, c1, h1⟩ := hf 1 f1 rfl
  obtain ⟨a, rfl, wa⟩ := cells_int t0 h0
  obtain ⟨b, rfl, wb⟩ := cells_int t1 h1
  match cs, hl, c0, c1 with
  | [u0, u1], _, c0, c1 =>
    simp only [List.getElem?_cons_zero, List.getElem?_cons_succ, Option.some.injEq] at c0 c1
    subst c0 c1
    exact ⟨(a, b), rfl, wa, wb⟩
theorem cells_four {e : TypeId} {f0 f1 f2 f3 : Field} {n : Nat} {cs : List Value} {y : DataW H × List MemPlace} (he : P.underlying e = some (.struct #[f0, f1, f2, f3])) (hone : oneCellFields P #[f0, f1, f2, f3] = true) (hC : P.cellsOf e = 4)
    (t0 : P.underlying f0.type = some (.int .i64)) (t1 : P.underlying f1.type = some (.int .i64)) (t2 : P.underlying f2.type = some (.int .i64)) (t3 : P.underlying f3.type = some (.int .i64)) (h : DataW.trod enc P w base (fun _ => true) held n e cs = some y) :
    ∃ p : Int × Int × Int × Int, cs = [.int .i64 p.1, .int .i64 p.2.1, .int .i64 p.2.2.1, .int .i64 p.2.2.2] ∧ (Lit.int .i64 p.1).wf = true ∧ (Lit.int .i64 p.2.1).wf = true ∧ (Lit.int .i64 p.2.2.1).wf = true ∧ (Lit.int .i64 p.2.2.2).wf = true := by
  obtain ⟨hl, hf⟩ := cells_fields he hone hC h
  obtain ⟨v0, _, _, c0, h0⟩ := hf 0 f0 rfl
  obtain ⟨v1, _, _, c1, h1⟩ := hf 1 f1 rfl
  obtain ⟨v2, _, _, c2, h2⟩ := hf 2 f2 rfl
  obtain ⟨v3, _, _, c3, h3⟩ := hf 3 f3 rfl
  obtain ⟨a, rfl, wa⟩ := cells_int t0 h0
  obtain ⟨b, rfl, wb⟩ := cells_int t1 h1
  obtain ⟨c, rfl, wc⟩ := cells_int t2 h2
  obtain ⟨d, rfl, wd⟩ := cells_int t3 h3
  match cs, hl, c0, c1, c2, c3 with
  | [u0, u1, u2, u3], _, c0, c1, c2, c3 =>
    simp only [List.getElem?_cons_zero, List.getElem?_cons_succ, Option.some.injEq] at c0 c1 c2 c3
    subst c0 c1 c2 c3
    exact ⟨(a, b, c, d), rfl, wa, wb, wc, wd⟩
/-- A field of one cell that is a slice. -/
theorem cells_slice {t e : TypeId} {n : Nat} {v : Value} {y : DataW H × List MemPlace} (ht : P.underlying t = some (.slice e)) (h : DataW.trod enc P w base (fun _ => true) held n t [v] = some y) : ∃ A len cap, v = .slice A len cap := by
  rcases open_slice ht h with ⟨h0, _⟩ | ⟨a, l, c, mm, n, D, Pl, hcs, _⟩
  · simp at h0; exact ⟨_, _, _, h0⟩
  · simp at hcs; exact ⟨_, _, _, hcs⟩
end
end Go.Proofs.Ytbcclhahpcbadaa
