/-
  Several texts in one: Hk, Hzg, Gj, Hzh, Hzk.
-/
import Derived.Test.YtohncgikdlbogaaDoorE10
import Derived.Test.YtohncgikdlbogaaDoorE11
import Derived.Test.YtohncgikdlbogaaDoorE09
import Derived.Test.YtohncgikdlbogaaDoorE02
set_option linter.unusedVariables false
set_option linter.unusedSimpArgs false
namespace Go.Proofs.YtohncgikdlbogaaDoor
open Go.RowKit
def Md.zero : Sn := ⟨0, [], []⟩
def snZ : Value := .agg #[.int .i64 0, .slice none 0 0, .slice none 0 0]
theorem snZ_at (w : World) : SnAt w snZ Md.zero := ⟨none, 0, none, 0, rfl, RowsAt.nil w, RowsAt.nil w⟩
def SnApp (w : World) (o : Option Sn) (e : Ending) (w' : World) : Prop := ∃ u, e = .returned (.tuple #[u, .bool o.isSome]) ∧ SnAt w' u (o.getD Md.zero) ∧ Ext w w'
theorem Md.thn_len (x : Sn) (l : Lg) : (Md.thn x l).ps.length = x.ps.length ∧ (Md.thn x l).gs.length ≤ x.gs.length + 1 := by
 have h1 : ∀ l p m, (Md.setP l p m).length = l.length := fun l p m => List.length_set
 have h2 : ∀ (l : List Gs4) i y, (l.insertIdx i y).length ≤ l.length + 1 := fun l i y => by
  by_cases h : i ≤ l.length
  · rw [List.length_insertIdx_of_le_length h]; omega
  · rw [List.insertIdx_of_length_lt (by omega)]; omega
 have h3 : ∀ (l : List Gs4) i, (l.eraseIdx i).length ≤ l.length + 1 := fun l i => by have := List.length_eraseIdx_le l i; omega
 unfold Md.thn
 split
 · exact ⟨h1 _ _ _, by simp⟩
 split
 · exact ⟨h1 _ _ _, by simp⟩
 split
 · exact ⟨rfl, h2 _ _ _⟩
 split
 · exact ⟨rfl, by simp only [Md.setG_len]; omega⟩
 split
 · exact ⟨rfl, by simp only [Md.setG_len]; omega⟩
 split
 · exact ⟨rfl, by simp only [Md.setG_len]; omega⟩
 split
 · exact ⟨rfl, h3 _ _⟩
 split
 · exact ⟨h1 _ _ _, by simp only [Md.setG_len]; omega⟩
 split
 · exact ⟨rfl, by simp only [Md.setG_len]; omega⟩
 · exact ⟨h1 _ _ _, by simp only [Md.setG_len]; omega⟩
theorem sn_timed {w : World} {y : Sn} {t lt : Int} {A B : Option Addr} {c d : Nat} (hs : SnAt w (.agg #[.int .i64 t, .slice A y.ps.length c, .slice B y.gs.length d]) y) :
    (w.alloc (.cells #[.int .i64 0, .slice none 0 0, .slice none 0 0] 25)).there w.heap.size 0 [Value.int .i64 t, .slice A y.ps.length c, .slice B y.gs.length d].length ∧ ∃ w4, (w.alloc (.cells #[.int .i64 0, .slice none 0 0, .slice none 0 0] 25)).setCells w.heap.size 0 [.int .i64 t, .slice A y.ps.length c, .slice B y.gs.length d] = w4 ∧ w4.cell? ⟨w.heap.size, 0, none⟩ = some (.int .i64 t) ∧ w4.frozen? ⟨w.heap.size, 0, none⟩ = false ∧ Ext w w4 ∧
     ∃ w5, w4.setCell ⟨w.heap.size, 0, none⟩ (.int .i64 lt) = w5 ∧ w5.heap[w.heap.size]? = some (.cells #[.int .i64 lt, .slice A y.ps.length c, .slice B y.gs.length d] 25 (0, 0)) ∧ SnAt w5 (.agg #[.int .i64 lt, .slice A y.ps.length c, .slice B y.gs.length d]) { y with time := lt } ∧ Ext w w5 := by
 have hb := blk_new w (.cells #[.int .i64 0, .slice none 0 0, .slice none 0 0] 25)
 have hu := setCells_upd w.heap.size [Value.int .i64 t, .slice A y.ps.length c, .slice B y.gs.length d] (w.alloc (.cells #[.int .i64 0, .slice none 0 0, .slice none 0 0] 25)) 0
 have hb4 := setCells_at [.int .i64 0, .slice none 0 0, .slice none 0 0] [Value.int .i64 t, .slice A y.ps.length c, .slice B y.gs.length d] rfl hb
 have hx : Ext w ((w.alloc (.cells #[.int .i64 0, .slice none 0 0, .slice none 0 0] 25)).setCells w.heap.size 0 [Value.int .i64 t, .slice A y.ps.length c, .slice B y.gs.length d]) := Ext.upd ((Ext.refl w).alloc _) hu (Nat.le_refl _)
 have hx5 : Ext w (((w.alloc (.cells #[.int .i64 0, .slice none 0 0, .slice none 0 0] 25)).setCells w.heap.size 0 [Value.int .i64 t, .slice A y.ps.length c, .slice B y.gs.length d]).setCell ⟨w.heap.size, 0, none⟩ (.int .i64 lt)) := Ext.upd hx ((Upd.refl _ _).set 0 _) (Nat.le_refl _)
 refine ⟨there_row hb (by simp), _, rfl, blk_cell hb4 0 _ rfl, frozen_of_row _ _ 0 _ _ hb4, hx, _, rfl, blk_set hb4 0 _, ?_, hx5⟩
 obtain ⟨A', c', B', d', hv, h2, h3⟩ := hs
 simp only [Value.agg.injEq] at hv
 have e2 : Value.slice A y.ps.length c = .slice A' y.ps.length c' := by have := congrArg (fun a : Array Value => a[1]?) hv; simpa using this
 have e3 : Value.slice B y.gs.length d = .slice B' y.gs.length d' := by have := congrArg (fun a : Array Value => a[2]?) hv; simpa using this
 rw [e2, e3] at hx5 ⊢
 exact ⟨A', c', B', d', rfl, h2.ext hx5, h3.ext hx5⟩
set_option maxRecDepth 100000 in
set_option maxHeartbeats 16000000 in
theorem rapply_any (v : Value) (x : Sn) (l : Lg) (wy st : Value) (w : World) (hs : SnAt w v x) (hp : x.ps.length ≤ 1000) (hg : x.gs.length ≤ 1000) (o : Option Sn) (hr : Md.app x l = o) :
    Calls Tryd.prog 34 #[v, lgV l wy st] w (SnApp w o) := by
 obtain ⟨A, c, B, d, rfl, h2, h3⟩ := hs
 obtain ⟨time, ps, gs⟩ := x
 obtain ⟨lt, lm, kd, lg, lp, ls⟩ := l
 simp only at h2 h3 hp hg hr ⊢
 obtain ⟨w1, hw1⟩ : ∃ w1, ((w.alloc (.cells #[.int .i64 time, .slice A ps.length c, .slice B gs.length d] 25)).alloc (.cells #[.int .i64 lt, .int .i64 lm, .int .i64 kd, .int .i64 lg, .int .i64 lp, .int .i64 ls, wy, st] 34)).alloc (.cells #[.int .i64 0, .slice none 0 0, .slice none 0 0] 25) = w1 := ⟨_, rfl⟩
 have hx1 : Ext w w1 := by rw [← hw1]; exact (((Ext.refl w).alloc _).alloc _).alloc _
 have hb1 : w1.heap[w.heap.size]? = some (.cells #[.int .i64 time, .slice A ps.length c, .slice B gs.length d] 25 (0, 0)) := by rw [← hw1]; exact blk_alloc (blk_alloc (blk_new w _) _) _
 have hl1 : w1.heap[w.heap.size + 1]? = some (.cells #[.int .i64 lt, .int .i64 lm, .int .i64 kd, .int .i64 lg, .int .i64 lp, .int .i64 ls, wy, st] 34 (0, 0)) := by rw [← hw1]; refine blk_alloc ?_ _; rw [← World.size_alloc w (.cells #[.int .i64 time, .slice A ps.length c, .slice B gs.length d] 25)]; exact blk_new _ _
 have hz1 : w1.heap[w.heap.size + 1 + 1]? = some (.cells #[.int .i64 0, .slice none 0 0, .slice none 0 0] 25 (0, 0)) := by rw [← hw1, ← World.size_alloc w (.cells #[.int .i64 time, .slice A ps.length c, .slice B gs.length d] 25), ← World.size_alloc (w.alloc (.cells #[.int .i64 time, .slice A ps.length c, .slice B gs.length d] 25)) (.cells #[.int .i64 lt, .int .i64 lm, .int .i64 kd, .int .i64 lg, .int .i64 lp, .int .i64 ls, wy, st] 34)]; exact blk_new _ _
 obtain ⟨S0, hS0⟩ : ∃ S0, w.heap.size = S0 := ⟨_, rfl⟩
 rw [hS0] at hb1 hl1 hz1
 have HS0 := Lib.hid hS0
 have HW1 := Lib.hid hw1
 have HX1 := Lib.hid hx1
 have HB1 := Lib.hid hb1
 have HL1 := Lib.hid hl1
 have HZ1 := Lib.hid hz1
 have H2 := Lib.hid (h2.ext hx1)
 have H3 := Lib.hid (h3.ext hx1)
 have HP := Lib.hid hp
 have HG := Lib.hid hg
 have HR := Lib.hid hr
 clear hp hg hw1 hx1 hb1 hl1 hz1 hS0 h2 h3 hr
 have HRR := HR
 clear HR
 have c0 := blk_cell ((Ext.refl w1).blk HB1.out) 0 _ rfl
 have c1 := blk_cell ((Ext.refl w1).blk HB1.out) 1 _ rfl
 have c2 := blk_cell ((Ext.refl w1).blk HB1.out) 2 _ rfl
 have m0 := blk_cell ((Ext.refl w1).blk HL1.out) 0 _ rfl
 have m1 := blk_cell ((Ext.refl w1).blk HL1.out) 1 _ rfl
 have m2 := blk_cell ((Ext.refl w1).blk HL1.out) 2 _ rfl
 have m3 := blk_cell ((Ext.refl w1).blk HL1.out) 3 _ rfl
 have m4 := blk_cell ((Ext.refl w1).blk HL1.out) 4 _ rfl
 have m5 := blk_cell ((Ext.refl w1).blk HL1.out) 5 _ rfl
 have m6 := blk_cell ((Ext.refl w1).blk HL1.out) 6 _ rfl
 have m7 := blk_cell ((Ext.refl w1).blk HL1.out) 7 _ rfl
 unfold lgV
 go_enter Tryd.func34, Tryd.ntmps34
 go_upto_region 1 with fail
 rw [HW1.out, HS0.out]
 by_cases a1 : lm < 1
 · have A1 := Lib.hid a1
   clear c0 c1 c2 m0 m1 m2 m3 m4 m5 m6 m7
   have m1 := blk_cell ((Ext.refl w1).blk HL1.out) 1 _ rfl
   have hlay := sn_lay (y := Md.zero) (A := none) (B := none) (c := 0) (d := 0) (time := 0) (HX1.out.trans (Ext.refl w1)) (show w.heap.size ≤ S0 + 1 + 1 by have := HS0.out; omega) ((Ext.refl w1).blk HZ1.out) (snZ_at _)
   simp only [Md.zero, List.length_nil] at hlay
   obtain ⟨hth6, w6, hw6, hb6, hret⟩ := hlay
   have HTH6 := Lib.hid hth6
   have HW6 := Lib.hid hw6
   have HB6 := Lib.hid hb6
   have HRET := Lib.hid hret
   clear hth6 hw6 hb6 hret
   have HN : Hid (Md.app ⟨time, ps, gs⟩ ⟨lt, lm, kd, lg, lp, ls⟩ = none) := Lib.hid (by unfold Md.app; rw [if_neg (by rintro ⟨h1, h2, h3, h4, h5⟩; have := A1.out; simp only at h1; omega)])
   go_wp2_with (refine wpList_store_rowN rfl 25 _ _ rfl (S0 + 1 + 1) 0 [.int .i64 0, .slice none 0 0, .slice none 0 0] (.agg ([.int .i64 0, .slice none 0 0, .slice none 0 0]).toArray) (by go_simp) (by go_simp) rfl HTH6.out (by kernel_rfl) (sn3_one _ _ _ rfl rfl) HW6.out ?_)
   refine bodyPost_cell_tmp rfl (S0 + 1 + 1) _ _ _ _ rfl HB6.out Tryd.underlying25 rfl (by kernel_rfl) (.bool false) rfl rfl ?_
   have hr := HRET.out
   obtain ⟨u, hu, hs, hx⟩ := hr
   injection hu with hu
   subst hu
   rw [HRR.out.symm.trans HN.out]
   exact ⟨_, rfl, hs, hx⟩
 have d1 : decide (lm < 1) = false := decide_eq_false a1
 have A1 := Lib.hid a1
 clear a1
 by_cases a2 : lt < time
 · have A2 := Lib.hid a2
   have hlay := sn_lay (y := Md.zero) (A := none) (B := none) (c := 0) (d := 0) (time := 0) (HX1.out.trans (Ext.refl w1)) (show w.heap.size ≤ S0 + 1 + 1 by have := HS0.out; omega) ((Ext.refl w1).blk HZ1.out) (snZ_at _)
   simp only [Md.zero, List.length_nil] at hlay
   obtain ⟨hth6, w6, hw6, hb6, hret⟩ := hlay
   have HTH6 := Lib.hid hth6
   have HW6 := Lib.hid hw6
   have HB6 := Lib.hid hb6
   have HRET := Lib.hid hret
   clear hth6 hw6 hb6 hret
   have HN : Hid (Md.app ⟨time, ps, gs⟩ ⟨lt, lm, kd, lg, lp, ls⟩ = none) := Lib.hid (by unfold Md.app; rw [if_neg (by rintro ⟨h1, h2, h3, h4, h5⟩; have := A2.out; simp only at h2; omega)])
   go_wp2_with (refine wpList_store_rowN rfl 25 _ _ rfl (S0 + 1 + 1) 0 [.int .i64 0, .slice none 0 0, .slice none 0 0] (.agg ([.int .i64 0, .slice none 0 0, .slice none 0 0]).toArray) (by go_simp) (by go_simp) rfl HTH6.out (by kernel_rfl) (sn3_one _ _ _ rfl rfl) HW6.out ?_)
   refine bodyPost_cell_tmp rfl (S0 + 1 + 1) _ _ _ _ rfl HB6.out Tryd.underlying25 rfl (by kernel_rfl) (.bool false) rfl rfl ?_
   have hr := HRET.out
   obtain ⟨u, hu, hs, hx⟩ := hr
   injection hu with hu
   subst hu
   rw [HRR.out.symm.trans HN.out]
   exact ⟨_, rfl, hs, hx⟩
 have d2 : decide (lt < time) = false := decide_eq_false a2
 have A2 := Lib.hid a2
 clear a2
 go_wp2_with fail
 obtain ⟨rm, hrm⟩ : ∃ rm, Sn.may ⟨time, ps, gs⟩ = rm := ⟨_, rfl⟩
 refine (rsnmay_k _ ⟨time, ps, gs⟩ rm w1 hrm ⟨A, c, B, d, rfl, H2.out.ext (Ext.refl w1), H3.out.ext (Ext.refl w1)⟩ (by have := HP.out; simp only; omega) (by have := HG.out; simp only; omega)).mono ?_
 rintro e w2 ⟨rfl, hx2⟩
 have X2 := Lib.hid hx2
 have HRM := Lib.hid hrm
 clear hx2 hrm
 clear c0 c1 c2 m0 m1 m2 m3 m4 m5 m6 m7
 have c0 := blk_cell (X2.out.blk HB1.out) 0 _ rfl
 have c1 := blk_cell (X2.out.blk HB1.out) 1 _ rfl
 have c2 := blk_cell (X2.out.blk HB1.out) 2 _ rfl
 have m0 := blk_cell (X2.out.blk HL1.out) 0 _ rfl
 have m1 := blk_cell (X2.out.blk HL1.out) 1 _ rfl
 have m2 := blk_cell (X2.out.blk HL1.out) 2 _ rfl
 have m3 := blk_cell (X2.out.blk HL1.out) 3 _ rfl
 have m4 := blk_cell (X2.out.blk HL1.out) 4 _ rfl
 have m5 := blk_cell (X2.out.blk HL1.out) 5 _ rfl
 have m6 := blk_cell (X2.out.blk HL1.out) 6 _ rfl
 have m7 := blk_cell (X2.out.blk HL1.out) 7 _ rfl
 cases rm with
 | false =>
  have hlay := sn_lay (y := Md.zero) (A := none) (B := none) (c := 0) (d := 0) (time := 0) (HX1.out.trans X2.out) (show w.heap.size ≤ S0 + 1 + 1 by have := HS0.out; omega) (X2.out.blk HZ1.out) (snZ_at _)
  simp only [Md.zero, List.length_nil] at hlay
  obtain ⟨hth6, w6, hw6, hb6, hret⟩ := hlay
  have HTH6 := Lib.hid hth6
  have HW6 := Lib.hid hw6
  have HB6 := Lib.hid hb6
  have HRET := Lib.hid hret
  clear hth6 hw6 hb6 hret
  have HN : Hid (Md.app ⟨time, ps, gs⟩ ⟨lt, lm, kd, lg, lp, ls⟩ = none) := Lib.hid (by unfold Md.app; rw [if_neg (by rintro ⟨h1, h2, h3, h4, h5⟩; rw [HRM.out] at h3; cases h3)])
  go_wp2_with (refine wpList_store_rowN rfl 25 _ _ rfl (S0 + 1 + 1) 0 [.int .i64 0, .slice none 0 0, .slice none 0 0] (.agg ([.int .i64 0, .slice none 0 0, .slice none 0 0]).toArray) (by go_simp) (by go_simp) rfl HTH6.out (by kernel_rfl) (sn3_one _ _ _ rfl rfl) HW6.out ?_)
  refine bodyPost_cell_tmp rfl (S0 + 1 + 1) _ _ _ _ rfl HB6.out Tryd.underlying25 rfl (by kernel_rfl) (.bool false) rfl rfl ?_
  have hr := HRET.out
  obtain ⟨u, hu, hs, hx⟩ := hr
  injection hu with hu
  subst hu
  rw [HRR.out.symm.trans HN.out]
  exact ⟨_, rfl, hs, hx⟩
 | true =>
 go_wp2_with fail
 obtain ⟨ra, hra⟩ : ∃ ra, Md.ask ⟨time, ps, gs⟩ ⟨lt, lm, kd, lg, lp, ls⟩ = ra := ⟨_, rfl⟩
 refine (rasked_any _ ⟨time, ps, gs⟩ ⟨lt, lm, kd, lg, lp, ls⟩ wy st w2 ⟨A, c, B, d, rfl, H2.out.ext X2.out, H3.out.ext X2.out⟩ HRM.out (by have := A1.out; simp only; omega) ra hra).mono ?_
 rintro e w3 ⟨rfl, hx3⟩
 have X3 := Lib.hid (X2.out.trans hx3)
 have HRA := Lib.hid hra
 clear hx3 hra
 clear c0 c1 c2 m0 m1 m2 m3 m4 m5 m6 m7
 have c0 := blk_cell (X3.out.blk HB1.out) 0 _ rfl
 have c1 := blk_cell (X3.out.blk HB1.out) 1 _ rfl
 have c2 := blk_cell (X3.out.blk HB1.out) 2 _ rfl
 have m0 := blk_cell (X3.out.blk HL1.out) 0 _ rfl
 have m1 := blk_cell (X3.out.blk HL1.out) 1 _ rfl
 have m2 := blk_cell (X3.out.blk HL1.out) 2 _ rfl
 have m3 := blk_cell (X3.out.blk HL1.out) 3 _ rfl
 have m4 := blk_cell (X3.out.blk HL1.out) 4 _ rfl
 have m5 := blk_cell (X3.out.blk HL1.out) 5 _ rfl
 have m6 := blk_cell (X3.out.blk HL1.out) 6 _ rfl
 have m7 := blk_cell (X3.out.blk HL1.out) 7 _ rfl
 cases ra with
 | false =>
  have hlay := sn_lay (y := Md.zero) (A := none) (B := none) (c := 0) (d := 0) (time := 0) (HX1.out.trans X3.out) (show w.heap.size ≤ S0 + 1 + 1 by have := HS0.out; omega) (X3.out.blk HZ1.out) (snZ_at _)
  simp only [Md.zero, List.length_nil] at hlay
  obtain ⟨hth6, w6, hw6, hb6, hret⟩ := hlay
  have HTH6 := Lib.hid hth6
  have HW6 := Lib.hid hw6
  have HB6 := Lib.hid hb6
  have HRET := Lib.hid hret
  clear hth6 hw6 hb6 hret
  have HN : Hid (Md.app ⟨time, ps, gs⟩ ⟨lt, lm, kd, lg, lp, ls⟩ = none) := Lib.hid (by unfold Md.app; rw [if_neg (by rintro ⟨h1, h2, h3, h4, h5⟩; rw [HRA.out] at h4; cases h4)])
  go_wp2_with (refine wpList_store_rowN rfl 25 _ _ rfl (S0 + 1 + 1) 0 [.int .i64 0, .slice none 0 0, .slice none 0 0] (.agg ([.int .i64 0, .slice none 0 0, .slice none 0 0]).toArray) (by go_simp) (by go_simp) rfl HTH6.out (by kernel_rfl) (sn3_one _ _ _ rfl rfl) HW6.out ?_)
  refine bodyPost_cell_tmp rfl (S0 + 1 + 1) _ _ _ _ rfl HB6.out Tryd.underlying25 rfl (by kernel_rfl) (.bool false) rfl rfl ?_
  have hr := HRET.out
  obtain ⟨u, hu, hs, hx⟩ := hr
  injection hu with hu
  subst hu
  rw [HRR.out.symm.trans HN.out]
  exact ⟨_, rfl, hs, hx⟩
 | true =>
 go_wp2_with fail
 obtain ⟨y, hy⟩ : ∃ y, Md.thn ⟨time, ps, gs⟩ ⟨lt, lm, kd, lg, lp, ls⟩ = y := ⟨_, rfl⟩
 have hyl := Md.thn_len ⟨time, ps, gs⟩ ⟨lt, lm, kd, lg, lp, ls⟩
 rw [hy] at hyl
 have HYL := Lib.hid hyl
 refine (rthen_any _ ⟨time, ps, gs⟩ ⟨lt, lm, kd, lg, lp, ls⟩ wy st w3 ⟨A, c, B, d, rfl, H2.out.ext X3.out, H3.out.ext X3.out⟩ HRM.out (by have := A1.out; simp only; omega) HRA.out y hy).mono ?_
 rintro e w4 ⟨u, rfl, hsn, hx4⟩
 have X4 := Lib.hid (X3.out.trans hx4)
 have HY := Lib.hid hy
 obtain ⟨A4, c4, B4, d4, hu4, h24, h34⟩ := hsn
 subst hu4
 have htm := sn_timed (lt := lt) (show SnAt w4 (.agg #[.int .i64 y.time, .slice A4 y.ps.length c4, .slice B4 y.gs.length d4]) y from ⟨A4, c4, B4, d4, rfl, h24, h34⟩)
 obtain ⟨T6, hT6⟩ : ∃ T6, w4.heap.size = T6 := ⟨_, rfl⟩
 rw [hT6] at htm
 obtain ⟨hth5, wa, hwa, qa, za, hxa, wb, hwb, hbb, hsb, hxb⟩ := htm
 obtain ⟨wz, hwz⟩ : ∃ wz, w4.alloc (.cells #[.int .i64 0, .slice none 0 0, .slice none 0 0] 25) = wz := ⟨_, rfl⟩
 rw [hwz] at hth5 hwa
 have HT6 := Lib.hid hT6
 have HTH5 := Lib.hid hth5
 have HWZ := Lib.hid hwz
 have HWA := Lib.hid hwa
 have HWB := Lib.hid hwb
 have HBB := Lib.hid hbb
 have HSB := Lib.hid hsb
 have X5 := Lib.hid (X4.out.trans hxb)
 clear hx4 hy hyl h24 h34 hT6 hth5 hwa hwb hbb hsb hxb hwz
 clear c0 c1 c2 m0 m1 m2 m3 m4 m5 m6 m7
 have m0 := blk_cell (X4.out.blk HL1.out) 0 _ rfl
 have m0a : wa.cell? ⟨S0 + 1, 0, none⟩ = some (.int .i64 lt) := blk_cell (hxa.blk (X4.out.blk HL1.out)) 0 _ rfl
 clear hxa
 go_upto_region 4 with (first | rw [HWZ.out, HT6.out] | (refine wpList_store_rowN rfl 25 _ _ rfl T6 0 [.int .i64 y.time, .slice A4 y.ps.length c4, .slice B4 y.gs.length d4] (.agg #[.int .i64 y.time, .slice A4 y.ps.length c4, .slice B4 y.gs.length d4]) (by go_simp) (by go_simp) rfl HTH5.out (by kernel_rfl) (sn3_one _ _ _ rfl rfl) HWA.out ?_))
 clear m0
 go_upto_region 5 with (first | rw [HWB.out])
 clear m0a qa za
 go_wp2_with (refine wpList_load_rowW (by rfl) 25 _ rfl T6 (by go_simp) [.int .i64 lt, .slice A4 y.ps.length c4, .slice B4 y.gs.length d4] (.agg ([.int .i64 lt, .slice A4 y.ps.length c4, .slice B4 y.gs.length d4]).toArray) rfl _ (range_row HBB.out) Tryd.underlying25 rfl (by kernel_rfl) ?_)
 obtain ⟨rm2, hrm2⟩ : ∃ rm2, Sn.may { y with time := lt } = rm2 := ⟨_, rfl⟩
 refine (rsnmay_k _ { y with time := lt } rm2 wb hrm2 HSB.out (by have := HYL.out; have := HP.out; simp only at *; omega) (by have := HYL.out; have := HG.out; simp only at *; omega)).mono ?_
 rintro e w7 ⟨rfl, hx7⟩
 have X7 := Lib.hid (X5.out.trans hx7)
 have HRM2 := Lib.hid hrm2
 have HB7 := Lib.hid (hx7.blk HBB.out)
 have HS7 := Lib.hid (HSB.out.ext hx7)
 clear hx7 hrm2
 cases rm2 with
 | false =>
  have hlay := sn_lay (y := Md.zero) (A := none) (B := none) (c := 0) (d := 0) (time := 0) (HX1.out.trans X7.out) (show w.heap.size ≤ S0 + 1 + 1 by have := HS0.out; omega) (X7.out.blk HZ1.out) (snZ_at _)
  simp only [Md.zero, List.length_nil] at hlay
  obtain ⟨hth6, w6, hw6, hb6, hret⟩ := hlay
  have HTH6 := Lib.hid hth6
  have HW6 := Lib.hid hw6
  have HB6 := Lib.hid hb6
  have HRET := Lib.hid hret
  clear hth6 hw6 hb6 hret
  have HN : Hid (Md.app ⟨time, ps, gs⟩ ⟨lt, lm, kd, lg, lp, ls⟩ = none) := Lib.hid (by unfold Md.app; rw [if_neg (by rintro ⟨h1, h2, h3, h4, h5⟩; rw [HY.out] at h5; simp only at h5; rw [HRM2.out] at h5; cases h5)])
  go_wp2_with (refine wpList_store_rowN rfl 25 _ _ rfl (S0 + 1 + 1) 0 [.int .i64 0, .slice none 0 0, .slice none 0 0] (.agg ([.int .i64 0, .slice none 0 0, .slice none 0 0]).toArray) (by go_simp) (by go_simp) rfl HTH6.out (by kernel_rfl) (sn3_one _ _ _ rfl rfl) HW6.out ?_)
  refine bodyPost_cell_tmp rfl (S0 + 1 + 1) _ _ _ _ rfl HB6.out Tryd.underlying25 rfl (by kernel_rfl) (.bool false) rfl rfl ?_
  have hr := HRET.out
  obtain ⟨u, hu, hs, hx⟩ := hr
  injection hu with hu
  subst hu
  rw [HRR.out.symm.trans HN.out]
  exact ⟨_, rfl, hs, hx⟩
 | true =>
 have hlay := sn_lay (y := { y with time := lt }) (HX1.out.trans X7.out) (show w.heap.size ≤ S0 + 1 + 1 by have := HS0.out; omega) (X7.out.blk HZ1.out) HS7.out
 simp only at hlay
 obtain ⟨hth6, w6, hw6, hb6, hret⟩ := hlay
 have HTH6 := Lib.hid hth6
 have HW6 := Lib.hid hw6
 have HB6 := Lib.hid hb6
 have HRET := Lib.hid hret
 clear hth6 hw6 hb6 hret
 have HN : Hid (Md.app ⟨time, ps, gs⟩ ⟨lt, lm, kd, lg, lp, ls⟩ = some { y with time := lt }) := Lib.hid (by unfold Md.app; rw [HY.out, if_pos ⟨by have := A1.out; simp only; omega, by have := A2.out; simp only; omega, HRM.out, HRA.out, HRM2.out⟩])
 go_wp2_with (first | (refine wpList_load_rowW (by rfl) 25 _ rfl T6 (by go_simp) [.int .i64 lt, .slice A4 y.ps.length c4, .slice B4 y.gs.length d4] (.agg ([.int .i64 lt, .slice A4 y.ps.length c4, .slice B4 y.gs.length d4]).toArray) rfl _ (range_row HB7.out) Tryd.underlying25 rfl (by kernel_rfl) ?_) | (refine wpList_store_rowN rfl 25 _ _ rfl (S0 + 1 + 1) 0 [.int .i64 lt, .slice A4 y.ps.length c4, .slice B4 y.gs.length d4] (.agg ([.int .i64 lt, .slice A4 y.ps.length c4, .slice B4 y.gs.length d4]).toArray) (by go_simp) (by go_simp) rfl HTH6.out (by kernel_rfl) (sn3_one _ _ _ rfl rfl) HW6.out ?_))
 refine bodyPost_cell_tmp rfl (S0 + 1 + 1) _ _ _ _ rfl HB6.out Tryd.underlying25 rfl (by kernel_rfl) (.bool true) rfl rfl ?_
 have hr := HRET.out
 obtain ⟨u, hu, hs, hx⟩ := hr
 injection hu with hu
 subst hu
 rw [HRR.out.symm.trans HN.out]
 exact ⟨_, rfl, hs, hx⟩
theorem app_four (w : World) (x : Array Value) (X : TypeId) (l : Array Value) (L : TypeId) (z : Array Value) (Z : TypeId) (b : Array Value) (Bt : TypeId) : ∃ w1, (((w.alloc (.cells x X)).alloc (.cells l L)).alloc (.cells z Z)).alloc (.cells b Bt) = w1 ∧ Ext w w1 ∧ w1.heap[w.heap.size]? = some (.cells x X (0, 0)) ∧ w1.heap[w.heap.size + 1]? = some (.cells l L (0, 0)) ∧ w1.heap[w.heap.size + 1 + 1]? = some (.cells z Z (0, 0)) ∧ w1.heap[w.heap.size + 1 + 1 + 1]? = some (.cells b Bt (0, 0)) := by
 have s1 := World.size_alloc w (.cells x X)
 have s2 := World.size_alloc (w.alloc (.cells x X)) (.cells l L)
 have s3 := World.size_alloc ((w.alloc (.cells x X)).alloc (.cells l L)) (.cells z Z)
 refine ⟨_, rfl, ((((Ext.refl w).alloc _).alloc _).alloc _).alloc _, blk_alloc (blk_alloc (blk_alloc (blk_new w _) _) _) _, ?_, ?_, ?_⟩
 · rw [← s1]; exact blk_alloc (blk_alloc (blk_new _ _) _) _
 · rw [← s1, ← s2]; exact blk_alloc (blk_new _ _) _
 · rw [← s1, ← s2, ← s3]; exact blk_new _ _
theorem app_back {w w3 : World} {S R : Nat} {x y z b : Value} (hx : Ext w w3) (hS : w3.heap[S]? = some (.cells #[x, y, z] 25 (0, 0))) (hR : w3.heap[R]? = some (.cells #[b] 4 (0, 0))) (h1 : w.heap.size ≤ S) (h2 : w.heap.size ≤ R) (hne : S ≠ R) (v : Value) :
    ∃ w5, (w3.setCells S 0 [.int .i64 0, .slice none 0 0, .slice none 0 0]).setCell ⟨R, 0, none⟩ v = w5 ∧ w5.heap[S]? = some (.cells #[.int .i64 0, .slice none 0 0, .slice none 0 0] 25 (0, 0)) ∧ w5.heap[R]? = some (.cells #[v] 4 (0, 0)) ∧ Ext w w5 := by
 have hu1 := setCells_upd S [.int .i64 0, .slice none 0 0, .slice none 0 0] w3 0
 have k1 := setCells_at [x, y, z] [.int .i64 0, .slice none 0 0, .slice none 0 0] rfl hS
 have k2 := (hu1.block R (blk_lt hR) (fun e => hne (by injection e with e; exact e.symm))).trans hR
 have hu2 : Upd R (w3.setCells S 0 [.int .i64 0, .slice none 0 0, .slice none 0 0]) ((w3.setCells S 0 [.int .i64 0, .slice none 0 0, .slice none 0 0]).setCell ⟨R, 0, none⟩ v) := setCells_upd R [v] _ 0
 refine ⟨_, rfl, ?_, ?_, Ext.upd (Ext.upd hx hu1 h1) hu2 h2⟩
 · rw [hu2.block S (blk_lt k1) (fun e => hne (by injection e))]; exact k1
 · have := blk_set k2 0 v
   simpa using this
theorem app_no {a : Act} {w w' : World} {S R : Nat} {x y z b : Value} (hd : a.defers = [{ target := Target.fn (Fn.func 44) #[.pointer (some ⟨S, 0, none⟩), .pointer (some ⟨R, 0, none⟩)], args := #[] }]) (h4 : a.tmps.getD 4 undef = .pointer (some ⟨S, 0, none⟩)) (h5 : a.tmps.getD 5 undef = .pointer (some ⟨R, 0, none⟩))
    (hx : Ext w w') (hS : w'.heap[S]? = some (.cells #[x, y, z] 25 (0, 0))) (hR : w'.heap[R]? = some (.cells #[b] 4 (0, 0))) (h1 : w.heap.size ≤ S) (h2 : w.heap.size ≤ R) (hne : S ≠ R) : bodyPostD Tryd.prog Tryd.f32 (fun e w' => SnApp w none e w') (Exit.panic impC) a w' := by
 obtain ⟨tm, df⟩ := a
 simp only at hd h4 h5
 subst hd
 refine leaves_cons (f := 44) (args := #[.pointer (some ⟨S, 0, none⟩), .pointer (some ⟨R, 0, none⟩)]) (by simp) (by simp [go_sem]) ?_
 refine (apply1_caught _ _ _ _ _ _ _ _ hS (blk_cell hR 0 _ rfl) (frozen_of_row _ _ 0 _ _ hR) hne).mono ?_
 rintro e u' w4 ⟨rfl, rfl, w3, hx3, rfl⟩
 obtain ⟨w5, hw5, hs5, hr5, hx5⟩ := app_back (hx.trans hx3) (hx3.blk hS) (hx3.blk hR) h1 h2 hne (.bool false)
 rw [hw5]
 have hsr := run_loadVar_row (P := Tryd.prog) w5 _ 25 25 _ _ _ hs5 Tryd.underlying25 rfl (by kernel_rfl)
 have hbr := blk_cell hr5 0 _ rfl
 have HX5 := Lib.hid hx5
 clear hw5 hx3 hx5
 rw [Array.getD_eq_getD_getElem?] at h4 h5
 simp [Leaves, settle, results, Tryd.results32, h4, h5]
 simp only [asAddr, Sem.run_pure, Result.andThen_ok, hsr]
 simp [hbr, go_sem]
 exact ⟨_, rfl, snZ_at _, HX5.out⟩
set_option maxRecDepth 100000 in
set_option maxHeartbeats 8000000 in
theorem mApply_no (v : Value) (x : Sn) (l : Lg) (wy st : Value) (w : World) (hs : SnAt w v x) (hp : x.ps.length ≤ 1000) (hg : x.gs.length ≤ 1000) (hno : ¬ (0 < l.m ∧ x.time ≤ l.time ∧ x.may = true)) :
    Calls Tryd.prog 32 #[v, lgV l wy st] w fun e w' => SnApp w none e w' := by
 obtain ⟨A, c, B, d, rfl, h2, h3⟩ := hs
 obtain ⟨time, ps, gs⟩ := x
 obtain ⟨lt, lm, kd, lg, lp, ls⟩ := l
 simp only at h2 h3 hno hp hg ⊢
 have hmf : ∀ (fn : Fn) (first cap : Array Value) (w : World), (Instr.makeFunc fn first cap).run Tryd.prog w = .ok (.func fn first cap) w := fun _ _ _ _ => rfl
 have HNO := Lib.hid hno
 have HP : Hid (ps.length ≤ 10000) := Lib.hid (by omega)
 have HG : Hid (gs.length ≤ 10000) := Lib.hid (by omega)
 clear hno hp hg
 unfold lgV
 go_enter_defers Tryd.func32, Tryd.ntmps32
 go_upto_region 2 with fail
 obtain ⟨w1, hw1, hx1, hb1, hl1, hz1, ht1⟩ := app_four w #[.int .i64 time, .slice A ps.length c, .slice B gs.length d] 25 #[.int .i64 lt, .int .i64 lm, .int .i64 kd, .int .i64 lg, .int .i64 lp, .int .i64 ls, wy, st] 34 #[.int .i64 0, .slice none 0 0, .slice none 0 0] 25 #[.bool false] 4
 rw [hw1]
 have m0 := blk_cell hl1 0 _ rfl
 have m1 := blk_cell hl1 1 _ rfl
 have c0 := blk_cell hb1 0 _ rfl
 have c1 := blk_cell hb1 1 _ rfl
 have c2 := blk_cell hb1 2 _ rfl
 clear hw1
 have HX1 := Lib.hid hx1
 have HB1 := Lib.hid hb1
 have HZ1 := Lib.hid hz1
 have HT1 := Lib.hid ht1
 have H2 := Lib.hid (h2.ext hx1)
 have H3 := Lib.hid (h3.ext hx1)
 clear hx1 hb1 hz1 ht1 hl1 h2 h3
 by_cases k1 : 0 < lm
 rotate_left 1
 · have e1 : decide (0 < lm) = false := decide_eq_false k1
   clear k1
   go_wp2_with fail
   refine (need_no _).mono ?_
   rintro e' w' ⟨rfl, rfl⟩
   go_wp2
   exact app_no rfl (by simp) (by simp) HX1.out HZ1.out HT1.out (by omega) (by omega) (by omega)
 have e1 : decide (0 < lm) = true := decide_eq_true k1
 have K1 := Lib.hid k1
 clear k1
 by_cases k2 : time ≤ lt
 rotate_left 1
 · have e2 : decide (time ≤ lt) = false := decide_eq_false k2
   clear k2
   go_wp2_with fail
   refine (need_no _).mono ?_
   rintro e' w' ⟨rfl, rfl⟩
   go_wp2
   exact app_no rfl (by simp) (by simp) HX1.out HZ1.out HT1.out (by omega) (by omega) (by omega)
 have e2 : decide (time ≤ lt) = true := decide_eq_true k2
 have K2 := Lib.hid k2
 clear k2
 have HF : Hid (Sn.may ⟨time, ps, gs⟩ = false) := Lib.hid (by
  cases hm : Sn.may ⟨time, ps, gs⟩ with
  | false => rfl
  | true => exact absurd ⟨K1.out, K2.out, hm⟩ HNO.out)
 go_wp2_with fail
 refine (snmay_any _ ⟨time, ps, gs⟩ w1 ⟨A, c, B, d, rfl, H2.out, H3.out⟩ HP.out HG.out).mono ?_
 rintro e' w2 ⟨rfl, hx2⟩
 rw [HF.out]
 have HX2 := Lib.hid hx2
 clear hx2 c0 c1 c2 m0 m1
 go_wp2_with fail
 refine (need_no _).mono ?_
 rintro e' w' ⟨rfl, rfl⟩
 go_wp2
 exact app_no rfl (by simp) (by simp) (HX1.out.trans HX2.out) (HX2.out.blk HZ1.out) (HX2.out.blk HT1.out) (by omega) (by omega) (by omega)
def HasW (T : TypeId) (w0 w : World) (u : GV) (cs : List Value) : Prop := ∃ g, u.v = .pointer (some ⟨g, 0, none⟩) ∧ w0.heap.size ≤ g ∧ (u.s ≤ g ∧ g < u.t) ∧ w.heap[g]? = some (.cells cs.toArray T (0, 0))
theorem HasW.ext {T : TypeId} {w0 w w' : World} {u : GV} {cs : List Value} (h : HasW T w0 w u cs) (hx : Ext w w') : HasW T w0 w' u cs := by
 obtain ⟨g, h1, h2, h3, h4⟩ := h
 exact ⟨g, h1, h2, h3, hx.blk h4⟩
namespace Md
theorem ask_timed (t t' : Int) (ps : List (Int × Int)) (gs : List Gs4) (l : Lg) : ask ⟨t, ps, gs⟩ l = ask ⟨t', ps, gs⟩ l := rfl
theorem thn_timed (t t' : Int) (ps : List (Int × Int)) (gs : List Gs4) (l : Lg) : thn ⟨t, ps, gs⟩ l = { thn ⟨t', ps, gs⟩ l with time := t } := by
 unfold thn
 simp only
 repeat' split
 all_goals rfl
end Md
theorem range_pre {w : World} {g : Nat} {T : TypeId} {cs ds : List Value} {fr : Nat × Nat} (h : w.heap[g]? = some (.cells (cs ++ ds).toArray T fr)) : w.rangeAt g 0 cs := fun j v hv => by
 refine range_row h j v ?_
 rw [List.getElem?_append_left (List.getElem?_eq_some_iff.1 hv).1]
 exact hv
def TrO {α : Type} (e : TypeId) (m : Nat) (f : α → List Value) (B : Nat) (w : World) (u : GV) (xs : List α) : Prop := OwnRows e m f w B u.v xs ∧ ∀ k, u.v.ownBlock = some k → u.s ≤ k ∧ k < u.t
theorem TrO.ext {α : Type} {e : TypeId} {m : Nat} {f : α → List Value} {B : Nat} {w w' : World} {u : GV} {xs : List α} (h : TrO e m f B w u xs) (hx : Ext w w') : TrO e m f B w' u xs := ⟨h.1.ext hx, h.2⟩
theorem TrO.of {α : Type} {e : TypeId} {m : Nat} {f : α → List Value} {B s : Nat} {w : World} {v : Value} {xs : List α} (h : OwnRows e m f w s v xs) (hB : B ≤ s) : TrO e m f B w ⟨v, s, w.heap.size⟩ xs := ⟨World.ownsRow.mono h hB, h.lt⟩
theorem rows_off1 {α : Type} {m : Nat} {f : α → List Value} {w w' : World} {v : Value} {xs : List α} {R : Nat} {s1 : Value} {T : TypeId} {fr : Nat × Nat} (h : RowsAt m f w v xs) (hf : ∀ x, ∃ (a b : Int) (r : List Value), f x = .int .i64 a :: .int .i64 b :: r)
    (hb : w.heap[R]? = some (.cells #[s1] T fr)) (hu : Upd R w w') : RowsAt m f w' v xs := by
 obtain ⟨A, c, hv, hc, hA⟩ := h
 refine ⟨A, c, hv, hc, fun h0 => ?_⟩
 obtain ⟨b, o, hAe, hlt, hcell⟩ := hA h0
 have hne : b ≠ R := fun e => by
  subst e
  obtain ⟨x, hx⟩ : ∃ x, xs[0]? = some x := ⟨_, List.getElem?_eq_getElem h0⟩
  obtain ⟨p, q, r, hfx⟩ := hf x
  have k1 := hcell 0 x hx 1 (.int .i64 q) (by rw [hfx]; rfl)
  rw [show o + 0 * m + 1 = o + 1 by omega] at k1
  rw [cell_of_row w b (o + 1) _ _ _ hb, Array.getElem?_eq_none (by simp)] at k1
  cases k1
 refine ⟨b, o, hAe, Nat.lt_of_lt_of_le hlt hu.size, fun j x hx i u hui => ?_⟩
 rw [World.cell?_of_block (hu.block b hlt (fun e => by injection e with e; exact hne e))]
 exact hcell j x hx i u hui
theorem app_yes {a : Act} {w w' : World} {S R : Nat} {time : Int} {A B : Option Addr} {c d : Nat} {y : Sn} (hd : a.defers = [{ target := Target.fn (Fn.func 44) #[.pointer (some ⟨S, 0, none⟩), .pointer (some ⟨R, 0, none⟩)], args := #[] }]) (h4 : a.tmps.getD 4 undef = .pointer (some ⟨S, 0, none⟩)) (h5 : a.tmps.getD 5 undef = .pointer (some ⟨R, 0, none⟩))
    (hx : Ext w w') (hS : w'.heap[S]? = some (.cells #[.int .i64 time, .slice A y.ps.length c, .slice B y.gs.length d] 25 (0, 0))) (hR : w'.heap[R]? = some (.cells #[.bool true] 4 (0, 0))) (hs : SnAt w' (.agg #[.int .i64 time, .slice A y.ps.length c, .slice B y.gs.length d]) y) : bodyPostD Tryd.prog Tryd.f32 (fun e w' => SnApp w (some y) e w') Exit.ret a w' := by
 obtain ⟨tm, df⟩ := a
 simp only at hd h4 h5
 subst hd
 refine leaves_cons (f := 44) (args := #[.pointer (some ⟨S, 0, none⟩), .pointer (some ⟨R, 0, none⟩)]) (by simp) (by simp [go_sem]) ?_
 refine (apply1_idle _ _ _).mono ?_
 rintro e u' w4 ⟨rfl, rfl, hw4⟩
 have hw5 := hw4.symm
 clear hw4
 subst hw5
 have hsr := run_loadVar_row (P := Tryd.prog) w' _ 25 25 _ _ _ hS Tryd.underlying25 rfl (by kernel_rfl)
 have hbr := blk_cell hR 0 _ rfl
 have HX5 := Lib.hid hx
 have HSN := Lib.hid hs
 clear hx hs hS hR
 rw [Array.getD_eq_getD_getElem?] at h4 h5
 simp [Leaves, settle, results, Tryd.results32, h4, h5]
 simp only [asAddr, Sem.run_pure, Result.andThen_ok, hsr]
 simp [hbr, go_sem]
 exact ⟨_, rfl, HSN.out, HX5.out⟩
theorem app_store {w w2 : World} {S R : Nat} {A B : Option Addr} {c d : Nat} {y : Sn} {b0 : Value} (hx : Ext w w2) (hS : w2.heap[S]? = some (.cells #[.int .i64 0, .slice none 0 0, .slice none 0 0] 25 (0, 0))) (hR : w2.heap[R]? = some (.cells #[b0] 4 (0, 0))) (h1 : w.heap.size ≤ S) (h2 : w.heap.size ≤ R) (hne : S ≠ R) (hs : SnAt w2 (.agg #[.int .i64 y.time, .slice A y.ps.length c, .slice B y.gs.length d]) y) :
    w2.there S 0 [Value.int .i64 y.time, .slice A y.ps.length c, .slice B y.gs.length d].length ∧ ∃ w6, w2.setCells S 0 [.int .i64 y.time, .slice A y.ps.length c, .slice B y.gs.length d] = w6 ∧ w6.cell? ⟨R, 0, none⟩ = some b0 ∧ w6.frozen? ⟨R, 0, none⟩ = false ∧ ∃ w7, w6.setCell ⟨R, 0, none⟩ (.bool true) = w7 ∧ Ext w w7 ∧ w7.heap[S]? = some (.cells #[.int .i64 y.time, .slice A y.ps.length c, .slice B y.gs.length d] 25 (0, 0)) ∧ w7.heap[R]? = some (.cells #[.bool true] 4 (0, 0)) ∧ SnAt w7 (.agg #[.int .i64 y.time, .slice A y.ps.length c, .slice B y.gs.length d]) y := by
 have hu1 := setCells_upd S [Value.int .i64 y.time, .slice A y.ps.length c, .slice B y.gs.length d] w2 0
 obtain ⟨hth, w6, hw6, hb6, u, hu, hs6, hx6⟩ := sn_lay hx h1 hS hs
 injection hu with hu
 subst hu
 have hR6 : w6.heap[R]? = some (.cells #[b0] 4 (0, 0)) := by rw [← hw6]; exact (hu1.block R (blk_lt hR) (fun e => hne (by injection e with e; exact e.symm))).trans hR
 have hu2 : Upd R w6 (w6.setCell ⟨R, 0, none⟩ (.bool true)) := setCells_upd R [.bool true] _ 0
 refine ⟨hth, w6, hw6, blk_cell hR6 0 _ rfl, frozen_of_row _ _ 0 _ _ hR6, _, rfl, Ext.upd hx6 hu2 h2, ?_, by simpa using blk_set hR6 0 (.bool true), ?_⟩
 · rw [hu2.block S (blk_lt hb6) (fun e => hne (by injection e))]; exact hb6
 · obtain ⟨A', c', B', d', hv, h3, h4⟩ := hs6
   exact ⟨A', c', B', d', hv, rows_off1 h3 snP_two hR6 hu2, rows_off1 h4 snG_two hR6 hu2⟩
set_option maxRecDepth 100000 in
set_option maxHeartbeats 16000000 in
theorem mApply_yes (v : Value) (x : Sn) (l : Lg) (wy st : Value) (w : World) (hs : SnAt w v x) (hp : x.ps.length ≤ 1000) (hg : x.gs.length ≤ 1000) (hyes : 0 < l.m ∧ x.time ≤ l.time ∧ x.may = true) :
    Calls Tryd.prog 32 #[v, lgV l wy st] w (SnApp w (Md.app x l)) := by
 have hmi := (Sn.may_iff x).1 hyes.2.2
 have hri := (Md.rises_may hyes.2.2).1
 obtain ⟨A, c, B, d, rfl, h2, h3⟩ := hs
 obtain ⟨time, ps, gs⟩ := x
 obtain ⟨lt, lm, kd, lg, lp, ls⟩ := l
 simp only at h2 h3 hyes hp hg hmi hri ⊢
 have HSQ : Hid ((∀ q ∈ ps, 0 ≤ q.2 ∧ q.2 < 4611686018427387904) ∧ ∀ q ∈ gs, 0 ≤ q.2.2.2 ∧ q.2.2.2 < 4611686018427387904) := Lib.hid (by
  obtain ⟨_, _, _, k1, _, k2, _⟩ := hmi
  refine ⟨fun q hq => ?_, fun q hq => ?_⟩
  · have := k1 q hq
    unfold snPOk at this
    simp only [Bool.and_eq_true, snNum_iff] at this
    exact this.2
  · have := k2 q hq
    unfold snGOk at this
    simp only [Bool.and_eq_true, snNum_iff] at this
    exact this.2)
 have HRI := Lib.hid hri
 clear hmi hri
 have hmf : ∀ (fn : Fn) (first cap : Array Value) (w : World), (Instr.makeFunc fn first cap).run Tryd.prog w = .ok (.func fn first cap) w := fun _ _ _ _ => rfl
 have HP : Hid (ps.length ≤ 1000) := Lib.hid hp
 have HG : Hid (gs.length ≤ 1000) := Lib.hid hg
 have K1 := Lib.hid hyes.1
 have K2 := Lib.hid hyes.2.1
 have K3 := Lib.hid hyes.2.2
 have e1 : decide (0 < lm) = true := decide_eq_true hyes.1
 have e2 : decide (time ≤ lt) = true := decide_eq_true hyes.2.1
 clear hyes hp hg
 unfold lgV
 go_enter_defers Tryd.func32, Tryd.ntmps32
 go_upto_region 2 with fail
 obtain ⟨w1, hw1, hx1, hb1, hl1, hz1, ht1⟩ := app_four w #[.int .i64 time, .slice A ps.length c, .slice B gs.length d] 25 #[.int .i64 lt, .int .i64 lm, .int .i64 kd, .int .i64 lg, .int .i64 lp, .int .i64 ls, wy, st] 34 #[.int .i64 0, .slice none 0 0, .slice none 0 0] 25 #[.bool false] 4
 rw [hw1]
 have m0 := blk_cell hl1 0 _ rfl
 have m1 := blk_cell hl1 1 _ rfl
 have c0 := blk_cell hb1 0 _ rfl
 have c1 := blk_cell hb1 1 _ rfl
 have c2 := blk_cell hb1 2 _ rfl
 clear hw1
 have HX1 := Lib.hid hx1
 have HB1 := Lib.hid hb1
 have HL1 := Lib.hid hl1
 have HZ1 := Lib.hid hz1
 have HT1 := Lib.hid ht1
 have H2 := Lib.hid (h2.ext hx1)
 have H3 := Lib.hid (h3.ext hx1)
 clear hx1 hb1 hz1 ht1 hl1 h2 h3
 go_wp2_with fail
 refine (snmay_any _ ⟨time, ps, gs⟩ w1 ⟨A, c, B, d, rfl, H2.out, H3.out⟩ (by have := HP.out; simp only; omega) (by have := HG.out; simp only; omega)).mono ?_
 rintro e' w2 ⟨rfl, hx2⟩
 rw [K3.out]
 have HX2 := Lib.hid hx2
 clear hx2 c0 c1 c2 m0 m1
 go_wp2_with fail
 refine (need_yes _).mono ?_
 rintro e' w' ⟨rfl, hw'⟩
 have hw2 := hw'.symm
 clear hw'
 subst hw2
 have c0 := blk_cell (HX2.out.blk HB1.out) 0 _ rfl
 have c1 := blk_cell (HX2.out.blk HB1.out) 1 _ rfl
 have c2 := blk_cell (HX2.out.blk HB1.out) 2 _ rfl
 have m1 := blk_cell (HX2.out.blk HL1.out) 1 _ rfl
 go_wp2_with fail
 refine (mhas_any _ ⟨time, ps, gs⟩ lm w2 ⟨A, c, B, d, rfl, H2.out.ext HX2.out, H3.out.ext HX2.out⟩ (by have := HP.out; simp only; omega) (by have := HG.out; simp only; omega) _ _ rfl rfl).mono ?_
 rintro e' w3 ⟨rfl, hx3⟩
 have HX3 := Lib.hid (HX2.out.trans hx3)
 clear hx3 c0 c1 c2 m1 HX2
 go_wp2_with fail
 refine region_rgx ([(4, (fun u => ∃ A c, u = .slice A ps.length c : Value → Prop), (fun u w => TrO 61 2 snPCells w3.heap.size w (u 4) ps : (Nat → GV) → World → Prop)), (7, (fun u => ∃ A c, u = .slice A gs.length c : Value → Prop), (fun u w => TrO 49 4 snGCells w3.heap.size w (u 7) gs : (Nat → GV) → World → Prop)), (13, (fun u => ∃ g, u = .pointer (some ⟨g, 0, none⟩) : Value → Prop), (fun u w => HasW 95 w3 w (u 13) [.int .i64 lt, (u 4).v, (u 7).v, .int .i64 lt, .int .i64 lm, .int .i64 kd, .int .i64 lg, .int .i64 lp, .int .i64 ls, wy, st, .int .i64 (Md.hasP ps lm 1), .int .i64 (Md.hasG gs lm)] : (Nat → GV) → World → Prop))]) (w3) (by kernel_rfl) (by kernel_rfl) ?_ ?_ ?_
 · exact List.forall_mem_cons.2 ⟨⟨⟨_, none, 0, rfl⟩, fun u v w h ht => by show (fun u w => TrO 61 2 snPCells w3.heap.size w (u 4) ps : (Nat → GV) → World → Prop) v w; dsimp only; rw [← h 4 (.inl rfl) (by kernel_rfl)]; exact ht, fun u w w2 hx ht => ht.ext hx⟩, List.forall_mem_cons.2 ⟨⟨⟨_, none, 0, rfl⟩, fun u v w h ht => by show (fun u w => TrO 49 4 snGCells w3.heap.size w (u 7) gs : (Nat → GV) → World → Prop) v w; dsimp only; rw [← h 7 (.inl rfl) (by kernel_rfl)]; exact ht, fun u w w2 hx ht => ht.ext hx⟩, List.forall_mem_cons.2 ⟨⟨⟨_, 0, rfl⟩, fun u v w h ht => by show (fun u w => HasW 95 w3 w (u 13) [.int .i64 lt, (u 4).v, (u 7).v, .int .i64 lt, .int .i64 lm, .int .i64 kd, .int .i64 lg, .int .i64 lp, .int .i64 ls, wy, st, .int .i64 (Md.hasP ps lm 1), .int .i64 (Md.hasG gs lm)] : (Nat → GV) → World → Prop) v w; dsimp only; rw [← h 13 (.inl rfl) (by kernel_rfl), ← h 4 (.inr (by kernel_rfl)) (by kernel_rfl), ← h 7 (.inr (by kernel_rfl)) (by kernel_rfl)]; exact ht, fun u w w2 hx ht => ht.ext hx⟩, List.forall_mem_nil _⟩⟩⟩
 · first | assumption | exact Ext.refl _
 refine rg_pure (v := ?_) rfl (by kernel_rfl) (by kernel_rfl) (fun w hS hN => ?_) ?_
 rotate_left 1
 · clear hN
   go_simp
   refine givesP_mk ?_
   with_reducible rfl
 refine rg_pure (v := ?_) rfl (by kernel_rfl) (by kernel_rfl) (fun w hS hN => ?_) ?_
 rotate_left 1
 · have q0 := blk_cell (hS.blk (HX3.out.blk HL1.out)) 0 _ rfl
   clear hN
   go_simp
   refine givesP_mk ?_
   with_reducible rfl
 refine rg_pure (v := ?_) rfl (by kernel_rfl) (by kernel_rfl) (fun w hS hN => ?_) ?_
 rotate_left 1
 · clear hN
   go_simp
   refine givesP_mk ?_
   with_reducible rfl
 refine rg_pure (v := ?_) rfl (by kernel_rfl) (by kernel_rfl) (fun w hS hN => ?_) ?_
 rotate_left 1
 · have q1 := blk_cell (hS.blk (HX3.out.blk HB1.out)) 1 _ rfl
   clear hN
   go_simp
   refine givesP_mk ?_
   with_reducible rfl
 refine rg_mem (fun u => ∃ A c, u = .slice A ps.length c : Value → Prop) (fun u w => TrO 61 2 snPCells w3.heap.size w (u 4) ps : (Nat → GV) → World → Prop) (fun _ => Ext) rfl rfl rfl rfl (by kernel_rfl) (by kernel_rfl) (fun w hS hN R hR => ?_) ?_
 · have HR := Lib.hid hR
   clear hR
   (try clear hN)
   go_simp
   refine givesM_call ((clonePS_any _ ps w ((H2.out.ext HX3.out).ext hS) (by have := HP.out; omega)).mono ?_)
   rintro e w' ⟨v, rfl, ho, hx⟩
   obtain ⟨A', c', rfl, _⟩ := (ho.rows snPCells_len).form
   exact ⟨_, rfl, HR.out _ _ ⟨_, _, rfl⟩ (TrO.of ho hS.size) hx⟩
 rintro u4 s4 t4 ⟨A4, c4, rfl⟩
 refine rg_pure (v := ?_) rfl (by kernel_rfl) (by kernel_rfl) (fun w hS hN => ?_) ?_
 rotate_left 1
 · clear hN
   go_simp
   refine givesP_mk ?_
   with_reducible rfl
 refine rg_pure (v := ?_) rfl (by kernel_rfl) (by kernel_rfl) (fun w hS hN => ?_) ?_
 rotate_left 1
 · have q2 := blk_cell (hS.blk (HX3.out.blk HB1.out)) 2 _ rfl
   clear hN
   go_simp
   refine givesP_mk ?_
   with_reducible rfl
 refine rg_mem (fun u => ∃ A c, u = .slice A gs.length c : Value → Prop) (fun u w => TrO 49 4 snGCells w3.heap.size w (u 7) gs : (Nat → GV) → World → Prop) (fun _ => Ext) rfl rfl rfl rfl (by kernel_rfl) (by kernel_rfl) (fun w hS hN R hR => ?_) ?_
 · have HR := Lib.hid hR
   clear hR
   (try clear hN)
   go_simp
   refine givesM_call ((cloneGS_any _ gs w ((H3.out.ext HX3.out).ext hS) (by have := HG.out; omega)).mono ?_)
   rintro e w' ⟨v, rfl, ho, hx⟩
   obtain ⟨A', c', rfl, _⟩ := (ho.rows snGCells_len).form
   exact ⟨_, rfl, HR.out _ _ ⟨_, _, rfl⟩ (TrO.of ho hS.size) hx⟩
 rintro u7 s7 t7 ⟨A7, c7, rfl⟩
 refine rg_pure (v := ?_) rfl (by kernel_rfl) (by kernel_rfl) (fun w hS hN => ?_) ?_
 rotate_left 1
 · clear hN
   go_simp
   refine givesP_mk ?_
   with_reducible rfl
 refine rg_pure (v := (.agg #[.int .i64 lt, .int .i64 lm, .int .i64 kd, .int .i64 lg, .int .i64 lp, .int .i64 ls, wy, st])) rfl (by kernel_rfl) (by kernel_rfl) (fun w hS hN => ?_) ?_
 · clear hN
   exact givesP_load 34 _ rfl _ (by go_simp) ([.int .i64 lt, .int .i64 lm, .int .i64 kd, .int .i64 lg, .int .i64 lp, .int .i64 ls, wy, st]) _ rfl _ (range_row (hS.blk (HX3.out.blk HL1.out))) Tryd.underlying34 rfl (by kernel_rfl)
 iterate 3
  refine rg_pure (v := ?_) rfl (by kernel_rfl) (by kernel_rfl) (fun w hS hN => ?_) ?_
  rotate_left 1
  · clear hN
    go_simp
    refine givesP_mk ?_
    with_reducible rfl
 refine rg_mem (fun u => ∃ g, u = .pointer (some ⟨g, 0, none⟩) : Value → Prop) (fun u w => HasW 95 w3 w (u 13) [.int .i64 lt, (u 4).v, (u 7).v, .int .i64 lt, .int .i64 lm, .int .i64 kd, .int .i64 lg, .int .i64 lp, .int .i64 ls, wy, st, .int .i64 (Md.hasP ps lm 1), .int .i64 (Md.hasG gs lm)] : (Nat → GV) → World → Prop) (fun _ => Ext) rfl rfl rfl rfl (by kernel_rfl) (by kernel_rfl) (fun w hS hN R hR => ?_) ?_
 · have HR := Lib.hid hR
   clear hR
   (try clear hN)
   go_simp
   exact givesM_val (HR.out _ _ ⟨_, rfl⟩ ⟨w.heap.size, rfl, hS.size, ⟨Nat.le_refl _, by simp [lookU]⟩, blk_new w _⟩ ((Ext.refl w).alloc _))
 rintro u13 s13 t13 ⟨T, rfl⟩
 refine rg_pure (v := ?_) rfl (by kernel_rfl) (by kernel_rfl) (fun w hS hN => ?_) ?_
 rotate_left 1
 · clear hN
   go_simp
   refine givesP_mk ?_
   with_reducible rfl
 refine rg_doneA rfl (Nat.le_of_ble_eq_true (by kernel_rfl)) ?_
 intro w4 hS hT hA
 have h4 : TrO 61 2 snPCells w3.heap.size w4 ⟨.slice A4 ps.length c4, s4, t4⟩ ps := hT (4, ⟨.slice A4 ps.length c4, s4, t4⟩) (by simp)
 have h7 : TrO 49 4 snGCells w3.heap.size w4 ⟨.slice A7 gs.length c7, s7, t7⟩ gs := hT (7, ⟨.slice A7 gs.length c7, s7, t7⟩) (by simp)
 have h13 : HasW 95 w3 w4 ⟨.pointer (some ⟨T, 0, none⟩), s13, t13⟩ [.int .i64 lt, .slice A4 ps.length c4, .slice A7 gs.length c7, .int .i64 lt, .int .i64 lm, .int .i64 kd, .int .i64 lg, .int .i64 lp, .int .i64 ls, wy, st, .int .i64 (Md.hasP ps lm 1), .int .i64 (Md.hasG gs lm)] := hT (13, ⟨.pointer (some ⟨T, 0, none⟩), s13, t13⟩) (by simp)
 have a4_7 : t4 ≤ s7 ∨ t7 ≤ s4 := hA (4, ⟨.slice A4 ps.length c4, s4, t4⟩) (by simp) (7, ⟨.slice A7 gs.length c7, s7, t7⟩) (by simp) (by simp)
 have a4_13 : t4 ≤ s13 ∨ t13 ≤ s4 := hA (4, ⟨.slice A4 ps.length c4, s4, t4⟩) (by simp) (13, ⟨.pointer (some ⟨T, 0, none⟩), s13, t13⟩) (by simp) (by simp)
 have a7_13 : t7 ≤ s13 ∨ t13 ≤ s7 := hA (7, ⟨.slice A7 gs.length c7, s7, t7⟩) (by simp) (13, ⟨.pointer (some ⟨T, 0, none⟩), s13, t13⟩) (by simp) (by simp)
 have HTR : Hid (Tr w3 w4 T ⟨lt, ps, gs⟩ ⟨lt, lm, kd, lg, lp, ls⟩ wy st (Md.hasP ps lm 1) (Md.hasG gs lm) A4 c4 A7 c7) := Lib.hid (by
  obtain ⟨g, e, k1, k2, k3⟩ := h13
  simp only [Value.pointer.injEq, Option.some.injEq, Addr.mk.injEq, and_true] at e
  subst e
  dsimp only at k2
  refine ⟨k3, h4.1, h7.1, fun b hb => ?_, fun b hb => ?_, fun a b ha hb => ?_, k1, hS⟩
  · have := h4.2 b.block (by rw [hb]; rfl)
    dsimp only at this
    omega
  · have := h7.2 b.block (by rw [hb]; rfl)
    dsimp only at this
    omega
  · have h := h4.2 a.block (by rw [ha]; rfl)
    have := h7.2 b.block (by rw [hb]; rfl)
    dsimp only at this h
    omega)
 clear hS hT hA h4 h7 h13 a4_7 a4_13 a7_13
 go_simp
 go_wp2_with fail
 refine (mapply_any w3 w4 T ⟨lt, ps, gs⟩ ⟨lt, lm, kd, lg, lp, ls⟩ wy st A4 c4 A7 c7 HTR.out HRI.out ⟨HP.out, HG.out⟩ HSQ.out).mono ?_
 rintro e' w5 (⟨y, hy, rfl, A5, c5, D5, d5, hT5⟩ | ⟨ho, rfl, hx5⟩)
 rotate_left 1
 · have HX5 := Lib.hid (HX3.out.trans hx5)
   have HN : Hid (Md.app ⟨time, ps, gs⟩ ⟨lt, lm, kd, lg, lp, ls⟩ = none) := Lib.hid (by
    unfold Md.app
    rw [if_neg (by
     rintro ⟨_, _, _, k4, _⟩
     rw [Md.ask_timed lt time, if_pos k4] at ho
     cases ho)])
   clear hx5 ho
   go_wp2
   rw [HN.out]
   exact app_no rfl (by simp) (by simp) (HX1.out.trans HX5.out) (HX5.out.blk HZ1.out) (HX5.out.blk HT1.out) (by omega) (by omega) (by omega)
 obtain ⟨HASK, HY⟩ : Hid (Md.ask ⟨time, ps, gs⟩ ⟨lt, lm, kd, lg, lp, ls⟩ = true) ∧ Hid (({ Md.thn ⟨time, ps, gs⟩ ⟨lt, lm, kd, lg, lp, ls⟩ with time := lt } : Sn) = y) := by
  by_cases k : Md.ask ⟨time, ps, gs⟩ ⟨lt, lm, kd, lg, lp, ls⟩ = true
  · rw [Md.ask_timed lt time, if_pos k] at hy
    have := Option.some.inj hy
    exact ⟨Lib.hid k, Lib.hid ((Md.thn_timed lt time ps gs _).symm.trans this)⟩
  · rw [Md.ask_timed lt time, if_neg k] at hy
    cases hy
 have HYL : Hid (y.ps.length ≤ 1001 ∧ y.gs.length ≤ 1001) := Lib.hid (by
  have h := Md.thn_len ⟨time, ps, gs⟩ ⟨lt, lm, kd, lg, lp, ls⟩
  have h1 := HP.out
  have h2 := HG.out
  rw [← HY.out]
  simp only at h ⊢
  omega)
 have HX5 := Lib.hid (HX3.out.trans hT5.ext)
 have HR5 := Lib.hid (range_pre (cs := [.int .i64 y.time, .slice A5 y.ps.length c5, .slice D5 y.gs.length d5]) (ds := [.int .i64 lt, .int .i64 lm, .int .i64 kd, .int .i64 lg, .int .i64 lp, .int .i64 ls, wy, st, .int .i64 (Md.hasP ps lm 1), .int .i64 (Md.hasG gs lm)]) hT5.box)
 have HSN : Hid (SnAt w5 (.agg #[.int .i64 y.time, .slice A5 y.ps.length c5, .slice D5 y.gs.length d5]) y) := Lib.hid ⟨A5, c5, D5, d5, rfl, hT5.ps.rows snPCells_len, hT5.gs.rows snGCells_len⟩
 have HBX := Lib.hid hT5.box
 clear hy hT5 HTR
 go_wp2_with (refine wpList_load_rowW rfl 25 _ rfl T rfl [.int .i64 y.time, .slice A5 y.ps.length c5, .slice D5 y.gs.length d5] (.agg #[.int .i64 y.time, .slice A5 y.ps.length c5, .slice D5 y.gs.length d5]) rfl _ HR5.out Tryd.underlying25 rfl (by kernel_rfl) ?_)
 refine (snmay_any _ y w5 HSN.out (by have := HYL.out; omega) (by have := HYL.out; omega)).mono ?_
 rintro e' w6 ⟨rfl, hx6⟩
 have HX6 := Lib.hid (HX5.out.trans hx6)
 have HS6 := Lib.hid (HSN.out.ext hx6)
 have HB6 := Lib.hid (hx6.blk HBX.out)
 clear hx6 HR5 HSN HBX HX5
 obtain ⟨my, hmy⟩ : ∃ my, y.may = my := ⟨_, rfl⟩
 have HMY := Lib.hid hmy
 rw [hmy]
 clear hmy
 cases my with
 | false =>
  have HN : Hid (Md.app ⟨time, ps, gs⟩ ⟨lt, lm, kd, lg, lp, ls⟩ = none) := Lib.hid (by
   unfold Md.app
   rw [HY.out, if_neg (by
    rintro ⟨_, _, _, _, k5⟩
    rw [HMY.out] at k5
    cases k5)])
  go_wp2_with fail
  refine (need_no _).mono ?_
  rintro e' w' ⟨rfl, rfl⟩
  go_wp2
  rw [HN.out]
  exact app_no rfl (by simp) (by simp) (HX1.out.trans HX6.out) (HX6.out.blk HZ1.out) (HX6.out.blk HT1.out) (by omega) (by omega) (by omega)
 | true =>
  have HN : Hid (Md.app ⟨time, ps, gs⟩ ⟨lt, lm, kd, lg, lp, ls⟩ = some y) := Lib.hid (by
   unfold Md.app
   have k1 := K1.out
   rw [HY.out, if_pos ⟨by simp only; omega, K2.out, K3.out, HASK.out, HMY.out⟩])
  go_wp2_with fail
  refine (need_yes _).mono ?_
  rintro e' w' ⟨rfl, hw'⟩
  have hw2 := hw'.symm
  clear hw'
  subst hw2
  have HR6 := Lib.hid (range_pre (cs := [.int .i64 y.time, .slice A5 y.ps.length c5, .slice D5 y.gs.length d5]) (ds := [.int .i64 lt, .int .i64 lm, .int .i64 kd, .int .i64 lg, .int .i64 lp, .int .i64 ls, wy, st, .int .i64 (Md.hasP ps lm 1), .int .i64 (Md.hasG gs lm)]) HB6.out)
  obtain ⟨hth, wa, hwa, qa, fa, wb, hwb, hxb, hsb, hrb, hnb⟩ := app_store (HX1.out.trans HX6.out) (HX6.out.blk HZ1.out) (HX6.out.blk HT1.out) (by omega) (by omega) (by omega) HS6.out
  have HTH := Lib.hid hth
  have HWA := Lib.hid hwa
  have HWB := Lib.hid hwb
  have HXB := Lib.hid hxb
  have HSB := Lib.hid hsb
  have HRB := Lib.hid hrb
  have HNB := Lib.hid hnb
  clear hth hwa hwb hxb hsb hrb hnb
  go_wp2_with (first | (refine wpList_load_rowW rfl 25 _ rfl T rfl [.int .i64 y.time, .slice A5 y.ps.length c5, .slice D5 y.gs.length d5] (.agg #[.int .i64 y.time, .slice A5 y.ps.length c5, .slice D5 y.gs.length d5]) rfl _ HR6.out Tryd.underlying25 rfl (by kernel_rfl) ?_) | (refine wpList_store_rowN rfl 25 _ _ rfl _ 0 [.int .i64 y.time, .slice A5 y.ps.length c5, .slice D5 y.gs.length d5] (.agg ([.int .i64 y.time, .slice A5 y.ps.length c5, .slice D5 y.gs.length d5]).toArray) (by go_simp) (by go_simp) rfl HTH.out (by kernel_rfl) (sn3_one _ _ _ rfl rfl) HWA.out ?_))
  rw [HWB.out, HN.out]
  exact app_yes rfl (by simp) (by simp) HXB.out HSB.out HRB.out HNB.out
theorem mApply_any (v : Value) (x : Sn) (l : Lg) (wy st : Value) (w : World) (hs : SnAt w v x) (hp : x.ps.length ≤ 1000) (hg : x.gs.length ≤ 1000) (o : Option Sn) (hr : Md.app x l = o) :
    Calls Tryd.prog 32 #[v, lgV l wy st] w (SnApp w o) := by
 subst hr
 by_cases h : 0 < l.m ∧ x.time ≤ l.time ∧ x.may = true
 · exact mApply_yes v x l wy st w hs hp hg h
 · have : Md.app x l = none := by
    unfold Md.app
    rw [if_neg (fun k => h ⟨by have := k.1; omega, k.2.1, k.2.2.1⟩)]
   rw [this]
   exact mApply_no v x l wy st w hs hp hg h
theorem sn_big {time : Int} {ps : List (Int × Int)} {gs : List Gs4} (h : 64 < ps.length ∨ 1000 < gs.length) : Sn.may ⟨time, ps, gs⟩ = false := by
 cases hm : Sn.may ⟨time, ps, gs⟩ with
 | false => rfl
 | true =>
  obtain ⟨_, h1, h2, _⟩ := (Sn.may_iff _).1 hm
  simp only at h1 h2
  omega
set_option maxRecDepth 100000 in
set_option maxHeartbeats 1000000 in
theorem snmay_big (v : Value) (s : Sn) (w : World) (hs : SnAt w v s) (hbig : 64 < s.ps.length ∨ 1000 < s.gs.length) :
    Calls Tryd.prog 31 #[v] w fun e w' => e = .returned (.bool false) ∧ Ext w w' := by
 obtain ⟨A, c, B, d, rfl, h2, h3⟩ := hs
 obtain ⟨time, ps, gs⟩ := s
 simp only at h2 h3 hbig ⊢
 have HI : Hid (IntsAt ((w.alloc (.cells #[.int .i64 time, .slice A ps.length c, .slice B gs.length d] 25)).alloc (.cells #[.int .i64 time] 3)) (.slice (some ⟨w.heap.size + 1, 0, none⟩) 1 1) [time]) := Lib.hid (by have := ints_arr (w.alloc (.cells #[.int .i64 time, .slice A ps.length c, .slice B gs.length d] 25)) [time]; rw [World.size_alloc] at this; exact this)
 have HX2 : Hid (Ext w ((w.alloc (.cells #[.int .i64 time, .slice A ps.length c, .slice B gs.length d] 25)).alloc (.cells #[.int .i64 time] 3))) := Lib.hid (((Ext.refl w).alloc _).alloc _)
 have HBX : Hid (((w.alloc (.cells #[.int .i64 time, .slice A ps.length c, .slice B gs.length d] 25)).alloc (.cells #[.int .i64 time] 3)).heap[w.heap.size]? = some (.cells #[.int .i64 time, .slice A ps.length c, .slice B gs.length d] 25 (0, 0))) := Lib.hid (blk_alloc (blk_new w (.cells #[.int .i64 time, .slice A ps.length c, .slice B gs.length d] 25)) (.cells #[.int .i64 time] 3))
 clear h2 h3
 obtain ⟨r, hr⟩ : ∃ r, [time].all snNum = r := ⟨_, rfl⟩
 have HR := Lib.hid hr
 clear hr
 cases r with
 | false =>
  clear hbig
  go_enter Tryd.func31, Tryd.ntmps31
  go_wp2_with fail
  refine (snnum_any _ [time] false HR.out _ HI.out (by simp)).mono ?_
  rintro e w2 ⟨rfl, rfl⟩
  go_wp2
  go_ret
  exact ⟨rfl, HX2.out⟩
 | true =>
  by_cases h64 : ps.length ≤ 64
  · have i64 : (ps.length : Int) ≤ 64 := by omega
    have i1000 : 1000 < (gs.length : Int) := by omega
    clear hbig
    go_enter Tryd.func31, Tryd.ntmps31
    go_wp2_with fail
    refine (snnum_any _ [time] true HR.out _ HI.out (by simp)).mono ?_
    rintro e w2 ⟨rfl, rfl⟩
    go_wp2
    go_ret
    exact ⟨rfl, HX2.out⟩
  · have i64 : 64 < (ps.length : Int) := by omega
    clear hbig
    go_enter Tryd.func31, Tryd.ntmps31
    go_wp2_with fail
    refine (snnum_any _ [time] true HR.out _ HI.out (by simp)).mono ?_
    rintro e w2 ⟨rfl, rfl⟩
    go_wp2
    go_ret
    exact ⟨rfl, HX2.out⟩
set_option maxRecDepth 100000 in
set_option maxHeartbeats 8000000 in
theorem rsnmay_big (v : Value) (s : Sn) (w : World) (hs : SnAt w v s) (hbig : 64 < s.ps.length ∨ 1000 < s.gs.length) :
    Calls Tryd.prog 33 #[v] w fun e w' => e = .returned (.bool false) ∧ Ext w w' := by
 obtain ⟨A, c, B, d, rfl, h2, h3⟩ := hs
 obtain ⟨time, ps, gs⟩ := s
 simp only at h2 h3 hbig ⊢
 clear h2 h3
 obtain ⟨sb, hsb⟩ : ∃ b, w.heap.size = b := ⟨_, rfl⟩
 obtain ⟨w3, hw3⟩ : ∃ v, w.alloc (.cells #[.int .i64 time, .slice A ps.length c, .slice B gs.length d] 25) = v := ⟨_, rfl⟩
 have HX3 : Hid (Ext w w3) := Lib.hid (by rw [← hw3]; exact (Ext.refl w).alloc _)
 have HB3 : Hid (w3.heap[sb]? = some (.cells #[.int .i64 time, .slice A ps.length c, .slice B gs.length d] 25 (0, 0))) := Lib.hid (by rw [← hw3, ← hsb]; exact blk_new w _)
 have HSB := Lib.hid hsb
 have HW3 := Lib.hid hw3
 have HBIG := Lib.hid hbig
 clear hsb hw3 hbig
 obtain ⟨tf, htf⟩ : ∃ b, snNum time = b := ⟨_, rfl⟩
 have HTF := Lib.hid htf
 go_enter Tryd.func33, Tryd.ntmps33
 go_wp2_with fail
 refine (rfit_any time tf HTF.out _).mono ?_
 rintro e w2 ⟨rfl, rfl⟩
 rw [HW3.out]
 (try rw [HSB.out])
 clear HW3 HSB
 have q0 := blk_cell HB3.out 0 _ rfl
 have q1 := blk_cell HB3.out 1 _ rfl
 have q2 := blk_cell HB3.out 2 _ rfl
 clear htf
 cases tf with
 | false =>
  go_wp2
  go_ret
  exact ⟨rfl, HX3.out⟩
 | true =>
  by_cases h64 : ps.length ≤ 64
  · have i64 : (ps.length : Int) ≤ 64 := by omega
    have i1000 : 1000 < (gs.length : Int) := by have := HBIG.out; omega
    have n64 : ¬ 64 < (ps.length : Int) := by omega
    go_wp2
    go_ret
    exact ⟨rfl, HX3.out⟩
  · have i64 : 64 < (ps.length : Int) := by omega
    go_wp2
    go_ret
    exact ⟨rfl, HX3.out⟩
set_option maxRecDepth 100000 in
set_option maxHeartbeats 16000000 in
theorem rapply_big (v : Value) (x : Sn) (l : Lg) (wy st : Value) (w : World) (hs : SnAt w v x) (hbig : 64 < x.ps.length ∨ 1000 < x.gs.length) :
    Calls Tryd.prog 34 #[v, lgV l wy st] w (SnApp w none) := by
 obtain ⟨A, c, B, d, rfl, h2, h3⟩ := hs
 obtain ⟨time, ps, gs⟩ := x
 obtain ⟨lt, lm, kd, lg, lp, ls⟩ := l
 simp only at h2 h3 hbig ⊢
 have hmf := sn_big (time := time) hbig
 obtain ⟨o, hr⟩ : ∃ o, Md.app ⟨time, ps, gs⟩ ⟨lt, lm, kd, lg, lp, ls⟩ = o := ⟨_, rfl⟩
 have hon : none = o := by rw [← hr]; unfold Md.app; rw [if_neg (by rintro ⟨_, _, h3, _⟩; rw [hmf] at h3; cases h3)]
 rw [hon]
 clear hon
 obtain ⟨w1, hw1⟩ : ∃ w1, ((w.alloc (.cells #[.int .i64 time, .slice A ps.length c, .slice B gs.length d] 25)).alloc (.cells #[.int .i64 lt, .int .i64 lm, .int .i64 kd, .int .i64 lg, .int .i64 lp, .int .i64 ls, wy, st] 34)).alloc (.cells #[.int .i64 0, .slice none 0 0, .slice none 0 0] 25) = w1 := ⟨_, rfl⟩
 have hx1 : Ext w w1 := by rw [← hw1]; exact (((Ext.refl w).alloc _).alloc _).alloc _
 have hb1 : w1.heap[w.heap.size]? = some (.cells #[.int .i64 time, .slice A ps.length c, .slice B gs.length d] 25 (0, 0)) := by rw [← hw1]; exact blk_alloc (blk_alloc (blk_new w _) _) _
 have hl1 : w1.heap[w.heap.size + 1]? = some (.cells #[.int .i64 lt, .int .i64 lm, .int .i64 kd, .int .i64 lg, .int .i64 lp, .int .i64 ls, wy, st] 34 (0, 0)) := by rw [← hw1]; refine blk_alloc ?_ _; rw [← World.size_alloc w (.cells #[.int .i64 time, .slice A ps.length c, .slice B gs.length d] 25)]; exact blk_new _ _
 have hz1 : w1.heap[w.heap.size + 1 + 1]? = some (.cells #[.int .i64 0, .slice none 0 0, .slice none 0 0] 25 (0, 0)) := by rw [← hw1, ← World.size_alloc w (.cells #[.int .i64 time, .slice A ps.length c, .slice B gs.length d] 25), ← World.size_alloc (w.alloc (.cells #[.int .i64 time, .slice A ps.length c, .slice B gs.length d] 25)) (.cells #[.int .i64 lt, .int .i64 lm, .int .i64 kd, .int .i64 lg, .int .i64 lp, .int .i64 ls, wy, st] 34)]; exact blk_new _ _
 obtain ⟨S0, hS0⟩ : ∃ S0, w.heap.size = S0 := ⟨_, rfl⟩
 rw [hS0] at hb1 hl1 hz1
 have HS0 := Lib.hid hS0
 have HW1 := Lib.hid hw1
 have HX1 := Lib.hid hx1
 have HB1 := Lib.hid hb1
 have HL1 := Lib.hid hl1
 have HZ1 := Lib.hid hz1
 have H2 := Lib.hid (h2.ext hx1)
 have H3 := Lib.hid (h3.ext hx1)
 have HBIG := Lib.hid hbig
 have HMF := Lib.hid hmf
 have HR := Lib.hid hr
 clear hbig hmf hw1 hx1 hb1 hl1 hz1 hS0 h2 h3 hr
 have HRR := HR
 clear HR
 have c0 := blk_cell ((Ext.refl w1).blk HB1.out) 0 _ rfl
 have c1 := blk_cell ((Ext.refl w1).blk HB1.out) 1 _ rfl
 have c2 := blk_cell ((Ext.refl w1).blk HB1.out) 2 _ rfl
 have m0 := blk_cell ((Ext.refl w1).blk HL1.out) 0 _ rfl
 have m1 := blk_cell ((Ext.refl w1).blk HL1.out) 1 _ rfl
 have m2 := blk_cell ((Ext.refl w1).blk HL1.out) 2 _ rfl
 have m3 := blk_cell ((Ext.refl w1).blk HL1.out) 3 _ rfl
 have m4 := blk_cell ((Ext.refl w1).blk HL1.out) 4 _ rfl
 have m5 := blk_cell ((Ext.refl w1).blk HL1.out) 5 _ rfl
 have m6 := blk_cell ((Ext.refl w1).blk HL1.out) 6 _ rfl
 have m7 := blk_cell ((Ext.refl w1).blk HL1.out) 7 _ rfl
 unfold lgV
 go_enter Tryd.func34, Tryd.ntmps34
 go_upto_region 1 with fail
 rw [HW1.out, HS0.out]
 by_cases a1 : lm < 1
 · have A1 := Lib.hid a1
   clear c0 c1 c2 m0 m1 m2 m3 m4 m5 m6 m7
   have m1 := blk_cell ((Ext.refl w1).blk HL1.out) 1 _ rfl
   have hlay := sn_lay (y := Md.zero) (A := none) (B := none) (c := 0) (d := 0) (time := 0) (HX1.out.trans (Ext.refl w1)) (show w.heap.size ≤ S0 + 1 + 1 by have := HS0.out; omega) ((Ext.refl w1).blk HZ1.out) (snZ_at _)
   simp only [Md.zero, List.length_nil] at hlay
   obtain ⟨hth6, w6, hw6, hb6, hret⟩ := hlay
   have HTH6 := Lib.hid hth6
   have HW6 := Lib.hid hw6
   have HB6 := Lib.hid hb6
   have HRET := Lib.hid hret
   clear hth6 hw6 hb6 hret
   have HN : Hid (Md.app ⟨time, ps, gs⟩ ⟨lt, lm, kd, lg, lp, ls⟩ = none) := Lib.hid (by unfold Md.app; rw [if_neg (by rintro ⟨h1, h2, h3, h4, h5⟩; have := A1.out; simp only at h1; omega)])
   go_wp2_with (refine wpList_store_rowN rfl 25 _ _ rfl (S0 + 1 + 1) 0 [.int .i64 0, .slice none 0 0, .slice none 0 0] (.agg ([.int .i64 0, .slice none 0 0, .slice none 0 0]).toArray) (by go_simp) (by go_simp) rfl HTH6.out (by kernel_rfl) (sn3_one _ _ _ rfl rfl) HW6.out ?_)
   refine bodyPost_cell_tmp rfl (S0 + 1 + 1) _ _ _ _ rfl HB6.out Tryd.underlying25 rfl (by kernel_rfl) (.bool false) rfl rfl ?_
   have hr := HRET.out
   obtain ⟨u, hu, hs, hx⟩ := hr
   injection hu with hu
   subst hu
   rw [HRR.out.symm.trans HN.out]
   exact ⟨_, rfl, hs, hx⟩
 have d1 : decide (lm < 1) = false := decide_eq_false a1
 have A1 := Lib.hid a1
 clear a1
 by_cases a2 : lt < time
 · have A2 := Lib.hid a2
   have hlay := sn_lay (y := Md.zero) (A := none) (B := none) (c := 0) (d := 0) (time := 0) (HX1.out.trans (Ext.refl w1)) (show w.heap.size ≤ S0 + 1 + 1 by have := HS0.out; omega) ((Ext.refl w1).blk HZ1.out) (snZ_at _)
   simp only [Md.zero, List.length_nil] at hlay
   obtain ⟨hth6, w6, hw6, hb6, hret⟩ := hlay
   have HTH6 := Lib.hid hth6
   have HW6 := Lib.hid hw6
   have HB6 := Lib.hid hb6
   have HRET := Lib.hid hret
   clear hth6 hw6 hb6 hret
   have HN : Hid (Md.app ⟨time, ps, gs⟩ ⟨lt, lm, kd, lg, lp, ls⟩ = none) := Lib.hid (by unfold Md.app; rw [if_neg (by rintro ⟨h1, h2, h3, h4, h5⟩; have := A2.out; simp only at h2; omega)])
   go_wp2_with (refine wpList_store_rowN rfl 25 _ _ rfl (S0 + 1 + 1) 0 [.int .i64 0, .slice none 0 0, .slice none 0 0] (.agg ([.int .i64 0, .slice none 0 0, .slice none 0 0]).toArray) (by go_simp) (by go_simp) rfl HTH6.out (by kernel_rfl) (sn3_one _ _ _ rfl rfl) HW6.out ?_)
   refine bodyPost_cell_tmp rfl (S0 + 1 + 1) _ _ _ _ rfl HB6.out Tryd.underlying25 rfl (by kernel_rfl) (.bool false) rfl rfl ?_
   have hr := HRET.out
   obtain ⟨u, hu, hs, hx⟩ := hr
   injection hu with hu
   subst hu
   rw [HRR.out.symm.trans HN.out]
   exact ⟨_, rfl, hs, hx⟩
 have d2 : decide (lt < time) = false := decide_eq_false a2
 have A2 := Lib.hid a2
 clear a2
 go_wp2_with fail
 refine (rsnmay_big _ ⟨time, ps, gs⟩ w1 ⟨A, c, B, d, rfl, H2.out.ext (Ext.refl w1), H3.out.ext (Ext.refl w1)⟩ HBIG.out).mono ?_
 rintro e w2 ⟨rfl, hx2⟩
 have X2 := Lib.hid hx2
 clear hx2
 clear c0 c1 c2 m0 m1 m2 m3 m4 m5 m6 m7
 have c0 := blk_cell (X2.out.blk HB1.out) 0 _ rfl
 have c1 := blk_cell (X2.out.blk HB1.out) 1 _ rfl
 have c2 := blk_cell (X2.out.blk HB1.out) 2 _ rfl
 have m0 := blk_cell (X2.out.blk HL1.out) 0 _ rfl
 have m1 := blk_cell (X2.out.blk HL1.out) 1 _ rfl
 have m2 := blk_cell (X2.out.blk HL1.out) 2 _ rfl
 have m3 := blk_cell (X2.out.blk HL1.out) 3 _ rfl
 have m4 := blk_cell (X2.out.blk HL1.out) 4 _ rfl
 have m5 := blk_cell (X2.out.blk HL1.out) 5 _ rfl
 have m6 := blk_cell (X2.out.blk HL1.out) 6 _ rfl
 have m7 := blk_cell (X2.out.blk HL1.out) 7 _ rfl
 have hlay := sn_lay (y := Md.zero) (A := none) (B := none) (c := 0) (d := 0) (time := 0) (HX1.out.trans X2.out) (show w.heap.size ≤ S0 + 1 + 1 by have := HS0.out; omega) (X2.out.blk HZ1.out) (snZ_at _)
 simp only [Md.zero, List.length_nil] at hlay
 obtain ⟨hth6, w6, hw6, hb6, hret⟩ := hlay
 have HTH6 := Lib.hid hth6
 have HW6 := Lib.hid hw6
 have HB6 := Lib.hid hb6
 have HRET := Lib.hid hret
 clear hth6 hw6 hb6 hret
 have HN : Hid (Md.app ⟨time, ps, gs⟩ ⟨lt, lm, kd, lg, lp, ls⟩ = none) := Lib.hid (by unfold Md.app; rw [if_neg (by rintro ⟨h1, h2, h3, h4, h5⟩; rw [HMF.out] at h3; cases h3)])
 go_wp2_with (refine wpList_store_rowN rfl 25 _ _ rfl (S0 + 1 + 1) 0 [.int .i64 0, .slice none 0 0, .slice none 0 0] (.agg ([.int .i64 0, .slice none 0 0, .slice none 0 0]).toArray) (by go_simp) (by go_simp) rfl HTH6.out (by kernel_rfl) (sn3_one _ _ _ rfl rfl) HW6.out ?_)
 refine bodyPost_cell_tmp rfl (S0 + 1 + 1) _ _ _ _ rfl HB6.out Tryd.underlying25 rfl (by kernel_rfl) (.bool false) rfl rfl ?_
 have hr := HRET.out
 obtain ⟨u, hu, hs, hx⟩ := hr
 injection hu with hu
 subst hu
 rw [HRR.out.symm.trans HN.out]
 exact ⟨_, rfl, hs, hx⟩
set_option maxRecDepth 100000 in
set_option maxHeartbeats 8000000 in
theorem mApply_big (v : Value) (x : Sn) (l : Lg) (wy st : Value) (w : World) (hs : SnAt w v x) (hbig : 64 < x.ps.length ∨ 1000 < x.gs.length) :
    Calls Tryd.prog 32 #[v, lgV l wy st] w fun e w' => SnApp w none e w' := by
 obtain ⟨A, c, B, d, rfl, h2, h3⟩ := hs
 obtain ⟨time, ps, gs⟩ := x
 obtain ⟨lt, lm, kd, lg, lp, ls⟩ := l
 simp only at h2 h3 hbig ⊢
 have hmf : ∀ (fn : Fn) (first cap : Array Value) (w : World), (Instr.makeFunc fn first cap).run Tryd.prog w = .ok (.func fn first cap) w := fun _ _ _ _ => rfl
 have HBIG := Lib.hid hbig
 clear hbig
 unfold lgV
 go_enter_defers Tryd.func32, Tryd.ntmps32
 go_upto_region 2 with fail
 obtain ⟨w1, hw1, hx1, hb1, hl1, hz1, ht1⟩ := app_four w #[.int .i64 time, .slice A ps.length c, .slice B gs.length d] 25 #[.int .i64 lt, .int .i64 lm, .int .i64 kd, .int .i64 lg, .int .i64 lp, .int .i64 ls, wy, st] 34 #[.int .i64 0, .slice none 0 0, .slice none 0 0] 25 #[.bool false] 4
 rw [hw1]
 have m0 := blk_cell hl1 0 _ rfl
 have m1 := blk_cell hl1 1 _ rfl
 have c0 := blk_cell hb1 0 _ rfl
 have c1 := blk_cell hb1 1 _ rfl
 have c2 := blk_cell hb1 2 _ rfl
 clear hw1
 have HX1 := Lib.hid hx1
 have HB1 := Lib.hid hb1
 have HZ1 := Lib.hid hz1
 have HT1 := Lib.hid ht1
 have H2 := Lib.hid (h2.ext hx1)
 have H3 := Lib.hid (h3.ext hx1)
 clear hx1 hb1 hz1 ht1 hl1 h2 h3
 by_cases k1 : 0 < lm
 rotate_left 1
 · have e1 : decide (0 < lm) = false := decide_eq_false k1
   clear k1
   go_wp2_with fail
   refine (need_no _).mono ?_
   rintro e' w' ⟨rfl, rfl⟩
   go_wp2
   exact app_no rfl (by simp) (by simp) HX1.out HZ1.out HT1.out (by omega) (by omega) (by omega)
 have e1 : decide (0 < lm) = true := decide_eq_true k1
 have K1 := Lib.hid k1
 clear k1
 by_cases k2 : time ≤ lt
 rotate_left 1
 · have e2 : decide (time ≤ lt) = false := decide_eq_false k2
   clear k2
   go_wp2_with fail
   refine (need_no _).mono ?_
   rintro e' w' ⟨rfl, rfl⟩
   go_wp2
   exact app_no rfl (by simp) (by simp) HX1.out HZ1.out HT1.out (by omega) (by omega) (by omega)
 have e2 : decide (time ≤ lt) = true := decide_eq_true k2
 have K2 := Lib.hid k2
 clear k2
 go_wp2_with fail
 refine (snmay_big _ ⟨time, ps, gs⟩ w1 ⟨A, c, B, d, rfl, H2.out, H3.out⟩ HBIG.out).mono ?_
 rintro e' w2 ⟨rfl, hx2⟩
 have HX2 := Lib.hid hx2
 clear hx2 c0 c1 c2 m0 m1
 go_wp2_with fail
 refine (need_no _).mono ?_
 rintro e' w' ⟨rfl, rfl⟩
 go_wp2
 exact app_no rfl (by simp) (by simp) (HX1.out.trans HX2.out) (HX2.out.blk HZ1.out) (HX2.out.blk HT1.out) (by omega) (by omega) (by omega)
theorem mApply_all (v : Value) (x : Sn) (l : Lg) (wy st : Value) (w : World) (hs : SnAt w v x) (o : Option Sn) (hr : Md.app x l = o) :
    Calls Tryd.prog 32 #[v, lgV l wy st] w (SnApp w o) := by
 by_cases h : 64 < x.ps.length ∨ 1000 < x.gs.length
 · obtain rfl : none = o := by
    rw [← hr]
    obtain ⟨time, ps, gs⟩ := x
    have hm := sn_big (time := time) h
    unfold Md.app
    rw [if_neg (by rintro ⟨_, _, h3, _⟩; rw [hm] at h3; cases h3)]
   exact mApply_big v x l wy st w hs h
 · exact mApply_any v x l wy st w hs (by omega) (by omega) o hr
theorem rapply_all (v : Value) (x : Sn) (l : Lg) (wy st : Value) (w : World) (hs : SnAt w v x) (o : Option Sn) (hr : Md.app x l = o) :
    Calls Tryd.prog 34 #[v, lgV l wy st] w (SnApp w o) := by
 by_cases h : 64 < x.ps.length ∨ 1000 < x.gs.length
 · obtain rfl : none = o := by
    rw [← hr]
    obtain ⟨time, ps, gs⟩ := x
    have hm := sn_big (time := time) h
    unfold Md.app
    rw [if_neg (by rintro ⟨_, _, h3, _⟩; rw [hm] at h3; cases h3)]
   exact rapply_big v x l wy st w hs h
 · exact rapply_any v x l wy st w hs (by omega) (by omega) o hr
end Go.Proofs.YtohncgikdlbogaaDoor
