/-
  Several texts in one: Hj, Rz.
-/
import Derived.Test.YtohncgikdlbogaaDoorE04
import Derived.Test.YtohncgikdlbogaaDoorE02
set_option linter.unusedVariables false
set_option linter.unusedSimpArgs false
namespace Go.Proofs.YtohncgikdlbogaaDoor
open Go.RowKit
set_option maxRecDepth 100000 in
set_option maxHeartbeats 32000000 in
theorem rthen_any (v : Value) (x : Sn) (l : Lg) (wy st : Value) (w : World) (hs : SnAt w v x) (hm : x.may = true) (hlm : 1 ≤ l.m) (ha : Md.ask x l = true) (y : Sn) (hr : Md.thn x l = y) :
    Calls Tryd.prog 54 #[v, lgV l wy st] w (SnRet w y) := by
 have hfd := Md.finds hm ha
 have hseq : (∀ p ∈ x.ps, 0 ≤ p.2 ∧ p.2 < 4611686018427387904) ∧ ∀ g ∈ x.gs, 0 ≤ g.2.2.2 ∧ g.2.2.2 < 4611686018427387904 := by
  have hmi := (Sn.may_iff _).1 hm
  refine ⟨fun p hp => ?_, fun g hg => ?_⟩
  · have := hmi.2.2.2.1 p hp
    unfold snPOk at this
    rw [Bool.and_eq_true, snNum_iff, snNum_iff] at this
    exact this.2
  · have := hmi.2.2.2.2.2.1 g hg
    unfold snGOk at this
    simp only [Bool.and_eq_true, snNum_iff] at this
    exact this.2
 obtain ⟨A, c, B, d, rfl, h2, h3⟩ := hs
 obtain ⟨time, ps, gs⟩ := x
 obtain ⟨lt, lm, kd, lg, lp, ls⟩ := l
 simp only at h2 h3 hlm hr ⊢
 have hmi := (Sn.may_iff _).1 hm
 have hp : ps.length ≤ 64 := hmi.2.1
 have hg : gs.length ≤ 1000 := hmi.2.2.1
 have HU := Lib.hid (Md.uniq_may hm (m := lm) (by omega))
 have HMAY := Lib.hid hm
 obtain ⟨w1, hw1⟩ : ∃ w1, ((w.alloc (.cells #[.int .i64 time, .slice A ps.length c, .slice B gs.length d] 25)).alloc (.cells #[.int .i64 lt, .int .i64 lm, .int .i64 kd, .int .i64 lg, .int .i64 lp, .int .i64 ls, wy, st] 34)).alloc (.cells #[.int .i64 0, .slice none 0 0, .slice none 0 0] 25) = w1 := ⟨_, rfl⟩
 have hx1 : Ext w w1 := by rw [← hw1]; exact (((Ext.refl w).alloc _).alloc _).alloc _
 have hb1 : w1.heap[w.heap.size]? = some (.cells #[.int .i64 time, .slice A ps.length c, .slice B gs.length d] 25 (0, 0)) := by rw [← hw1]; exact blk_alloc (blk_alloc (blk_new w _) _) _
 have hl1 : w1.heap[w.heap.size + 1]? = some (.cells #[.int .i64 lt, .int .i64 lm, .int .i64 kd, .int .i64 lg, .int .i64 lp, .int .i64 ls, wy, st] 34 (0, 0)) := by rw [← hw1]; refine blk_alloc ?_ _; rw [← World.size_alloc w (.cells #[.int .i64 time, .slice A ps.length c, .slice B gs.length d] 25)]; exact blk_new _ _
 have hz1 : w1.heap[w.heap.size + 1 + 1]? = some (.cells #[.int .i64 0, .slice none 0 0, .slice none 0 0] 25 (0, 0)) := by rw [← hw1, ← World.size_alloc w (.cells #[.int .i64 time, .slice A ps.length c, .slice B gs.length d] 25), ← World.size_alloc (w.alloc (.cells #[.int .i64 time, .slice A ps.length c, .slice B gs.length d] 25)) (.cells #[.int .i64 lt, .int .i64 lm, .int .i64 kd, .int .i64 lg, .int .i64 lp, .int .i64 ls, wy, st] 34)]; exact blk_new _ _
 obtain ⟨S0, hS0⟩ : ∃ S0, w.heap.size = S0 := ⟨_, rfl⟩
 rw [hS0] at hb1 hl1 hz1
 have HS0 := Lib.hid hS0
 have HW1 := Lib.hid hw1
 have HX1 := Lib.hid hx1
 have HB1 := Lib.hid hb1
 have HL1 := Lib.hid hl1
 have HZ1 := Lib.hid hz1
 have H2 := Lib.hid (h2.ext hx1)
 have H3 := Lib.hid (h3.ext hx1)
 have HP : Hid (ps.length ≤ 10000) := Lib.hid (by omega)
 have HG : Hid (gs.length ≤ 10000) := Lib.hid (by omega)
 have HR := Lib.hid hr
 clear hmi hp hg hw1 hx1 hb1 hl1 hz1 hS0 h2 h3 hm hlm hr
 have HYE := HR
 simp only at hseq
 have HFD := Lib.hid hfd
 have HSEQ := Lib.hid hseq
 have HRI := Lib.hid (Md.rises_may HMAY.out).1
 clear hfd hseq HR ha
 have c0 := blk_cell ((Ext.refl w1).blk HB1.out) 0 _ rfl
 have c1 := blk_cell ((Ext.refl w1).blk HB1.out) 1 _ rfl
 have c2 := blk_cell ((Ext.refl w1).blk HB1.out) 2 _ rfl
 have m1 := blk_cell ((Ext.refl w1).blk HL1.out) 1 _ rfl
 have m2 := blk_cell ((Ext.refl w1).blk HL1.out) 2 _ rfl
 have m3 := blk_cell ((Ext.refl w1).blk HL1.out) 3 _ rfl
 have m4 := blk_cell ((Ext.refl w1).blk HL1.out) 4 _ rfl
 have m5 := blk_cell ((Ext.refl w1).blk HL1.out) 5 _ rfl
 unfold lgV
 go_enter Tryd.func54, Tryd.ntmps54
 go_upto_region 1 with fail
 rw [HW1.out, HS0.out]
 by_cases kd1 : kd = 1
 · subst kd1
   all_goals
    obtain ⟨k, hpk, hkl⟩ := HFD.out.p1 (by simp)
    simp only at hpk hkl
    obtain ⟨⟨qm, qs⟩, hq⟩ : ∃ q, ps[k]? = some q := ⟨_, List.getElem?_eq_getElem hkl⟩
    have hyy := HYE.out
    rw [show Md.thn ⟨time, ps, gs⟩ ⟨lt, lm, 1, lg, lp, ls⟩ = { (⟨time, ps, gs⟩ : Sn) with ps := Md.setP ps lp lm } from by simp [Md.thn], hpk, Md.setP_at hq] at hyy
    have HY := Lib.hid hyy
    have HSQ : Hid (0 ≤ qs ∧ qs < 4611686018427387904) := Lib.hid (HSEQ.out.1 _ (List.mem_of_getElem? hq))
    have HQ := Lib.hid hq
    subst hpk
    clear hkl hq hyy
    go_wp2_with fail
    refine (rsetP_in _ ⟨time, ps, gs⟩ k qm qs lm w1 ⟨A, c, B, d, rfl, H2.out.ext (Ext.refl w1), H3.out.ext (Ext.refl w1)⟩ HP.out HG.out HQ.out HSQ.out).mono ?_
    rintro e w2 ⟨u, rfl, hsn, hx2⟩
    have X2 := Lib.hid hx2
    clear hx2
    obtain ⟨A6, c6, B6, d6, hu6, h26, h36⟩ := hsn
    subst hu6
    have hlay := sn_lay (HX1.out.trans X2.out) (show w.heap.size ≤ S0 + 1 + 1 by have := HS0.out; omega) (X2.out.blk HZ1.out) ⟨A6, c6, B6, d6, rfl, h26, h36⟩
    obtain ⟨hth6, w6, hw6, hb6, hret⟩ := hlay
    have HTH6 := Lib.hid hth6
    have HW6 := Lib.hid hw6
    have HB6 := Lib.hid hb6
    have HRET := Lib.hid hret
    clear h26 h36 hth6 hw6 hb6 hret c0 c1 c2 m1 m2 m3 m4 m5
    simp only at HTH6 HW6 HB6 HRET
    go_wp2_with (refine wpList_store_rowN rfl 25 _ _ rfl (S0 + 1 + 1) 0 [.int .i64 time, .slice A6 (ps.set k (lm, qs + 1)).length c6, .slice B6 gs.length d6] (.agg ([.int .i64 time, .slice A6 (ps.set k (lm, qs + 1)).length c6, .slice B6 gs.length d6]).toArray) (by go_simp) (by go_simp) rfl HTH6.out (by kernel_rfl) (sn3_one _ _ _ rfl rfl) HW6.out ?_)
    refine bodyPost_ret (v := .agg ([.int .i64 time, .slice A6 (ps.set k (lm, qs + 1)).length c6, .slice B6 gs.length d6]).toArray) (results_cell_row rfl _ _ (S0 + 1 + 1) _ _ _ _ rfl HB6.out Tryd.underlying25 rfl (by kernel_rfl)) rfl ?_
    exact HY.out ▸ HRET.out
 have nk1 : (kd == 1) = false := by simpa using kd1
 have HN1 := Lib.hid kd1
 clear kd1
 by_cases kd2 : kd = 2
 · subst kd2
   all_goals
    obtain ⟨k, hpk, hkl⟩ := HFD.out.p1 (by simp)
    simp only at hpk hkl
    obtain ⟨⟨qm, qs⟩, hq⟩ : ∃ q, ps[k]? = some q := ⟨_, List.getElem?_eq_getElem hkl⟩
    have hyy := HYE.out
    rw [show Md.thn ⟨time, ps, gs⟩ ⟨lt, lm, 2, lg, lp, ls⟩ = { (⟨time, ps, gs⟩ : Sn) with ps := Md.setP ps lp 0 } from by simp [Md.thn], hpk, Md.setP_at hq] at hyy
    have HY := Lib.hid hyy
    have HSQ : Hid (0 ≤ qs ∧ qs < 4611686018427387904) := Lib.hid (HSEQ.out.1 _ (List.mem_of_getElem? hq))
    have HQ := Lib.hid hq
    subst hpk
    clear hkl hq hyy
    go_wp2_with fail
    refine (rsetP_in _ ⟨time, ps, gs⟩ k qm qs 0 w1 ⟨A, c, B, d, rfl, H2.out.ext (Ext.refl w1), H3.out.ext (Ext.refl w1)⟩ HP.out HG.out HQ.out HSQ.out).mono ?_
    rintro e w2 ⟨u, rfl, hsn, hx2⟩
    have X2 := Lib.hid hx2
    clear hx2
    obtain ⟨A6, c6, B6, d6, hu6, h26, h36⟩ := hsn
    subst hu6
    have hlay := sn_lay (HX1.out.trans X2.out) (show w.heap.size ≤ S0 + 1 + 1 by have := HS0.out; omega) (X2.out.blk HZ1.out) ⟨A6, c6, B6, d6, rfl, h26, h36⟩
    obtain ⟨hth6, w6, hw6, hb6, hret⟩ := hlay
    have HTH6 := Lib.hid hth6
    have HW6 := Lib.hid hw6
    have HB6 := Lib.hid hb6
    have HRET := Lib.hid hret
    clear h26 h36 hth6 hw6 hb6 hret c0 c1 c2 m1 m2 m3 m4 m5
    simp only at HTH6 HW6 HB6 HRET
    go_wp2_with (refine wpList_store_rowN rfl 25 _ _ rfl (S0 + 1 + 1) 0 [.int .i64 time, .slice A6 (ps.set k (0, qs + 1)).length c6, .slice B6 gs.length d6] (.agg ([.int .i64 time, .slice A6 (ps.set k (0, qs + 1)).length c6, .slice B6 gs.length d6]).toArray) (by go_simp) (by go_simp) rfl HTH6.out (by kernel_rfl) (sn3_one _ _ _ rfl rfl) HW6.out ?_)
    refine bodyPost_ret (v := .agg ([.int .i64 time, .slice A6 (ps.set k (0, qs + 1)).length c6, .slice B6 gs.length d6]).toArray) (results_cell_row rfl _ _ (S0 + 1 + 1) _ _ _ _ rfl HB6.out Tryd.underlying25 rfl (by kernel_rfl)) rfl ?_
    exact HY.out ▸ HRET.out
 have nk2 : (kd == 2) = false := by simpa using kd2
 have HN2 := Lib.hid kd2
 clear kd2
 by_cases kd3 : kd = 3
 · subst kd3
   all_goals
    have hyy := HYE.out
    rw [show Md.thn ⟨time, ps, gs⟩ ⟨lt, lm, 3, lg, lp, ls⟩ = { (⟨time, ps, gs⟩ : Sn) with gs := gs.insertIdx (Md.gpos gs lg) (lg, 1, 0, 0) } from by simp [Md.thn], ← Md.withF_eq HRI.out (HFD.out.n3 rfl)] at hyy
    have HY := Lib.hid hyy
    clear hyy
    go_wp2_with fail
    refine (rwith_any _ ⟨time, ps, gs⟩ lg w1 ⟨A, c, B, d, rfl, H2.out.ext (Ext.refl w1), H3.out.ext (Ext.refl w1)⟩ HP.out HG.out _ rfl).mono ?_
    rintro e w2 ⟨u, rfl, hsn, hx2⟩
    have X2 := Lib.hid hx2
    clear hx2
    obtain ⟨A6, c6, B6, d6, hu6, h26, h36⟩ := hsn
    subst hu6
    have hlay := sn_lay (HX1.out.trans X2.out) (show w.heap.size ≤ S0 + 1 + 1 by have := HS0.out; omega) (X2.out.blk HZ1.out) ⟨A6, c6, B6, d6, rfl, h26, h36⟩
    obtain ⟨hth6, w6, hw6, hb6, hret⟩ := hlay
    have HTH6 := Lib.hid hth6
    have HW6 := Lib.hid hw6
    have HB6 := Lib.hid hb6
    have HRET := Lib.hid hret
    clear h26 h36 hth6 hw6 hb6 hret c0 c1 c2 m1 m2 m3 m4 m5
    simp only at HTH6 HW6 HB6 HRET
    go_wp2_with (refine wpList_store_rowN rfl 25 _ _ rfl (S0 + 1 + 1) 0 [.int .i64 time, .slice A6 ps.length c6, .slice B6 (Md.withF gs lg).length d6] (.agg ([.int .i64 time, .slice A6 ps.length c6, .slice B6 (Md.withF gs lg).length d6]).toArray) (by go_simp) (by go_simp) rfl HTH6.out (by kernel_rfl) (sn3_one _ _ _ rfl rfl) HW6.out ?_)
    refine bodyPost_ret (v := .agg ([.int .i64 time, .slice A6 ps.length c6, .slice B6 (Md.withF gs lg).length d6]).toArray) (results_cell_row rfl _ _ (S0 + 1 + 1) _ _ _ _ rfl HB6.out Tryd.underlying25 rfl (by kernel_rfl)) rfl ?_
    exact HY.out ▸ HRET.out
 have nk3 : (kd == 3) = false := by simpa using kd3
 have HN3 := Lib.hid kd3
 clear kd3
 by_cases kd4 : kd = 4
 · subst kd4
   all_goals
    obtain ⟨k, hk⟩ := HFD.out.g1 (by simp)
    obtain ⟨⟨qg, qst, qm, qs⟩, hq, hqg, -⟩ := Md.fnd_some hk
    have hyy := HYE.out
    rw [show Md.thn ⟨time, ps, gs⟩ ⟨lt, lm, 4, lg, lp, ls⟩ = { (⟨time, ps, gs⟩ : Sn) with gs := Md.setG gs lg 2 lm } from by simp [Md.thn], Md.setG_at hk hq] at hyy
    have HY := Lib.hid hyy
    have HSQ : Hid (0 ≤ qs ∧ qs < 4611686018427387904) := Lib.hid (HSEQ.out.2 _ (List.mem_of_getElem? hq))
    have HQ := Lib.hid hq
    have HK := Lib.hid hk
    clear hk hq hqg hyy
    go_wp2_with fail
    refine (rsetG_in _ ⟨time, ps, gs⟩ k lg 2 lm qg qst qm qs w1 ⟨A, c, B, d, rfl, H2.out.ext (Ext.refl w1), H3.out.ext (Ext.refl w1)⟩ HP.out HG.out HQ.out HK.out HSQ.out).mono ?_
    rintro e w2 ⟨u, rfl, hsn, hx2⟩
    have X2 := Lib.hid hx2
    clear hx2
    obtain ⟨A6, c6, B6, d6, hu6, h26, h36⟩ := hsn
    subst hu6
    have hlay := sn_lay (HX1.out.trans X2.out) (show w.heap.size ≤ S0 + 1 + 1 by have := HS0.out; omega) (X2.out.blk HZ1.out) ⟨A6, c6, B6, d6, rfl, h26, h36⟩
    obtain ⟨hth6, w6, hw6, hb6, hret⟩ := hlay
    have HTH6 := Lib.hid hth6
    have HW6 := Lib.hid hw6
    have HB6 := Lib.hid hb6
    have HRET := Lib.hid hret
    clear h26 h36 hth6 hw6 hb6 hret c0 c1 c2 m1 m2 m3 m4 m5
    simp only at HTH6 HW6 HB6 HRET
    go_wp2_with (refine wpList_store_rowN rfl 25 _ _ rfl (S0 + 1 + 1) 0 [.int .i64 time, .slice A6 ps.length c6, .slice B6 (gs.set k (lg, 2, lm, qs + 1)).length d6] (.agg ([.int .i64 time, .slice A6 ps.length c6, .slice B6 (gs.set k (lg, 2, lm, qs + 1)).length d6]).toArray) (by go_simp) (by go_simp) rfl HTH6.out (by kernel_rfl) (sn3_one _ _ _ rfl rfl) HW6.out ?_)
    refine bodyPost_ret (v := .agg ([.int .i64 time, .slice A6 ps.length c6, .slice B6 (gs.set k (lg, 2, lm, qs + 1)).length d6]).toArray) (results_cell_row rfl _ _ (S0 + 1 + 1) _ _ _ _ rfl HB6.out Tryd.underlying25 rfl (by kernel_rfl)) rfl ?_
    exact HY.out ▸ HRET.out
 have nk4 : (kd == 4) = false := by simpa using kd4
 have HN4 := Lib.hid kd4
 clear kd4
 by_cases kd5 : kd = 5
 · subst kd5
   all_goals
    obtain ⟨k, hk⟩ := HFD.out.g1 (by simp)
    obtain ⟨⟨qg, qst, qm, qs⟩, hq, hqg, -⟩ := Md.fnd_some hk
    have hyy := HYE.out
    rw [show Md.thn ⟨time, ps, gs⟩ ⟨lt, lm, 5, lg, lp, ls⟩ = { (⟨time, ps, gs⟩ : Sn) with gs := Md.setG gs lg 1 0 } from by simp [Md.thn], Md.setG_at hk hq] at hyy
    have HY := Lib.hid hyy
    have HSQ : Hid (0 ≤ qs ∧ qs < 4611686018427387904) := Lib.hid (HSEQ.out.2 _ (List.mem_of_getElem? hq))
    have HQ := Lib.hid hq
    have HK := Lib.hid hk
    clear hk hq hqg hyy
    go_wp2_with fail
    refine (rsetG_in _ ⟨time, ps, gs⟩ k lg 1 0 qg qst qm qs w1 ⟨A, c, B, d, rfl, H2.out.ext (Ext.refl w1), H3.out.ext (Ext.refl w1)⟩ HP.out HG.out HQ.out HK.out HSQ.out).mono ?_
    rintro e w2 ⟨u, rfl, hsn, hx2⟩
    have X2 := Lib.hid hx2
    clear hx2
    obtain ⟨A6, c6, B6, d6, hu6, h26, h36⟩ := hsn
    subst hu6
    have hlay := sn_lay (HX1.out.trans X2.out) (show w.heap.size ≤ S0 + 1 + 1 by have := HS0.out; omega) (X2.out.blk HZ1.out) ⟨A6, c6, B6, d6, rfl, h26, h36⟩
    obtain ⟨hth6, w6, hw6, hb6, hret⟩ := hlay
    have HTH6 := Lib.hid hth6
    have HW6 := Lib.hid hw6
    have HB6 := Lib.hid hb6
    have HRET := Lib.hid hret
    clear h26 h36 hth6 hw6 hb6 hret c0 c1 c2 m1 m2 m3 m4 m5
    simp only at HTH6 HW6 HB6 HRET
    go_wp2_with (refine wpList_store_rowN rfl 25 _ _ rfl (S0 + 1 + 1) 0 [.int .i64 time, .slice A6 ps.length c6, .slice B6 (gs.set k (lg, 1, 0, qs + 1)).length d6] (.agg ([.int .i64 time, .slice A6 ps.length c6, .slice B6 (gs.set k (lg, 1, 0, qs + 1)).length d6]).toArray) (by go_simp) (by go_simp) rfl HTH6.out (by kernel_rfl) (sn3_one _ _ _ rfl rfl) HW6.out ?_)
    refine bodyPost_ret (v := .agg ([.int .i64 time, .slice A6 ps.length c6, .slice B6 (gs.set k (lg, 1, 0, qs + 1)).length d6]).toArray) (results_cell_row rfl _ _ (S0 + 1 + 1) _ _ _ _ rfl HB6.out Tryd.underlying25 rfl (by kernel_rfl)) rfl ?_
    exact HY.out ▸ HRET.out
 have nk5 : (kd == 5) = false := by simpa using kd5
 have HN5 := Lib.hid kd5
 clear kd5
 by_cases kd6 : kd = 6
 · subst kd6
   all_goals
    obtain ⟨k, hk⟩ := HFD.out.g1 (by simp)
    obtain ⟨⟨qg, qst, qm, qs⟩, hq, hqg, -⟩ := Md.fnd_some hk
    have hyy := HYE.out
    rw [show Md.thn ⟨time, ps, gs⟩ ⟨lt, lm, 6, lg, lp, ls⟩ = { (⟨time, ps, gs⟩ : Sn) with gs := Md.setG gs lg 3 0 } from by simp [Md.thn], Md.setG_at hk hq] at hyy
    have HY := Lib.hid hyy
    have HSQ : Hid (0 ≤ qs ∧ qs < 4611686018427387904) := Lib.hid (HSEQ.out.2 _ (List.mem_of_getElem? hq))
    have HQ := Lib.hid hq
    have HK := Lib.hid hk
    clear hk hq hqg hyy
    go_wp2_with fail
    refine (rsetG_in _ ⟨time, ps, gs⟩ k lg 3 0 qg qst qm qs w1 ⟨A, c, B, d, rfl, H2.out.ext (Ext.refl w1), H3.out.ext (Ext.refl w1)⟩ HP.out HG.out HQ.out HK.out HSQ.out).mono ?_
    rintro e w2 ⟨u, rfl, hsn, hx2⟩
    have X2 := Lib.hid hx2
    clear hx2
    obtain ⟨A6, c6, B6, d6, hu6, h26, h36⟩ := hsn
    subst hu6
    have hlay := sn_lay (HX1.out.trans X2.out) (show w.heap.size ≤ S0 + 1 + 1 by have := HS0.out; omega) (X2.out.blk HZ1.out) ⟨A6, c6, B6, d6, rfl, h26, h36⟩
    obtain ⟨hth6, w6, hw6, hb6, hret⟩ := hlay
    have HTH6 := Lib.hid hth6
    have HW6 := Lib.hid hw6
    have HB6 := Lib.hid hb6
    have HRET := Lib.hid hret
    clear h26 h36 hth6 hw6 hb6 hret c0 c1 c2 m1 m2 m3 m4 m5
    simp only at HTH6 HW6 HB6 HRET
    go_wp2_with (refine wpList_store_rowN rfl 25 _ _ rfl (S0 + 1 + 1) 0 [.int .i64 time, .slice A6 ps.length c6, .slice B6 (gs.set k (lg, 3, 0, qs + 1)).length d6] (.agg ([.int .i64 time, .slice A6 ps.length c6, .slice B6 (gs.set k (lg, 3, 0, qs + 1)).length d6]).toArray) (by go_simp) (by go_simp) rfl HTH6.out (by kernel_rfl) (sn3_one _ _ _ rfl rfl) HW6.out ?_)
    refine bodyPost_ret (v := .agg ([.int .i64 time, .slice A6 ps.length c6, .slice B6 (gs.set k (lg, 3, 0, qs + 1)).length d6]).toArray) (results_cell_row rfl _ _ (S0 + 1 + 1) _ _ _ _ rfl HB6.out Tryd.underlying25 rfl (by kernel_rfl)) rfl ?_
    exact HY.out ▸ HRET.out
 have nk6 : (kd == 6) = false := by simpa using kd6
 have HN6 := Lib.hid kd6
 clear kd6
 by_cases kd7 : kd = 7
 · subst kd7
   all_goals
    obtain ⟨k, hk⟩ := HFD.out.g1 (by simp)
    obtain ⟨⟨qg, qst, qm, qs⟩, hq, hqg, -⟩ := Md.fnd_some hk
    have hyy := HYE.out
    rw [show Md.thn ⟨time, ps, gs⟩ ⟨lt, lm, 7, lg, lp, ls⟩ = { (⟨time, ps, gs⟩ : Sn) with gs := Md.setG gs lg 1 0 } from by simp [Md.thn], Md.setG_at hk hq] at hyy
    have HY := Lib.hid hyy
    have HSQ : Hid (0 ≤ qs ∧ qs < 4611686018427387904) := Lib.hid (HSEQ.out.2 _ (List.mem_of_getElem? hq))
    have HQ := Lib.hid hq
    have HK := Lib.hid hk
    clear hk hq hqg hyy
    go_wp2_with fail
    refine (rsetG_in _ ⟨time, ps, gs⟩ k lg 1 0 qg qst qm qs w1 ⟨A, c, B, d, rfl, H2.out.ext (Ext.refl w1), H3.out.ext (Ext.refl w1)⟩ HP.out HG.out HQ.out HK.out HSQ.out).mono ?_
    rintro e w2 ⟨u, rfl, hsn, hx2⟩
    have X2 := Lib.hid hx2
    clear hx2
    obtain ⟨A6, c6, B6, d6, hu6, h26, h36⟩ := hsn
    subst hu6
    have hlay := sn_lay (HX1.out.trans X2.out) (show w.heap.size ≤ S0 + 1 + 1 by have := HS0.out; omega) (X2.out.blk HZ1.out) ⟨A6, c6, B6, d6, rfl, h26, h36⟩
    obtain ⟨hth6, w6, hw6, hb6, hret⟩ := hlay
    have HTH6 := Lib.hid hth6
    have HW6 := Lib.hid hw6
    have HB6 := Lib.hid hb6
    have HRET := Lib.hid hret
    clear h26 h36 hth6 hw6 hb6 hret c0 c1 c2 m1 m2 m3 m4 m5
    simp only at HTH6 HW6 HB6 HRET
    go_wp2_with (refine wpList_store_rowN rfl 25 _ _ rfl (S0 + 1 + 1) 0 [.int .i64 time, .slice A6 ps.length c6, .slice B6 (gs.set k (lg, 1, 0, qs + 1)).length d6] (.agg ([.int .i64 time, .slice A6 ps.length c6, .slice B6 (gs.set k (lg, 1, 0, qs + 1)).length d6]).toArray) (by go_simp) (by go_simp) rfl HTH6.out (by kernel_rfl) (sn3_one _ _ _ rfl rfl) HW6.out ?_)
    refine bodyPost_ret (v := .agg ([.int .i64 time, .slice A6 ps.length c6, .slice B6 (gs.set k (lg, 1, 0, qs + 1)).length d6]).toArray) (results_cell_row rfl _ _ (S0 + 1 + 1) _ _ _ _ rfl HB6.out Tryd.underlying25 rfl (by kernel_rfl)) rfl ?_
    exact HY.out ▸ HRET.out
 have nk7 : (kd == 7) = false := by simpa using kd7
 have HN7 := Lib.hid kd7
 clear kd7
 by_cases kd8 : kd = 8
 · subst kd8
   all_goals
    have hyy := HYE.out
    rw [show Md.thn ⟨time, ps, gs⟩ ⟨lt, lm, 8, lg, lp, ls⟩ = { (⟨time, ps, gs⟩ : Sn) with gs := gs.eraseIdx (Md.gpos gs lg) } from by simp [Md.thn], ← (Md.wo_eq HRI.out (HFD.out.g1 (by simp)).choose_spec)] at hyy
    have HY := Lib.hid hyy
    clear hyy
    go_wp2_with fail
    refine (rwithout_any _ ⟨time, ps, gs⟩ lg w1 ⟨A, c, B, d, rfl, H2.out.ext (Ext.refl w1), H3.out.ext (Ext.refl w1)⟩ HP.out HG.out _ rfl).mono ?_
    rintro e w2 ⟨u, rfl, hsn, hx2⟩
    have X2 := Lib.hid hx2
    clear hx2
    obtain ⟨A6, c6, B6, d6, hu6, h26, h36⟩ := hsn
    subst hu6
    have hlay := sn_lay (HX1.out.trans X2.out) (show w.heap.size ≤ S0 + 1 + 1 by have := HS0.out; omega) (X2.out.blk HZ1.out) ⟨A6, c6, B6, d6, rfl, h26, h36⟩
    obtain ⟨hth6, w6, hw6, hb6, hret⟩ := hlay
    have HTH6 := Lib.hid hth6
    have HW6 := Lib.hid hw6
    have HB6 := Lib.hid hb6
    have HRET := Lib.hid hret
    clear h26 h36 hth6 hw6 hb6 hret c0 c1 c2 m1 m2 m3 m4 m5
    simp only at HTH6 HW6 HB6 HRET
    go_wp2_with (refine wpList_store_rowN rfl 25 _ _ rfl (S0 + 1 + 1) 0 [.int .i64 time, .slice A6 ps.length c6, .slice B6 (gs.filter (fun y => y.1 != lg)).length d6] (.agg ([.int .i64 time, .slice A6 ps.length c6, .slice B6 (gs.filter (fun y => y.1 != lg)).length d6]).toArray) (by go_simp) (by go_simp) rfl HTH6.out (by kernel_rfl) (sn3_one _ _ _ rfl rfl) HW6.out ?_)
    refine bodyPost_ret (v := .agg ([.int .i64 time, .slice A6 ps.length c6, .slice B6 (gs.filter (fun y => y.1 != lg)).length d6]).toArray) (results_cell_row rfl _ _ (S0 + 1 + 1) _ _ _ _ rfl HB6.out Tryd.underlying25 rfl (by kernel_rfl)) rfl ?_
    exact HY.out ▸ HRET.out
 have nk8 : (kd == 8) = false := by simpa using kd8
 have HN8 := Lib.hid kd8
 clear kd8
 by_cases kd9 : kd = 9
 · subst kd9
   all_goals
    obtain ⟨k, hk⟩ := HFD.out.g1 (by simp)
    obtain ⟨⟨qg, qst, qm, qs⟩, hq, hqg, -⟩ := Md.fnd_some hk
    obtain ⟨j, hpk, hkl⟩ := HFD.out.p1 (by first | (simp; done) | (right; right; right; exact ⟨rfl, HP0.out⟩))
    simp only at hpk hkl
    obtain ⟨⟨qm2, qs2⟩, hq2⟩ : ∃ q, ps[j]? = some q := ⟨_, List.getElem?_eq_getElem hkl⟩
    have hyy := HYE.out
    rw [show Md.thn ⟨time, ps, gs⟩ ⟨lt, lm, 9, lg, lp, ls⟩ = { (⟨time, ps, gs⟩ : Sn) with gs := Md.setG gs lg 4 lm, ps := Md.setP ps lp 0 } from by first | (simp [Md.thn]; done) | (simp [Md.thn, HP0.out]), Md.setG_at hk hq, hpk, Md.setP_at hq2] at hyy
    have HY := Lib.hid hyy
    have HSQ : Hid (0 ≤ qs ∧ qs < 4611686018427387904) := Lib.hid (HSEQ.out.2 _ (List.mem_of_getElem? hq))
    have HSQ2 : Hid (0 ≤ qs2 ∧ qs2 < 4611686018427387904) := Lib.hid (HSEQ.out.1 _ (List.mem_of_getElem? hq2))
    have HQ := Lib.hid hq
    have HQ2 := Lib.hid hq2
    have HK := Lib.hid hk
    subst hpk
    have HGN := HG
    have HGL : Hid ((gs.set k (lg, 4, lm, qs + 1)).length ≤ 10000) := Lib.hid (by rw [List.length_set]; exact HGN.out)
    clear hk hq hqg hyy hkl hq2
    go_upto_region 18 with fail
    clear c0 c1 c2 m1 m2 m3 m4 m5
    have g0 : ∀ v, Ext w1 v → v.cell? ⟨S0, 0, none⟩ = some (.int .i64 time) := fun v hv => blk_cell (hv.blk HB1.out) 0 _ rfl
    have g1 : ∀ v, Ext w1 v → v.cell? ⟨S0, 1, none⟩ = some (.slice A ps.length c) := fun v hv => blk_cell (hv.blk HB1.out) 1 _ rfl
    have g2 : ∀ v, Ext w1 v → v.cell? ⟨S0, 2, none⟩ = some (.slice B gs.length d) := fun v hv => blk_cell (hv.blk HB1.out) 2 _ rfl
    have gm1 : ∀ v, Ext w1 v → v.cell? ⟨S0 + 1, 1, none⟩ = some (.int .i64 lm) := fun v hv => blk_cell (hv.blk HL1.out) 1 _ rfl
    have gm3 : ∀ v, Ext w1 v → v.cell? ⟨S0 + 1, 3, none⟩ = some (.int .i64 lg) := fun v hv => blk_cell (hv.blk HL1.out) 3 _ rfl
    have gm4 : ∀ v, Ext w1 v → v.cell? ⟨S0 + 1, 4, none⟩ = some (.int .i64 ((j : Int) + 1)) := fun v hv => blk_cell (hv.blk HL1.out) 4 _ rfl
    refine region_gq 9 (fun v => Ext w1 v) (fun v => Ext w1 v) (by kernel_rfl) (Ext.refl w1).drew (fun _ _ d _ _ h => by cases d <;> exact h) ?_
    intro Q9 HQE HQP
    have HGA : ∀ (l : Array Bool) v, Ext w1 v → l.getD 9 false = false → Ext w1 v := fun _ _ h _ => h
    have HG := HGA
    refine g_tk 0 (v := ?_) HG HQP (fun w hS => ?_) ?_
    rotate_left 1
    · go_simp; refine gives_mk ?_ rfl; with_reducible rfl
    refine g_tk 1 (v := ?_) HG HQP (fun w hS => ?_) ?_
    rotate_left 1
    · go_simp; refine gives_mk ?_ rfl; with_reducible rfl
    refine g_tk 2 (v := ?_) HG HQP (fun w hS => ?_) ?_
    rotate_left 1
    · go_simp; refine gives_mk ?_ rfl; with_reducible rfl
    refine g_tk 3 (v := ?_) HG HQP (fun w hS => ?_) ?_
    rotate_left 1
    · go_simp; refine gives_mk ?_ rfl; with_reducible rfl
    refine g_tk 4 (v := ?_) HG HQP (fun w hS => ?_) ?_
    rotate_left 1
    · go_simp; refine gives_mk ?_ rfl; with_reducible rfl
    refine g_tk 6 (v := ?_) HG HQP (fun w hS => ?_) ?_
    rotate_left 1
    · go_simp; refine gives_mk ?_ rfl; with_reducible rfl
    refine g_tk 7 (v := ?_) HG HQP (fun w hS => ?_) ?_
    rotate_left 1
    · go_simp; refine gives_mk ?_ rfl; with_reducible rfl
    refine g_mid (fun v w' => SnAt w' v { (⟨time, ps, gs⟩ : Sn) with gs := (gs.set k (lg, 4, lm, qs + 1)) } ∧ Ext w1 w') (k := 5) (by kernel_rfl) (fun _ _ h _ => h.2) rfl (by kernel_rfl) (fun w hS R hR => ?_) (fun v hv => ?_)
    · have HR := Lib.hid hR
      clear hR
      go_simp
      refine givesM_call ((rsetG_in _ ⟨time, ps, gs⟩ k lg 4 lm qg qst qm qs w ⟨A, c, B, d, rfl, H2.out.ext hS, H3.out.ext hS⟩ HP.out HGN.out HQ.out HK.out HSQ.out).mono ?_)
      rintro e w' ⟨u, rfl, hsn, hx⟩
      exact ⟨_, rfl, HR.out _ _ ⟨hsn, hS.trans hx⟩⟩
    obtain ⟨A5, c5, B5, d5, rfl⟩ : ∃ A5 c5 B5 d5, v = .agg #[.int .i64 time, .slice A5 ps.length c5, .slice B5 gs.length d5] := by
     obtain ⟨_, ⟨A5, c5, B5, d5, h, _⟩, _⟩ := hv
     exact ⟨A5, c5, B5, d5, by simpa using h⟩
    clear hv
    have HGB : ∀ (l : Array Bool) v, (SnAt v (.agg #[.int .i64 time, .slice A5 ps.length c5, .slice B5 gs.length d5]) { (⟨time, ps, gs⟩ : Sn) with gs := (gs.set k (lg, 4, lm, qs + 1)) } ∧ Ext w1 v) → l.getD 9 false = false → Ext w1 v := fun _ _ h _ => h.2
    refine g_mid (fun v w' => SnAt w' v { (⟨time, ps, gs⟩ : Sn) with gs := (gs.set k (lg, 4, lm, qs + 1)), ps := (ps.set j (0, qs2 + 1)) } ∧ Ext w1 w') (k := 8) (by kernel_rfl) (fun _ _ h _ => h.2) rfl (by kernel_rfl) (fun w hS R hR => ?_) (fun v hv => ?_)
    · have HR := Lib.hid hR
      clear hR
      go_simp
      refine givesM_call ((rsetP_in _ { (⟨time, ps, gs⟩ : Sn) with gs := (gs.set k (lg, 4, lm, qs + 1)) } j qm2 qs2 0 w hS.1 HP.out HGL.out HQ2.out HSQ2.out).mono ?_)
      rintro e w' ⟨u, rfl, hsn, hx⟩
      exact ⟨_, rfl, HR.out _ _ ⟨hsn, hS.2.trans hx⟩⟩
    obtain ⟨A6, c6, B6, d6, rfl⟩ : ∃ A6 c6 B6 d6, v = .agg #[.int .i64 time, .slice A6 ps.length c6, .slice B6 gs.length d6] := by
     obtain ⟨_, ⟨A5, c5, B5, d5, h, _⟩, _⟩ := hv
     exact ⟨A5, c5, B5, d5, by simpa using h⟩
    clear hv
    refine g_end (k := 9) (by kernel_rfl) (by kernel_rfl) (by kernel_rfl) rfl (by kernel_rfl) (fun w9 hS R hR => ?_)
    have HR := Lib.hid hR
    clear hR
    obtain ⟨hth6, w6, hw6, hb6, hret⟩ := sn_lay (y := { (⟨time, ps, gs⟩ : Sn) with gs := (gs.set k (lg, 4, lm, qs + 1)), ps := (ps.set j (0, qs2 + 1)) }) (HX1.out.trans hS.2) (show w.heap.size ≤ S0 + 1 + 1 by have := HS0.out; omega) (hS.2.blk HZ1.out) (by simpa using hS.1)
    simp only [List.length_set] at hth6 hw6 hb6 hret
    have HB6 := Lib.hid hb6
    have HRET := Lib.hid hret
    refine givesM_store 25 _ _ rfl (S0 + 1 + 1) 0 (by go_simp) [.int .i64 time, .slice A6 ps.length c6, .slice B6 gs.length d6] (by go_simp) hth6 (by kernel_rfl) (sn3_one _ _ _ rfl rfl) ?_
    rw [hw6]
    clear hth6 hw6 hb6 hret hS
    refine HR.out _ _ ?_
    have hq9 := HQE.out
    subst hq9
    clear HQE HQP
    go_simp
    go_wp2
    refine bodyPost_ret (v := .agg ([.int .i64 time, .slice A6 ps.length c6, .slice B6 gs.length d6]).toArray) (results_cell_row rfl _ _ (S0 + 1 + 1) _ _ _ _ rfl HB6.out Tryd.underlying25 rfl (by kernel_rfl)) rfl ?_
    exact HY.out ▸ HRET.out
 have nk9 : (kd == 9) = false := by simpa using kd9
 have HN9 := Lib.hid kd9
 clear kd9
 by_cases kd10 : kd = 10
 · subst kd10
   all_goals
    by_cases hp0 : lp = 0
    · subst hp0
      obtain ⟨k, hk⟩ := HFD.out.g1 (by simp)
      obtain ⟨⟨qg, qst, qm, qs⟩, hq, hqg, -⟩ := Md.fnd_some hk
      have hyy := HYE.out
      rw [show Md.thn ⟨time, ps, gs⟩ ⟨lt, lm, 10, lg, 0, ls⟩ = { (⟨time, ps, gs⟩ : Sn) with gs := Md.setG gs lg 1 0 } from by simp [Md.thn], Md.setG_at hk hq] at hyy
      have HY := Lib.hid hyy
      have HSQ : Hid (0 ≤ qs ∧ qs < 4611686018427387904) := Lib.hid (HSEQ.out.2 _ (List.mem_of_getElem? hq))
      have HQ := Lib.hid hq
      have HK := Lib.hid hk
      clear hk hq hqg hyy
      go_wp2_with fail
      refine (rsetG_in _ ⟨time, ps, gs⟩ k lg 1 0 qg qst qm qs w1 ⟨A, c, B, d, rfl, H2.out.ext (Ext.refl w1), H3.out.ext (Ext.refl w1)⟩ HP.out HG.out HQ.out HK.out HSQ.out).mono ?_
      rintro e w2 ⟨u, rfl, hsn, hx2⟩
      have X2 := Lib.hid hx2
      clear hx2
      obtain ⟨A6, c6, B6, d6, hu6, h26, h36⟩ := hsn
      subst hu6
      have hlay := sn_lay (HX1.out.trans X2.out) (show w.heap.size ≤ S0 + 1 + 1 by have := HS0.out; omega) (X2.out.blk HZ1.out) ⟨A6, c6, B6, d6, rfl, h26, h36⟩
      obtain ⟨hth6, w6, hw6, hb6, hret⟩ := hlay
      have HTH6 := Lib.hid hth6
      have HW6 := Lib.hid hw6
      have HB6 := Lib.hid hb6
      have HRET := Lib.hid hret
      clear h26 h36 hth6 hw6 hb6 hret c0 c1 c2 m1 m2 m3 m4 m5
      simp only at HTH6 HW6 HB6 HRET
      go_wp2_with (refine wpList_store_rowN rfl 25 _ _ rfl (S0 + 1 + 1) 0 [.int .i64 time, .slice A6 ps.length c6, .slice B6 (gs.set k (lg, 1, 0, qs + 1)).length d6] (.agg ([.int .i64 time, .slice A6 ps.length c6, .slice B6 (gs.set k (lg, 1, 0, qs + 1)).length d6]).toArray) (by go_simp) (by go_simp) rfl HTH6.out (by kernel_rfl) (sn3_one _ _ _ rfl rfl) HW6.out ?_)
      refine bodyPost_ret (v := .agg ([.int .i64 time, .slice A6 ps.length c6, .slice B6 (gs.set k (lg, 1, 0, qs + 1)).length d6]).toArray) (results_cell_row rfl _ _ (S0 + 1 + 1) _ _ _ _ rfl HB6.out Tryd.underlying25 rfl (by kernel_rfl)) rfl ?_
      exact HY.out ▸ HRET.out
    · have n0 : (lp == 0) = false := by simpa using hp0
      have HP0 := Lib.hid hp0
      clear hp0
      obtain ⟨k, hk⟩ := HFD.out.g1 (by simp)
      obtain ⟨⟨qg, qst, qm, qs⟩, hq, hqg, -⟩ := Md.fnd_some hk
      obtain ⟨j, hpk, hkl⟩ := HFD.out.p1 (by first | (simp; done) | (right; right; right; exact ⟨rfl, HP0.out⟩))
      simp only at hpk hkl
      obtain ⟨⟨qm2, qs2⟩, hq2⟩ : ∃ q, ps[j]? = some q := ⟨_, List.getElem?_eq_getElem hkl⟩
      have hyy := HYE.out
      rw [show Md.thn ⟨time, ps, gs⟩ ⟨lt, lm, 10, lg, lp, ls⟩ = { (⟨time, ps, gs⟩ : Sn) with gs := Md.setG gs lg 2 lm, ps := Md.setP ps lp lm } from by first | (simp [Md.thn]; done) | (simp [Md.thn, HP0.out]), Md.setG_at hk hq, hpk, Md.setP_at hq2] at hyy
      have HY := Lib.hid hyy
      have HSQ : Hid (0 ≤ qs ∧ qs < 4611686018427387904) := Lib.hid (HSEQ.out.2 _ (List.mem_of_getElem? hq))
      have HSQ2 : Hid (0 ≤ qs2 ∧ qs2 < 4611686018427387904) := Lib.hid (HSEQ.out.1 _ (List.mem_of_getElem? hq2))
      have HQ := Lib.hid hq
      have HQ2 := Lib.hid hq2
      have HK := Lib.hid hk
      subst hpk
      have HGN := HG
      have HGL : Hid ((gs.set k (lg, 2, lm, qs + 1)).length ≤ 10000) := Lib.hid (by rw [List.length_set]; exact HGN.out)
      clear hk hq hqg hyy hkl hq2
      go_upto_region 21 with fail
      clear c0 c1 c2 m1 m2 m3 m4 m5
      have g0 : ∀ v, Ext w1 v → v.cell? ⟨S0, 0, none⟩ = some (.int .i64 time) := fun v hv => blk_cell (hv.blk HB1.out) 0 _ rfl
      have g1 : ∀ v, Ext w1 v → v.cell? ⟨S0, 1, none⟩ = some (.slice A ps.length c) := fun v hv => blk_cell (hv.blk HB1.out) 1 _ rfl
      have g2 : ∀ v, Ext w1 v → v.cell? ⟨S0, 2, none⟩ = some (.slice B gs.length d) := fun v hv => blk_cell (hv.blk HB1.out) 2 _ rfl
      have gm1 : ∀ v, Ext w1 v → v.cell? ⟨S0 + 1, 1, none⟩ = some (.int .i64 lm) := fun v hv => blk_cell (hv.blk HL1.out) 1 _ rfl
      have gm3 : ∀ v, Ext w1 v → v.cell? ⟨S0 + 1, 3, none⟩ = some (.int .i64 lg) := fun v hv => blk_cell (hv.blk HL1.out) 3 _ rfl
      have gm4 : ∀ v, Ext w1 v → v.cell? ⟨S0 + 1, 4, none⟩ = some (.int .i64 ((j : Int) + 1)) := fun v hv => blk_cell (hv.blk HL1.out) 4 _ rfl
      refine region_gq 11 (fun v => Ext w1 v) (fun v => Ext w1 v) (by kernel_rfl) (Ext.refl w1).drew (fun _ _ d _ _ h => by cases d <;> exact h) ?_
      intro Q9 HQE HQP
      have HGA : ∀ (l : Array Bool) v, Ext w1 v → l.getD 11 false = false → Ext w1 v := fun _ _ h _ => h
      have HG := HGA
      refine g_tk 0 (v := ?_) HG HQP (fun w hS => ?_) ?_
      rotate_left 1
      · go_simp; refine gives_mk ?_ rfl; with_reducible rfl
      refine g_tk 1 (v := ?_) HG HQP (fun w hS => ?_) ?_
      rotate_left 1
      · go_simp; refine gives_mk ?_ rfl; with_reducible rfl
      refine g_tk 2 (v := ?_) HG HQP (fun w hS => ?_) ?_
      rotate_left 1
      · go_simp; refine gives_mk ?_ rfl; with_reducible rfl
      refine g_tk 3 (v := ?_) HG HQP (fun w hS => ?_) ?_
      rotate_left 1
      · go_simp; refine gives_mk ?_ rfl; with_reducible rfl
      refine g_tk 4 (v := ?_) HG HQP (fun w hS => ?_) ?_
      rotate_left 1
      · go_simp; refine gives_mk ?_ rfl; with_reducible rfl
      refine g_tk 6 (v := ?_) HG HQP (fun w hS => ?_) ?_
      rotate_left 1
      · go_simp; refine gives_mk ?_ rfl; with_reducible rfl
      refine g_tk 7 (v := ?_) HG HQP (fun w hS => ?_) ?_
      rotate_left 1
      · go_simp; refine gives_mk ?_ rfl; with_reducible rfl
      refine g_tk 8 (v := ?_) HG HQP (fun w hS => ?_) ?_
      rotate_left 1
      · go_simp; refine gives_mk ?_ rfl; with_reducible rfl
      refine g_tk 9 (v := ?_) HG HQP (fun w hS => ?_) ?_
      rotate_left 1
      · go_simp; refine gives_mk ?_ rfl; with_reducible rfl
      refine g_mid (fun v w' => SnAt w' v { (⟨time, ps, gs⟩ : Sn) with gs := (gs.set k (lg, 2, lm, qs + 1)) } ∧ Ext w1 w') (k := 5) (by kernel_rfl) (fun _ _ h _ => h.2) rfl (by kernel_rfl) (fun w hS R hR => ?_) (fun v hv => ?_)
      · have HR := Lib.hid hR
        clear hR
        go_simp
        refine givesM_call ((rsetG_in _ ⟨time, ps, gs⟩ k lg 2 lm qg qst qm qs w ⟨A, c, B, d, rfl, H2.out.ext hS, H3.out.ext hS⟩ HP.out HGN.out HQ.out HK.out HSQ.out).mono ?_)
        rintro e w' ⟨u, rfl, hsn, hx⟩
        exact ⟨_, rfl, HR.out _ _ ⟨hsn, hS.trans hx⟩⟩
      obtain ⟨A5, c5, B5, d5, rfl⟩ : ∃ A5 c5 B5 d5, v = .agg #[.int .i64 time, .slice A5 ps.length c5, .slice B5 gs.length d5] := by
       obtain ⟨_, ⟨A5, c5, B5, d5, h, _⟩, _⟩ := hv
       exact ⟨A5, c5, B5, d5, by simpa using h⟩
      clear hv
      have HGB : ∀ (l : Array Bool) v, (SnAt v (.agg #[.int .i64 time, .slice A5 ps.length c5, .slice B5 gs.length d5]) { (⟨time, ps, gs⟩ : Sn) with gs := (gs.set k (lg, 2, lm, qs + 1)) } ∧ Ext w1 v) → l.getD 11 false = false → Ext w1 v := fun _ _ h _ => h.2
      refine g_mid (fun v w' => SnAt w' v { (⟨time, ps, gs⟩ : Sn) with gs := (gs.set k (lg, 2, lm, qs + 1)), ps := (ps.set j (lm, qs2 + 1)) } ∧ Ext w1 w') (k := 10) (by kernel_rfl) (fun _ _ h _ => h.2) rfl (by kernel_rfl) (fun w hS R hR => ?_) (fun v hv => ?_)
      · have HR := Lib.hid hR
        clear hR
        go_simp
        refine givesM_call ((rsetP_in _ { (⟨time, ps, gs⟩ : Sn) with gs := (gs.set k (lg, 2, lm, qs + 1)) } j qm2 qs2 lm w hS.1 HP.out HGL.out HQ2.out HSQ2.out).mono ?_)
        rintro e w' ⟨u, rfl, hsn, hx⟩
        exact ⟨_, rfl, HR.out _ _ ⟨hsn, hS.2.trans hx⟩⟩
      obtain ⟨A6, c6, B6, d6, rfl⟩ : ∃ A6 c6 B6 d6, v = .agg #[.int .i64 time, .slice A6 ps.length c6, .slice B6 gs.length d6] := by
       obtain ⟨_, ⟨A5, c5, B5, d5, h, _⟩, _⟩ := hv
       exact ⟨A5, c5, B5, d5, by simpa using h⟩
      clear hv
      refine g_end (k := 11) (by kernel_rfl) (by kernel_rfl) (by kernel_rfl) rfl (by kernel_rfl) (fun w9 hS R hR => ?_)
      have HR := Lib.hid hR
      clear hR
      obtain ⟨hth6, w6, hw6, hb6, hret⟩ := sn_lay (y := { (⟨time, ps, gs⟩ : Sn) with gs := (gs.set k (lg, 2, lm, qs + 1)), ps := (ps.set j (lm, qs2 + 1)) }) (HX1.out.trans hS.2) (show w.heap.size ≤ S0 + 1 + 1 by have := HS0.out; omega) (hS.2.blk HZ1.out) (by simpa using hS.1)
      simp only [List.length_set] at hth6 hw6 hb6 hret
      have HB6 := Lib.hid hb6
      have HRET := Lib.hid hret
      refine givesM_store 25 _ _ rfl (S0 + 1 + 1) 0 (by go_simp) [.int .i64 time, .slice A6 ps.length c6, .slice B6 gs.length d6] (by go_simp) hth6 (by kernel_rfl) (sn3_one _ _ _ rfl rfl) ?_
      rw [hw6]
      clear hth6 hw6 hb6 hret hS
      refine HR.out _ _ ?_
      have hq9 := HQE.out
      subst hq9
      clear HQE HQP
      go_simp
      go_wp2
      refine bodyPost_ret (v := .agg ([.int .i64 time, .slice A6 ps.length c6, .slice B6 gs.length d6]).toArray) (results_cell_row rfl _ _ (S0 + 1 + 1) _ _ _ _ rfl HB6.out Tryd.underlying25 rfl (by kernel_rfl)) rfl ?_
      exact HY.out ▸ HRET.out
 have nk10 : (kd == 10) = false := by simpa using kd10
 have HN10 := Lib.hid kd10
 clear kd10
 exfalso
 have := HFD.out.kinds
 have := HN1.out
 have := HN2.out
 have := HN3.out
 have := HN4.out
 have := HN5.out
 have := HN6.out
 have := HN7.out
 have := HN8.out
 have := HN9.out
 have := HN10.out
 simp only at *
 omega
section
variable {P : Program} {ops : Array Oper} {Q : Exit → Act → World → Prop}
def LowSame (M : Nat) (w w' : World) : Prop := ∀ b, b < M → w'.heap[b]? = w.heap[b]?
theorem LowSame.ext {M : Nat} {w w' : World} (h : Ext w w') (hM : M ≤ w.heap.size) : LowSame M w w' := fun b hb => h.block b (by omega)
def chgOfM (w0 : World) (M : Nat) : List (Nat × Nat × List Nat) → Nat → (Nat → GV) → World → World → Prop
 | [], _, _ => Ext
 | p :: l, i, u => if p.1 = i then fun w w' => ChgIn w0 p.2.1 (p.2.2.map u) w w' ∧ LowSame M w w' else chgOfM w0 M l i u
theorem chgOfM_cases (w0 : World) (M : Nat) (cs : List (Nat × Nat × List Nat)) (i : Nat) : (∀ u, chgOfM w0 M cs i u = Ext) ∨ ∃ n js, (i, n, js) ∈ cs ∧ ∀ u, chgOfM w0 M cs i u = fun w w' => ChgIn w0 n (js.map u) w w' ∧ LowSame M w w' := by
 induction cs with
 | nil => exact .inl fun _ => rfl
 | cons p l ih =>
  by_cases h : p.1 = i
  · refine .inr ⟨p.2.1, p.2.2, by rw [← h]; simp, fun u => ?_⟩
    conv => lhs; unfold chgOfM
    rw [if_pos h]
  · rcases ih with ih | ⟨n, js, h1, h2⟩
    · refine .inl fun u => ?_
      conv => lhs; unfold chgOfM
      rw [if_neg h]; exact ih u
    · refine .inr ⟨n, js, by simp [h1], fun u => ?_⟩
      conv => lhs; unfold chgOfM
      rw [if_neg h]; exact h2 u
def zOf (g z : Nat) (K : World → Prop) (E : Nat → (Nat → GV) → World → World → Prop) (i : Nat) (u : Nat → GV) : World → World → Prop := if i = z then fun w w' => Upd g w w' ∧ K w' else E i u
theorem region_rgz (l : Fam) (w0 : World) (M g z : Nat) (K : World → Prop) (cs : List (Nat × Nat × List Nat)) {id : Nat} {a : Act} {w : World} (hm : P.follows .mixedOrders = true) (hok : rgOk .any ops (rgMasks .any ops) = true)
    (hcs : ∀ p ∈ cs, ∀ j ∈ p.2.2, (rgPre (rgMasks .any ops) p.1 j && famM l j) = true)
    (hl : ∀ p ∈ l, (∃ u, p.2.1 u) ∧ (∀ u v w, (∀ j, (j = p.1 ∨ rgPre (rgMasks .any ops) p.1 j = true) → famM l j = true → u j = v j) → p.2.2 u w → p.2.2 v w) ∧ (∀ u w w', Ext w w' → p.2.2 u w → p.2.2 u w') ∧
     (∀ q ∈ cs, q.1 ≠ p.1 → rgPre (rgMasks .any ops) p.1 q.1 = false → ∀ u w w', (∀ j ∈ q.2.2, p.1 ≠ j → (u j).apart (u p.1)) → ChgIn w0 q.2.1 (q.2.2.map u) w w' → p.2.2 u w → p.2.2 u w') ∧
     (p.1 ≠ z → ∀ u w w', Upd g w w' → p.2.2 u w → p.2.2 u w'))
    (hg : w0.heap.size ≤ g) (hKL : ∀ w w', LowSame M w w' → K w → K w') (hB : Ext w0 w) (hM : M ≤ w.heap.size) (hK : K w)
    (h : RG P ops Q (rgMasks .any ops) (famM l) (famV l) (famT l) (zOf g z K (chgOfM w0 M cs)) (fun w => Ext w0 w ∧ M ≤ w.heap.size ∧ K w) ops.size 0 [] a) : (Code.region id ops true).wp P Q a w := by
 refine region_rg (rgMasks .any ops) (famM l) (famV l) (famT l) (zOf g z K (chgOfM w0 M cs)) (fun w => Ext w0 w ∧ M ≤ w.heap.size ∧ K w) hm hok (fun k _ => famV_some (fun p hp => (hl p hp).1) k) (fun k u v w => famT_loc (fun p hp => (hl p hp).2.1) k u v w) ?_ ?_ ?_ ⟨hB.drew, hM, hKL w w.drew (fun b _ => rfl) hK⟩ h
 · intro i u w w' hw hE
   unfold zOf at hE
   split at hE
   · exact ⟨⟨hw.1.upd hE.1 hg, Nat.le_trans hw.2.1 hE.1.size, hE.2⟩, hE.1.size⟩
   · rcases chgOfM_cases w0 M cs i with h | ⟨n, js, _, h⟩
     · rw [h] at hE; exact ⟨⟨hw.1.trans hE, Nat.le_trans hw.2.1 hE.size, hKL _ _ (LowSame.ext hE hw.2.1) hw.2.2⟩, hE.size⟩
     · rw [h] at hE; exact ⟨⟨hE.1.new, Nat.le_trans hw.2.1 hE.1.size, hKL _ _ hE.2 hw.2.2⟩, hE.1.size⟩
 · intro i u v w w' hj hE
   unfold zOf at hE ⊢
   split
   · rename_i hi; rwa [if_pos hi] at hE
   · rename_i hi
     rw [if_neg hi] at hE
     rcases chgOfM_cases w0 M cs i with h | ⟨n, js, hm, h⟩
     · rw [h] at hE ⊢; exact hE
     · rw [h] at hE ⊢
       have e : js.map u = js.map v := List.map_congr_left fun j hjm => by
        have := hcs _ hm j hjm
        simp only [Bool.and_eq_true] at this
        exact hj j (.inr this.1) this.2
       rwa [← e]
 · intro i k u w w' hik hpk _ hmk hap hT hE
   unfold zOf at hE
   split at hE
   · rename_i hi
     exact famT_at k (fun t => t u w → t u w') (fun _ => trivial) (fun p hp he => (hl p hp).2.2.2.2 (by rw [he, ← hi]; exact Ne.symm hik) u w w' hE.1) hT
   · rcases chgOfM_cases w0 M cs i with h | ⟨n, js, hm, h⟩
     · rw [h] at hE
       exact famT_ext (fun p hp => (hl p hp).2.2.1) k u w w' hT hE
     · rw [h] at hE
       exact famT_at k (fun t => t u w → t u w') (fun _ => trivial) (fun p hp he => (hl p hp).2.2.2.1 (i, n, js) hm (by rw [he]; exact hik) (by rw [he]; exact hpk) u w w' (fun j hjm hne => by
        have := hcs _ hm j hjm
        simp only [Bool.and_eq_true] at this
        rw [he]
        exact hap j k (.inr this.1) (.inl rfl) this.2 hmk (fun e => hne (by rw [he, e]))) hE.1) hT
end
section
variable {α : Type} {m : Nat} {f : α → List Value} {w w' w0 : World} {v : Value} {xs ys : List α} {e : TypeId} {B M g n : Nat} {gs hs : List GV}
theorem OwnRows.upd {α : Type} {e : TypeId} {m : Nat} {f : α → List Value} {w w' : World} {B g : Nat} {v : Value} {xs : List α} (h : OwnRows e m f w B v xs) (hu : Upd g w w') (hg : g < B) : OwnRows e m f w' B v xs :=
 h.kept hu (by
  cases hv : v.ownBlock with
  | none => exact .inl rfl
  | some k => right; have := (h.lt k hv).1; intro he; injection he; omega)
end
end Go.Proofs.YtohncgikdlbogaaDoor
