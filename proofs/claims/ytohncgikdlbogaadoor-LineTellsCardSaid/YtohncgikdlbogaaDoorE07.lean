/-
  Several texts in one: Ho, Hp.
-/
import Derived.Test.YtohncgikdlbogaaDoorE06
set_option linter.unusedVariables false
set_option linter.unusedSimpArgs false
namespace Go.Proofs.YtohncgikdlbogaaDoor
open Go.RowKit
set_option maxRecDepth 100000 in
set_option maxHeartbeats 16000000 in
theorem mawaits_any (w0 w : World) (T : Nat) (x : Sn) (l : Lg) (wy st : Value) (p g : Int) (A : Option Addr) (c : Nat) (D : Option Addr) (d : Nat) (h : Tr w0 w T x l wy st p g A c D d) (s : Int) (hs : s ≠ 0) (r : Bool) (hr : decide (Md.stat x.gs l.g = (s, l.seq)) = r) (hri : Md.rises x.gs) (hl : x.gs.length ≤ 10000) : Calls Tryd.prog 88 #[.pointer (some ⟨T, 0, none⟩), .int .i64 s] w (fun e w' => NeedE r e ∧ Ext w w') := by
 obtain ⟨time, ps, gs⟩ := x
 obtain ⟨lt, lm, kd, lg, lp, ls⟩ := l
 simp only at hr hl hri
 have HR := Lib.hid hr
 have HH := Lib.hid h
 have HRI := Lib.hid hri
 have HS0 := Lib.hid hs
 clear hr hri hs
 have q6 := blk_cell h.box 6 _ rfl
 clear h
 go_enter Tryd.func88, Tryd.ntmps88
 go_wp2_with fail
 obtain ⟨bf, hbf⟩ : ∃ bf, (Md.fnd gs lg).isSome = bf := ⟨_, rfl⟩
 obtain ⟨q, hgq⟩ : ∃ q, Md.gpos gs lg = q := ⟨_, rfl⟩
 refine (mindex_any w0 w T ⟨time, ps, gs⟩ ⟨lt, lm, kd, lg, lp, ls⟩ wy st p g A c D d HH.out lg HRI.out hl bf hbf q hgq).mono ?_
 rintro e' wa ⟨rfl, hxa⟩
 have HXA := Lib.hid hxa
 have HHA := Lib.hid (HH.out.more hxa)
 have HBF := Lib.hid hbf
 have HGQ := Lib.hid hgq
 clear hxa hbf hgq q6
 cases bf with
 | false =>
  have HST : Hid (Md.stat gs lg = (0, 0)) := Lib.hid (by
   have : Md.fnd gs lg = none := by simpa using HBF.out
   unfold Md.stat
   rw [this])
  have u2 : ∀ v, Ext wa v → v.cell? ⟨T, 2, none⟩ = some (.slice D gs.length d) := fun v hv => blk_cell (hv.blk HHA.out.box) 2 _ rfl
  have u6 : ∀ v, Ext wa v → v.cell? ⟨T, 6, none⟩ = some (.int .i64 lg) := fun v hv => blk_cell (hv.blk HHA.out.box) 6 _ rfl
  have u8 : ∀ v, Ext wa v → v.cell? ⟨T, 8, none⟩ = some (.int .i64 ls) := fun v hv => blk_cell (hv.blk HHA.out.box) 8 _ rfl
  go_simp
  go_upto_region 1 with fail
  have HF : Hid (r = false) := Lib.hid (by rw [← HR.out]; rw [HST.out]; exact decide_eq_false (fun h => HS0.out (by injection h with h1 h2; exact h1.symm)))
  obtain rfl := HF.out
  refine region_gq 31 (fun v => Ext (wa) v) (fun v => Ext (wa) v) (by kernel_rfl) (Ext.refl _).drew (fun _ _ d _ _ h => by cases d <;> exact h) ?_
  intro Q9 HQE HQP
  have HG : ∀ (l : Array Bool) v, Ext (wa) v → l.getD 31 false = false → Ext (wa) v := fun _ _ h _ => h
  refine g_tk 0 (v := ?_) HG HQP (fun w hS => ?_) ?_
  rotate_left 1
  · go_simp; refine gives_mk ?_ rfl; with_reducible rfl
  refine g_tk 1 (v := ?_) HG HQP (fun w hS => ?_) ?_
  rotate_left 1
  · go_simp; refine gives_mk ?_ rfl; with_reducible rfl
  refine g_take (HG _) (i := 2) rfl (by kernel_rfl) (by kernel_rfl) (by kernel_rfl) (by kernel_rfl) (by kernel_rfl) (fun c a w h => HQP c a _ _ w h) (Still.no (by kernel_rfl)) ?_
  refine g_take (HG _) (i := 3) rfl (by kernel_rfl) (by kernel_rfl) (by kernel_rfl) (by kernel_rfl) (by kernel_rfl) (fun c a w h => HQP c a _ _ w h) (Still.no (by kernel_rfl)) ?_
  refine g_take (HG _) (i := 4) rfl (by kernel_rfl) (by kernel_rfl) (by kernel_rfl) (by kernel_rfl) (by kernel_rfl) (fun c a w h => HQP c a _ _ w h) (Still.no (by kernel_rfl)) ?_
  refine g_take (HG _) (i := 5) rfl (by kernel_rfl) (by kernel_rfl) (by kernel_rfl) (by kernel_rfl) (by kernel_rfl) (fun c a w h => HQP c a _ _ w h) (Still.no (by kernel_rfl)) ?_
  refine g_take (HG _) (i := 6) rfl (by kernel_rfl) (by kernel_rfl) (by kernel_rfl) (by kernel_rfl) (by kernel_rfl) (fun c a w h => HQP c a _ _ w h) (Still.no (by kernel_rfl)) ?_
  refine g_take (HG _) (i := 7) rfl (by kernel_rfl) (by kernel_rfl) (by kernel_rfl) (by kernel_rfl) (by kernel_rfl) (fun c a w h => HQP c a _ _ w h) (Still.no (by kernel_rfl)) ?_
  refine g_take (HG _) (i := 8) rfl (by kernel_rfl) (by kernel_rfl) (by kernel_rfl) (by kernel_rfl) (by kernel_rfl) (fun c a w h => HQP c a _ _ w h) (Still.no (by kernel_rfl)) ?_
  refine g_take (HG _) (i := 9) rfl (by kernel_rfl) (by kernel_rfl) (by kernel_rfl) (by kernel_rfl) (by kernel_rfl) (fun c a w h => HQP c a _ _ w h) (Still.no (by kernel_rfl)) ?_
  refine g_take (HG _) (i := 10) rfl (by kernel_rfl) (by kernel_rfl) (by kernel_rfl) (by kernel_rfl) (by kernel_rfl) (fun c a w h => HQP c a _ _ w h) (Still.no (by kernel_rfl)) ?_
  refine g_take (HG _) (i := 11) rfl (by kernel_rfl) (by kernel_rfl) (by kernel_rfl) (by kernel_rfl) (by kernel_rfl) (fun c a w h => HQP c a _ _ w h) (Still.no (by kernel_rfl)) ?_
  refine g_take (HG _) (i := 12) rfl (by kernel_rfl) (by kernel_rfl) (by kernel_rfl) (by kernel_rfl) (by kernel_rfl) (fun c a w h => HQP c a _ _ w h) (Still.no (by kernel_rfl)) ?_
  refine g_tk 13 (v := ?_) HG HQP (fun w hS => ?_) ?_
  rotate_left 1
  · go_simp; refine gives_mk ?_ rfl; with_reducible rfl
  refine g_tk 14 (v := ?_) HG HQP (fun w hS => ?_) ?_
  rotate_left 1
  · go_simp; refine gives_mk ?_ rfl; with_reducible rfl
  refine g_take (HG _) (i := 15) rfl (by kernel_rfl) (by kernel_rfl) (by kernel_rfl) (by kernel_rfl) (by kernel_rfl) (fun c a w h => HQP c a _ _ w h) (Still.no (by kernel_rfl)) ?_
  refine g_take (HG _) (i := 16) rfl (by kernel_rfl) (by kernel_rfl) (by kernel_rfl) (by kernel_rfl) (by kernel_rfl) (fun c a w h => HQP c a _ _ w h) (Still.no (by kernel_rfl)) ?_
  refine g_take (HG _) (i := 17) rfl (by kernel_rfl) (by kernel_rfl) (by kernel_rfl) (by kernel_rfl) (by kernel_rfl) (fun c a w h => HQP c a _ _ w h) (Still.no (by kernel_rfl)) ?_
  refine g_take (HG _) (i := 18) rfl (by kernel_rfl) (by kernel_rfl) (by kernel_rfl) (by kernel_rfl) (by kernel_rfl) (fun c a w h => HQP c a _ _ w h) (Still.no (by kernel_rfl)) ?_
  refine g_take (HG _) (i := 19) rfl (by kernel_rfl) (by kernel_rfl) (by kernel_rfl) (by kernel_rfl) (by kernel_rfl) (fun c a w h => HQP c a _ _ w h) (Still.no (by kernel_rfl)) ?_
  refine g_take (HG _) (i := 20) rfl (by kernel_rfl) (by kernel_rfl) (by kernel_rfl) (by kernel_rfl) (by kernel_rfl) (fun c a w h => HQP c a _ _ w h) (Still.no (by kernel_rfl)) ?_
  refine g_take (HG _) (i := 21) rfl (by kernel_rfl) (by kernel_rfl) (by kernel_rfl) (by kernel_rfl) (by kernel_rfl) (fun c a w h => HQP c a _ _ w h) (Still.no (by kernel_rfl)) ?_
  refine g_take (HG _) (i := 22) rfl (by kernel_rfl) (by kernel_rfl) (by kernel_rfl) (by kernel_rfl) (by kernel_rfl) (fun c a w h => HQP c a _ _ w h) (Still.no (by kernel_rfl)) ?_
  refine g_take (HG _) (i := 23) rfl (by kernel_rfl) (by kernel_rfl) (by kernel_rfl) (by kernel_rfl) (by kernel_rfl) (fun c a w h => HQP c a _ _ w h) (Still.no (by kernel_rfl)) ?_
  refine g_take (HG _) (i := 24) rfl (by kernel_rfl) (by kernel_rfl) (by kernel_rfl) (by kernel_rfl) (by kernel_rfl) (fun c a w h => HQP c a _ _ w h) (Still.no (by kernel_rfl)) ?_
  refine g_take (HG _) (i := 25) rfl (by kernel_rfl) (by kernel_rfl) (by kernel_rfl) (by kernel_rfl) (by kernel_rfl) (fun c a w h => HQP c a _ _ w h) (Still.no (by kernel_rfl)) ?_
  refine g_take (HG _) (i := 26) rfl (by kernel_rfl) (by kernel_rfl) (by kernel_rfl) (by kernel_rfl) (by kernel_rfl) (fun c a w h => HQP c a _ _ w h) (Still.no (by kernel_rfl)) ?_
  refine g_take (HG _) (i := 27) rfl (by kernel_rfl) (by kernel_rfl) (by kernel_rfl) (by kernel_rfl) (by kernel_rfl) (fun c a w h => HQP c a _ _ w h) (Still.no (by kernel_rfl)) ?_
  refine g_take (HG _) (i := 28) rfl (by kernel_rfl) (by kernel_rfl) (by kernel_rfl) (by kernel_rfl) (by kernel_rfl) (fun c a w h => HQP c a _ _ w h) (Still.no (by kernel_rfl)) ?_
  refine g_take (HG _) (i := 29) rfl (by kernel_rfl) (by kernel_rfl) (by kernel_rfl) (by kernel_rfl) (by kernel_rfl) (fun c a w h => HQP c a _ _ w h) (Still.no (by kernel_rfl)) ?_
  refine g_tk 30 (v := ?_) HG HQP (fun w hS => ?_) ?_
  rotate_left 1
  · go_simp; refine gives_mk ?_ rfl; with_reducible rfl
  refine g_last (k := 31) (by kernel_rfl) (by kernel_rfl) (by kernel_rfl) rfl (by kernel_rfl) (fun w hS R hR1 hR2 => ?_)
  have hq9 := HQE.out
  subst hq9
  have HR1 := Lib.hid hR1
  have HR2 := Lib.hid hR2
  clear hR1 hR2 HG HQP HQE
  go_simp
  refine entersM_call ((need_no w).mono ?_)
  rintro e' w' ⟨rfl, rfl⟩
  refine HR2.out _ _ ?_
  exact ⟨rfl, .inr ⟨rfl, rfl⟩, (HXA.out.trans hS)⟩
 | true =>
 obtain ⟨k, hk⟩ := Option.isSome_iff_exists.1 HBF.out
 have hkq := Md.gpos_fnd HRI.out hk
 rw [HGQ.out] at hkq
 subst hkq
 obtain ⟨⟨ya, yb, yc, yd⟩, hy, -, -⟩ := Md.fnd_some hk
 obtain ⟨bl, hA, hb, t0, t1, t2, t3⟩ := HHA.out.rowG hy
 subst hA
 have us1 : ∀ v, Ext wa v → v.cell? ⟨bl, q * 4 + 1, none⟩ = some (.int .i64 yb) := fun v hv => (bcell hv _ _ hb).trans t1
 have us3 : ∀ v, Ext wa v → v.cell? ⟨bl, q * 4 + 3, none⟩ = some (.int .i64 yd) := fun v hv => (bcell hv _ _ hb).trans t3
 have l2 : (q : Int) < (gs.length : Int) := by have := (List.getElem?_eq_some_iff.1 hy).1; omega
 have HST : Hid (Md.stat gs lg = (yb, yd)) := Lib.hid (by unfold Md.stat; rw [hk]; simp only [List.getD, hy, Option.getD_some])
 clear t0 t1 t2 t3 hb hy hk
 have u2 : ∀ v, Ext wa v → v.cell? ⟨T, 2, none⟩ = some (.slice (some ⟨bl, 0, none⟩) gs.length d) := fun v hv => blk_cell (hv.blk HHA.out.box) 2 _ rfl
 have u6 : ∀ v, Ext wa v → v.cell? ⟨T, 6, none⟩ = some (.int .i64 lg) := fun v hv => blk_cell (hv.blk HHA.out.box) 6 _ rfl
 have u8 : ∀ v, Ext wa v → v.cell? ⟨T, 8, none⟩ = some (.int .i64 ls) := fun v hv => blk_cell (hv.blk HHA.out.box) 8 _ rfl
 go_simp
 have l3 : (q : Int) < 100000 := by omega
 go_upto_region 1 with fail
 by_cases k1 : yb = s
 rotate_left 1
 · have e1 : (yb == s) = false := by simpa using k1
   have K1 := Lib.hid k1
   clear k1
   have HF : Hid (r = false) := Lib.hid (by rw [← HR.out]; rw [HST.out]; exact decide_eq_false (fun h => K1.out (by injection h with h1 h2)))
   obtain rfl := HF.out
   refine region_gq 31 (fun v => Ext (wa) v) (fun v => Ext (wa) v) (by kernel_rfl) (Ext.refl _).drew (fun _ _ d _ _ h => by cases d <;> exact h) ?_
   intro Q9 HQE HQP
   have HG : ∀ (l : Array Bool) v, Ext (wa) v → l.getD 31 false = false → Ext (wa) v := fun _ _ h _ => h
   refine g_tk 0 (v := ?_) HG HQP (fun w hS => ?_) ?_
   rotate_left 1
   · go_simp
     try simp only [e1]
     refine gives_mk ?_ rfl
     with_reducible rfl
   refine g_tk 1 (v := ?_) HG HQP (fun w hS => ?_) ?_
   rotate_left 1
   · go_simp
     try simp only [e1]
     refine gives_mk ?_ rfl
     with_reducible rfl
   refine g_tk 2 (v := ?_) HG HQP (fun w hS => ?_) ?_
   rotate_left 1
   · go_simp
     try simp only [e1]
     refine gives_mk ?_ rfl
     with_reducible rfl
   refine g_tk 3 (v := ?_) HG HQP (fun w hS => ?_) ?_
   rotate_left 1
   · go_simp
     try simp only [e1]
     refine gives_mk ?_ rfl
     with_reducible rfl
   refine g_tk 4 (v := ?_) HG HQP (fun w hS => ?_) ?_
   rotate_left 1
   · go_simp
     try simp only [e1]
     refine gives_mk ?_ rfl
     with_reducible rfl
   refine g_tk 5 (v := ?_) HG HQP (fun w hS => ?_) ?_
   rotate_left 1
   · go_simp
     try simp only [e1]
     refine gives_mk ?_ rfl
     with_reducible rfl
   refine g_tk 6 (v := ?_) HG HQP (fun w hS => ?_) ?_
   rotate_left 1
   · go_simp
     try simp only [e1]
     refine gives_mk ?_ rfl
     with_reducible rfl
   refine g_tk 7 (v := ?_) HG HQP (fun w hS => ?_) ?_
   rotate_left 1
   · go_simp
     try simp only [e1]
     refine gives_mk ?_ rfl
     with_reducible rfl
   refine g_tk 8 (v := ?_) HG HQP (fun w hS => ?_) ?_
   rotate_left 1
   · go_simp
     try simp only [e1]
     refine gives_mk ?_ rfl
     with_reducible rfl
   refine g_tk 9 (v := ?_) HG HQP (fun w hS => ?_) ?_
   rotate_left 1
   · go_simp
     try simp only [e1]
     refine gives_mk ?_ rfl
     with_reducible rfl
   refine g_tk 10 (v := ?_) HG HQP (fun w hS => ?_) ?_
   rotate_left 1
   · go_simp
     try simp only [e1]
     refine gives_mk ?_ rfl
     with_reducible rfl
   refine g_tk 11 (v := ?_) HG HQP (fun w hS => ?_) ?_
   rotate_left 1
   · go_simp
     try simp only [e1]
     refine gives_mk ?_ rfl
     with_reducible rfl
   refine g_tk 12 (v := ?_) HG HQP (fun w hS => ?_) ?_
   rotate_left 1
   · go_simp
     try simp only [e1]
     refine gives_mk ?_ rfl
     with_reducible rfl
   refine g_tk 13 (v := ?_) HG HQP (fun w hS => ?_) ?_
   rotate_left 1
   · go_simp
     try simp only [e1]
     refine gives_mk ?_ rfl
     with_reducible rfl
   refine g_tk 14 (v := ?_) HG HQP (fun w hS => ?_) ?_
   rotate_left 1
   · go_simp
     try simp only [e1]
     refine gives_mk ?_ rfl
     with_reducible rfl
   refine g_take (HG _) (i := 15) rfl (by kernel_rfl) (by kernel_rfl) (by kernel_rfl) (by kernel_rfl) (by kernel_rfl) (fun c a w h => HQP c a _ _ w h) (Still.no (by kernel_rfl)) ?_
   refine g_take (HG _) (i := 16) rfl (by kernel_rfl) (by kernel_rfl) (by kernel_rfl) (by kernel_rfl) (by kernel_rfl) (fun c a w h => HQP c a _ _ w h) (Still.no (by kernel_rfl)) ?_
   refine g_take (HG _) (i := 17) rfl (by kernel_rfl) (by kernel_rfl) (by kernel_rfl) (by kernel_rfl) (by kernel_rfl) (fun c a w h => HQP c a _ _ w h) (Still.no (by kernel_rfl)) ?_
   refine g_take (HG _) (i := 18) rfl (by kernel_rfl) (by kernel_rfl) (by kernel_rfl) (by kernel_rfl) (by kernel_rfl) (fun c a w h => HQP c a _ _ w h) (Still.no (by kernel_rfl)) ?_
   refine g_take (HG _) (i := 19) rfl (by kernel_rfl) (by kernel_rfl) (by kernel_rfl) (by kernel_rfl) (by kernel_rfl) (fun c a w h => HQP c a _ _ w h) (Still.no (by kernel_rfl)) ?_
   refine g_take (HG _) (i := 20) rfl (by kernel_rfl) (by kernel_rfl) (by kernel_rfl) (by kernel_rfl) (by kernel_rfl) (fun c a w h => HQP c a _ _ w h) (Still.no (by kernel_rfl)) ?_
   refine g_take (HG _) (i := 21) rfl (by kernel_rfl) (by kernel_rfl) (by kernel_rfl) (by kernel_rfl) (by kernel_rfl) (fun c a w h => HQP c a _ _ w h) (Still.no (by kernel_rfl)) ?_
   refine g_take (HG _) (i := 22) rfl (by kernel_rfl) (by kernel_rfl) (by kernel_rfl) (by kernel_rfl) (by kernel_rfl) (fun c a w h => HQP c a _ _ w h) (Still.no (by kernel_rfl)) ?_
   refine g_take (HG _) (i := 23) rfl (by kernel_rfl) (by kernel_rfl) (by kernel_rfl) (by kernel_rfl) (by kernel_rfl) (fun c a w h => HQP c a _ _ w h) (Still.no (by kernel_rfl)) ?_
   refine g_take (HG _) (i := 24) rfl (by kernel_rfl) (by kernel_rfl) (by kernel_rfl) (by kernel_rfl) (by kernel_rfl) (fun c a w h => HQP c a _ _ w h) (Still.no (by kernel_rfl)) ?_
   refine g_take (HG _) (i := 25) rfl (by kernel_rfl) (by kernel_rfl) (by kernel_rfl) (by kernel_rfl) (by kernel_rfl) (fun c a w h => HQP c a _ _ w h) (Still.no (by kernel_rfl)) ?_
   refine g_take (HG _) (i := 26) rfl (by kernel_rfl) (by kernel_rfl) (by kernel_rfl) (by kernel_rfl) (by kernel_rfl) (fun c a w h => HQP c a _ _ w h) (Still.no (by kernel_rfl)) ?_
   refine g_take (HG _) (i := 27) rfl (by kernel_rfl) (by kernel_rfl) (by kernel_rfl) (by kernel_rfl) (by kernel_rfl) (fun c a w h => HQP c a _ _ w h) (Still.no (by kernel_rfl)) ?_
   refine g_take (HG _) (i := 28) rfl (by kernel_rfl) (by kernel_rfl) (by kernel_rfl) (by kernel_rfl) (by kernel_rfl) (fun c a w h => HQP c a _ _ w h) (Still.no (by kernel_rfl)) ?_
   refine g_take (HG _) (i := 29) rfl (by kernel_rfl) (by kernel_rfl) (by kernel_rfl) (by kernel_rfl) (by kernel_rfl) (fun c a w h => HQP c a _ _ w h) (Still.no (by kernel_rfl)) ?_
   refine g_tk 30 (v := ?_) HG HQP (fun w hS => ?_) ?_
   rotate_left 1
   · go_simp
     try simp only [e1]
     refine gives_mk ?_ rfl
     with_reducible rfl
   refine g_last (k := 31) (by kernel_rfl) (by kernel_rfl) (by kernel_rfl) rfl (by kernel_rfl) (fun w hS R hR1 hR2 => ?_)
   have hq9 := HQE.out
   subst hq9
   have HR1 := Lib.hid hR1
   have HR2 := Lib.hid hR2
   clear hR1 hR2 HG HQP HQE
   go_simp
   refine entersM_call ((need_no w).mono ?_)
   rintro e' w' ⟨rfl, rfl⟩
   refine HR2.out _ _ ?_
   exact ⟨rfl, .inr ⟨rfl, rfl⟩, (HXA.out.trans hS)⟩
 have e1 : (yb == s) = true := by simpa using k1
 have K1 := Lib.hid k1
 clear k1
 by_cases k2 : yd = ls
 · have e2 : (yd == ls) = true := by simpa using k2
   have K2 := Lib.hid k2
   clear k2
   have HF : Hid (r = true) := Lib.hid (by rw [← HR.out]; rw [HST.out]; exact decide_eq_true (by rw [K1.out, K2.out]))
   obtain rfl := HF.out
   refine region_gq 31 (fun v => Ext (wa) v) (fun v => Ext (wa) v) (by kernel_rfl) (Ext.refl _).drew (fun _ _ d _ _ h => by cases d <;> exact h) ?_
   intro Q9 HQE HQP
   have HG : ∀ (l : Array Bool) v, Ext (wa) v → l.getD 31 false = false → Ext (wa) v := fun _ _ h _ => h
   refine g_tk 0 (v := ?_) HG HQP (fun w hS => ?_) ?_
   rotate_left 1
   · go_simp
     try simp only [e1, e2]
     refine gives_mk ?_ rfl
     with_reducible rfl
   refine g_tk 1 (v := ?_) HG HQP (fun w hS => ?_) ?_
   rotate_left 1
   · go_simp
     try simp only [e1, e2]
     refine gives_mk ?_ rfl
     with_reducible rfl
   refine g_tk 2 (v := ?_) HG HQP (fun w hS => ?_) ?_
   rotate_left 1
   · go_simp
     try simp only [e1, e2]
     refine gives_mk ?_ rfl
     with_reducible rfl
   refine g_tk 3 (v := ?_) HG HQP (fun w hS => ?_) ?_
   rotate_left 1
   · go_simp
     try simp only [e1, e2]
     refine gives_mk ?_ rfl
     with_reducible rfl
   refine g_tk 4 (v := ?_) HG HQP (fun w hS => ?_) ?_
   rotate_left 1
   · go_simp
     try simp only [e1, e2]
     refine gives_mk ?_ rfl
     with_reducible rfl
   refine g_tk 5 (v := ?_) HG HQP (fun w hS => ?_) ?_
   rotate_left 1
   · go_simp
     try simp only [e1, e2]
     refine gives_mk ?_ rfl
     with_reducible rfl
   refine g_tk 6 (v := ?_) HG HQP (fun w hS => ?_) ?_
   rotate_left 1
   · go_simp
     try simp only [e1, e2]
     refine gives_mk ?_ rfl
     with_reducible rfl
   refine g_tk 7 (v := ?_) HG HQP (fun w hS => ?_) ?_
   rotate_left 1
   · go_simp
     try simp only [e1, e2]
     refine gives_mk ?_ rfl
     with_reducible rfl
   refine g_tk 8 (v := ?_) HG HQP (fun w hS => ?_) ?_
   rotate_left 1
   · go_simp
     try simp only [e1, e2]
     refine gives_mk ?_ rfl
     with_reducible rfl
   refine g_tk 9 (v := ?_) HG HQP (fun w hS => ?_) ?_
   rotate_left 1
   · go_simp
     try simp only [e1, e2]
     refine gives_mk ?_ rfl
     with_reducible rfl
   refine g_tk 10 (v := ?_) HG HQP (fun w hS => ?_) ?_
   rotate_left 1
   · go_simp
     try simp only [e1, e2]
     refine gives_mk ?_ rfl
     with_reducible rfl
   refine g_tk 11 (v := ?_) HG HQP (fun w hS => ?_) ?_
   rotate_left 1
   · go_simp
     try simp only [e1, e2]
     refine gives_mk ?_ rfl
     with_reducible rfl
   refine g_tk 12 (v := ?_) HG HQP (fun w hS => ?_) ?_
   rotate_left 1
   · go_simp
     try simp only [e1, e2]
     refine gives_mk ?_ rfl
     with_reducible rfl
   refine g_tk 13 (v := ?_) HG HQP (fun w hS => ?_) ?_
   rotate_left 1
   · go_simp
     try simp only [e1, e2]
     refine gives_mk ?_ rfl
     with_reducible rfl
   refine g_tk 14 (v := ?_) HG HQP (fun w hS => ?_) ?_
   rotate_left 1
   · go_simp
     try simp only [e1, e2]
     refine gives_mk ?_ rfl
     with_reducible rfl
   refine g_tk 15 (v := ?_) HG HQP (fun w hS => ?_) ?_
   rotate_left 1
   · go_simp
     try simp only [e1, e2]
     refine gives_mk ?_ rfl
     with_reducible rfl
   refine g_tk 16 (v := ?_) HG HQP (fun w hS => ?_) ?_
   rotate_left 1
   · go_simp
     try simp only [e1, e2]
     refine gives_mk ?_ rfl
     with_reducible rfl
   refine g_tk 17 (v := ?_) HG HQP (fun w hS => ?_) ?_
   rotate_left 1
   · go_simp
     try simp only [e1, e2]
     refine gives_mk ?_ rfl
     with_reducible rfl
   refine g_tk 18 (v := ?_) HG HQP (fun w hS => ?_) ?_
   rotate_left 1
   · go_simp
     try simp only [e1, e2]
     refine gives_mk ?_ rfl
     with_reducible rfl
   refine g_tk 19 (v := ?_) HG HQP (fun w hS => ?_) ?_
   rotate_left 1
   · go_simp
     try simp only [e1, e2]
     refine gives_mk ?_ rfl
     with_reducible rfl
   refine g_tk 20 (v := ?_) HG HQP (fun w hS => ?_) ?_
   rotate_left 1
   · go_simp
     try simp only [e1, e2]
     refine gives_mk ?_ rfl
     with_reducible rfl
   refine g_tk 21 (v := ?_) HG HQP (fun w hS => ?_) ?_
   rotate_left 1
   · go_simp
     try simp only [e1, e2]
     refine gives_mk ?_ rfl
     with_reducible rfl
   refine g_tk 22 (v := ?_) HG HQP (fun w hS => ?_) ?_
   rotate_left 1
   · go_simp
     try simp only [e1, e2]
     refine gives_mk ?_ rfl
     with_reducible rfl
   refine g_tk 23 (v := ?_) HG HQP (fun w hS => ?_) ?_
   rotate_left 1
   · go_simp
     try simp only [e1, e2]
     refine gives_mk ?_ rfl
     with_reducible rfl
   refine g_tk 24 (v := ?_) HG HQP (fun w hS => ?_) ?_
   rotate_left 1
   · go_simp
     try simp only [e1, e2]
     refine gives_mk ?_ rfl
     with_reducible rfl
   refine g_tk 25 (v := ?_) HG HQP (fun w hS => ?_) ?_
   rotate_left 1
   · go_simp
     try simp only [e1, e2]
     refine gives_mk ?_ rfl
     with_reducible rfl
   refine g_tk 26 (v := ?_) HG HQP (fun w hS => ?_) ?_
   rotate_left 1
   · go_simp
     try simp only [e1, e2]
     refine gives_mk ?_ rfl
     with_reducible rfl
   refine g_tk 27 (v := ?_) HG HQP (fun w hS => ?_) ?_
   rotate_left 1
   · go_simp
     try simp only [e1, e2]
     refine gives_mk ?_ rfl
     with_reducible rfl
   refine g_tk 28 (v := ?_) HG HQP (fun w hS => ?_) ?_
   rotate_left 1
   · go_simp
     try simp only [e1, e2]
     refine gives_mk ?_ rfl
     with_reducible rfl
   refine g_tk 29 (v := ?_) HG HQP (fun w hS => ?_) ?_
   rotate_left 1
   · go_simp
     try simp only [e1, e2]
     refine gives_mk ?_ rfl
     with_reducible rfl
   refine g_tk 30 (v := ?_) HG HQP (fun w hS => ?_) ?_
   rotate_left 1
   · go_simp
     try simp only [e1, e2]
     refine gives_mk ?_ rfl
     with_reducible rfl
   refine g_last (k := 31) (by kernel_rfl) (by kernel_rfl) (by kernel_rfl) rfl (by kernel_rfl) (fun w hS R hR1 hR2 => ?_)
   have hq9 := HQE.out
   subst hq9
   have HR1 := Lib.hid hR1
   have HR2 := Lib.hid hR2
   clear hR1 hR2 HG HQP HQE
   go_simp
   refine entersM_call ((need_yes w).mono ?_)
   rintro e' w' ⟨rfl, rfl⟩
   have HXS := Lib.hid (HXA.out.trans hS)
   clear hS
   refine HR1.out _ _ ?_
   go_simp
   go_wp2
   first | go_end0 | skip
   exact ⟨.inl ⟨rfl, rfl⟩, HXS.out⟩
 · have e2 : (yd == ls) = false := by simpa using k2
   have K2 := Lib.hid k2
   clear k2
   have HF : Hid (r = false) := Lib.hid (by rw [← HR.out]; rw [HST.out]; exact decide_eq_false (fun h => K2.out (by injection h with h1 h2)))
   obtain rfl := HF.out
   refine region_gq 31 (fun v => Ext (wa) v) (fun v => Ext (wa) v) (by kernel_rfl) (Ext.refl _).drew (fun _ _ d _ _ h => by cases d <;> exact h) ?_
   intro Q9 HQE HQP
   have HG : ∀ (l : Array Bool) v, Ext (wa) v → l.getD 31 false = false → Ext (wa) v := fun _ _ h _ => h
   refine g_tk 0 (v := ?_) HG HQP (fun w hS => ?_) ?_
   rotate_left 1
   · go_simp
     try simp only [e1, e2]
     refine gives_mk ?_ rfl
     with_reducible rfl
   refine g_tk 1 (v := ?_) HG HQP (fun w hS => ?_) ?_
   rotate_left 1
   · go_simp
     try simp only [e1, e2]
     refine gives_mk ?_ rfl
     with_reducible rfl
   refine g_tk 2 (v := ?_) HG HQP (fun w hS => ?_) ?_
   rotate_left 1
   · go_simp
     try simp only [e1, e2]
     refine gives_mk ?_ rfl
     with_reducible rfl
   refine g_tk 3 (v := ?_) HG HQP (fun w hS => ?_) ?_
   rotate_left 1
   · go_simp
     try simp only [e1, e2]
     refine gives_mk ?_ rfl
     with_reducible rfl
   refine g_tk 4 (v := ?_) HG HQP (fun w hS => ?_) ?_
   rotate_left 1
   · go_simp
     try simp only [e1, e2]
     refine gives_mk ?_ rfl
     with_reducible rfl
   refine g_tk 5 (v := ?_) HG HQP (fun w hS => ?_) ?_
   rotate_left 1
   · go_simp
     try simp only [e1, e2]
     refine gives_mk ?_ rfl
     with_reducible rfl
   refine g_tk 6 (v := ?_) HG HQP (fun w hS => ?_) ?_
   rotate_left 1
   · go_simp
     try simp only [e1, e2]
     refine gives_mk ?_ rfl
     with_reducible rfl
   refine g_tk 7 (v := ?_) HG HQP (fun w hS => ?_) ?_
   rotate_left 1
   · go_simp
     try simp only [e1, e2]
     refine gives_mk ?_ rfl
     with_reducible rfl
   refine g_tk 8 (v := ?_) HG HQP (fun w hS => ?_) ?_
   rotate_left 1
   · go_simp
     try simp only [e1, e2]
     refine gives_mk ?_ rfl
     with_reducible rfl
   refine g_tk 9 (v := ?_) HG HQP (fun w hS => ?_) ?_
   rotate_left 1
   · go_simp
     try simp only [e1, e2]
     refine gives_mk ?_ rfl
     with_reducible rfl
   refine g_tk 10 (v := ?_) HG HQP (fun w hS => ?_) ?_
   rotate_left 1
   · go_simp
     try simp only [e1, e2]
     refine gives_mk ?_ rfl
     with_reducible rfl
   refine g_tk 11 (v := ?_) HG HQP (fun w hS => ?_) ?_
   rotate_left 1
   · go_simp
     try simp only [e1, e2]
     refine gives_mk ?_ rfl
     with_reducible rfl
   refine g_tk 12 (v := ?_) HG HQP (fun w hS => ?_) ?_
   rotate_left 1
   · go_simp
     try simp only [e1, e2]
     refine gives_mk ?_ rfl
     with_reducible rfl
   refine g_tk 13 (v := ?_) HG HQP (fun w hS => ?_) ?_
   rotate_left 1
   · go_simp
     try simp only [e1, e2]
     refine gives_mk ?_ rfl
     with_reducible rfl
   refine g_tk 14 (v := ?_) HG HQP (fun w hS => ?_) ?_
   rotate_left 1
   · go_simp
     try simp only [e1, e2]
     refine gives_mk ?_ rfl
     with_reducible rfl
   refine g_tk 15 (v := ?_) HG HQP (fun w hS => ?_) ?_
   rotate_left 1
   · go_simp
     try simp only [e1, e2]
     refine gives_mk ?_ rfl
     with_reducible rfl
   refine g_tk 16 (v := ?_) HG HQP (fun w hS => ?_) ?_
   rotate_left 1
   · go_simp
     try simp only [e1, e2]
     refine gives_mk ?_ rfl
     with_reducible rfl
   refine g_tk 17 (v := ?_) HG HQP (fun w hS => ?_) ?_
   rotate_left 1
   · go_simp
     try simp only [e1, e2]
     refine gives_mk ?_ rfl
     with_reducible rfl
   refine g_tk 18 (v := ?_) HG HQP (fun w hS => ?_) ?_
   rotate_left 1
   · go_simp
     try simp only [e1, e2]
     refine gives_mk ?_ rfl
     with_reducible rfl
   refine g_tk 19 (v := ?_) HG HQP (fun w hS => ?_) ?_
   rotate_left 1
   · go_simp
     try simp only [e1, e2]
     refine gives_mk ?_ rfl
     with_reducible rfl
   refine g_tk 20 (v := ?_) HG HQP (fun w hS => ?_) ?_
   rotate_left 1
   · go_simp
     try simp only [e1, e2]
     refine gives_mk ?_ rfl
     with_reducible rfl
   refine g_tk 21 (v := ?_) HG HQP (fun w hS => ?_) ?_
   rotate_left 1
   · go_simp
     try simp only [e1, e2]
     refine gives_mk ?_ rfl
     with_reducible rfl
   refine g_tk 22 (v := ?_) HG HQP (fun w hS => ?_) ?_
   rotate_left 1
   · go_simp
     try simp only [e1, e2]
     refine gives_mk ?_ rfl
     with_reducible rfl
   refine g_tk 23 (v := ?_) HG HQP (fun w hS => ?_) ?_
   rotate_left 1
   · go_simp
     try simp only [e1, e2]
     refine gives_mk ?_ rfl
     with_reducible rfl
   refine g_tk 24 (v := ?_) HG HQP (fun w hS => ?_) ?_
   rotate_left 1
   · go_simp
     try simp only [e1, e2]
     refine gives_mk ?_ rfl
     with_reducible rfl
   refine g_tk 25 (v := ?_) HG HQP (fun w hS => ?_) ?_
   rotate_left 1
   · go_simp
     try simp only [e1, e2]
     refine gives_mk ?_ rfl
     with_reducible rfl
   refine g_tk 26 (v := ?_) HG HQP (fun w hS => ?_) ?_
   rotate_left 1
   · go_simp
     try simp only [e1, e2]
     refine gives_mk ?_ rfl
     with_reducible rfl
   refine g_tk 27 (v := ?_) HG HQP (fun w hS => ?_) ?_
   rotate_left 1
   · go_simp
     try simp only [e1, e2]
     refine gives_mk ?_ rfl
     with_reducible rfl
   refine g_tk 28 (v := ?_) HG HQP (fun w hS => ?_) ?_
   rotate_left 1
   · go_simp
     try simp only [e1, e2]
     refine gives_mk ?_ rfl
     with_reducible rfl
   refine g_tk 29 (v := ?_) HG HQP (fun w hS => ?_) ?_
   rotate_left 1
   · go_simp
     try simp only [e1, e2]
     refine gives_mk ?_ rfl
     with_reducible rfl
   refine g_tk 30 (v := ?_) HG HQP (fun w hS => ?_) ?_
   rotate_left 1
   · go_simp
     try simp only [e1, e2]
     refine gives_mk ?_ rfl
     with_reducible rfl
   refine g_last (k := 31) (by kernel_rfl) (by kernel_rfl) (by kernel_rfl) rfl (by kernel_rfl) (fun w hS R hR1 hR2 => ?_)
   have hq9 := HQE.out
   subst hq9
   have HR1 := Lib.hid hR1
   have HR2 := Lib.hid hR2
   clear hR1 hR2 HG HQP HQE
   go_simp
   refine entersM_call ((need_no w).mono ?_)
   rintro e' w' ⟨rfl, rfl⟩
   refine HR2.out _ _ ?_
   exact ⟨rfl, .inr ⟨rfl, rfl⟩, (HXA.out.trans hS)⟩
def ActE (w0 : World) (T : Nat) (o : Option Sn) (l : Lg) (wy st : Value) (p g : Int) (e : Ending) (w' : World) : Prop :=
 (∃ y, o = some y ∧ TrRet w0 T y l wy st p g e w') ∨ (o = none ∧ e = .panicked impC ∧ Ext w0 w')
set_option maxRecDepth 100000 in
set_option maxHeartbeats 16000000 in
theorem mprocStart_any (w0 w : World) (T : Nat) (x : Sn) (l : Lg) (wy st : Value) (p g : Int) (A : Option Addr) (c : Nat) (D : Option Addr) (d : Nat) (h : Tr w0 w T x l wy st p g A c D d) (hri : Md.rises x.gs) (hl : x.ps.length ≤ 1000 ∧ x.gs.length ≤ 1000) (hsq : (∀ q ∈ x.ps, 0 ≤ q.2 ∧ q.2 < 4611686018427387904) ∧ ∀ q ∈ x.gs, 0 ≤ q.2.2.2 ∧ q.2.2.2 < 4611686018427387904) (o : Option Sn) (ho : (if p = 0 ∧ g = 0 ∧ Md.free x.ps l.p l.seq = true then some { x with ps := Md.setP x.ps l.p l.m } else none) = o) :
    Calls Tryd.prog 62 #[.pointer (some ⟨T, 0, none⟩)] w (ActE w0 T o l wy st p g) := by
 obtain ⟨time, ps, gs⟩ := x
 obtain ⟨lt, lm, kd, lg, lp, ls⟩ := l
 simp only at hri hl hsq ho
 have HO := Lib.hid ho
 have HH := Lib.hid h
 have HRI := Lib.hid hri
 have HL := Lib.hid hl
 have HSQ := Lib.hid hsq
 have q11 := blk_cell h.box 11 _ rfl
 have q12 := blk_cell h.box 12 _ rfl
 clear h hri hl hsq ho
 go_enter Tryd.func62, Tryd.ntmps62
 by_cases k1 : p = 0
 rotate_left 1
 · have e1 : (p == 0) = false := by simpa using k1
   have K1 := Lib.hid k1
   clear k1
   go_wp2_with fail
   refine (need_no _).mono ?_
   rintro e' w' ⟨rfl, rfl⟩
   go_wp2
   exact ⟨rfl, .inr ⟨by rw [← HO.out]; exact if_neg (fun hh => K1.out hh.1), rfl, HH.out.ext⟩⟩
 have e1 : (p == 0) = true := by simpa using k1
 have K1 := Lib.hid k1
 clear k1
 by_cases k2 : g = 0
 rotate_left 1
 · have e2 : (g == 0) = false := by simpa using k2
   have K2 := Lib.hid k2
   clear k2
   go_wp2_with fail
   refine (need_no _).mono ?_
   rintro e' w' ⟨rfl, rfl⟩
   go_wp2
   exact ⟨rfl, .inr ⟨by rw [← HO.out]; exact if_neg (fun hh => K2.out hh.2.1), rfl, HH.out.ext⟩⟩
 have e2 : (g == 0) = true := by simpa using k2
 have K2 := Lib.hid k2
 clear k2
 go_wp2_with fail
 refine (need_yes _).mono ?_
 rintro e' w' ⟨rfl, rfl⟩
 clear e1 e2 q11 q12
 go_wp2_with fail
 obtain ⟨fr, hfr⟩ : ∃ fr, Md.free ps lp ls = fr := ⟨_, rfl⟩
 refine (mvacant_any w0 _ T ⟨time, ps, gs⟩ ⟨lt, lm, kd, lg, lp, ls⟩ wy st p g A c D d HH.out fr hfr (by have := HL.out; simp only; omega)).mono ?_
 rintro e' wa ⟨hn, hxa⟩
 have HXA := Lib.hid hxa
 have HFR := Lib.hid hfr
 clear hxa hfr
 rcases hn with ⟨rfl, rfl⟩ | ⟨rfl, rfl⟩
 rotate_left 1
 · go_wp2
   exact ⟨rfl, .inr ⟨by rw [← HO.out]; exact if_neg (fun hh => by rw [HFR.out] at hh; cases hh.2.2), rfl, HH.out.ext.trans HXA.out⟩⟩
 obtain ⟨k, hpk, hkl⟩ := Md.free_range HFR.out
 subst hpk
 obtain ⟨⟨qa, qb⟩, hq⟩ : ∃ q, ps[k]? = some q := ⟨_, List.getElem?_eq_getElem hkl⟩
 have HQ := Lib.hid hq
 have HHA := Lib.hid (HH.out.more HXA.out)
 clear hq hkl
 go_upto_region 2 with fail
 have u4 : ∀ v, Ext wa v → v.cell? ⟨T, 4, none⟩ = some (.int .i64 lm) := fun v hv => blk_cell (hv.blk HHA.out.box) 4 _ rfl
 have u7 : ∀ v, Ext wa v → v.cell? ⟨T, 7, none⟩ = some (.int .i64 ((k : Int) + 1)) := fun v hv => blk_cell (hv.blk HHA.out.box) 7 _ rfl
 refine region_gq 11 (fun v => Ext (wa) v) (fun v => Ext (wa) v) (by kernel_rfl) (Ext.refl _).drew (fun _ _ d _ _ h => by cases d <;> exact h) ?_
 intro Q9 HQE HQP
 have HG : ∀ (l : Array Bool) v, Ext (wa) v → l.getD 11 false = false → Ext (wa) v := fun _ _ h _ => h
 refine g_tk 0 (v := ?_) HG HQP (fun w hS => ?_) ?_
 rotate_left 1
 · go_simp; refine gives_mk ?_ rfl; with_reducible rfl
 refine g_tk 1 (v := ?_) HG HQP (fun w hS => ?_) ?_
 rotate_left 1
 · go_simp; refine gives_mk ?_ rfl; with_reducible rfl
 refine g_tk 2 (v := ?_) HG HQP (fun w hS => ?_) ?_
 rotate_left 1
 · go_simp; refine gives_mk ?_ rfl; with_reducible rfl
 refine g_tk 3 (v := ?_) HG HQP (fun w hS => ?_) ?_
 rotate_left 1
 · go_simp; refine gives_mk ?_ rfl; with_reducible rfl
 refine g_tk 4 (v := ?_) HG HQP (fun w hS => ?_) ?_
 rotate_left 1
 · go_simp; refine gives_mk ?_ rfl; with_reducible rfl
 refine g_tk 5 (v := ?_) HG HQP (fun w hS => ?_) ?_
 rotate_left 1
 · go_simp; refine gives_mk ?_ rfl; with_reducible rfl
 refine g_tk 6 (v := ?_) HG HQP (fun w hS => ?_) ?_
 rotate_left 1
 · go_simp; refine gives_mk ?_ rfl; with_reducible rfl
 refine g_tk 7 (v := ?_) HG HQP (fun w hS => ?_) ?_
 rotate_left 1
 · go_simp; refine gives_mk ?_ rfl; with_reducible rfl
 refine g_tk 8 (v := ?_) HG HQP (fun w hS => ?_) ?_
 rotate_left 1
 · go_simp; refine gives_mk ?_ rfl; with_reducible rfl
 refine g_tk 9 (v := ?_) HG HQP (fun w hS => ?_) ?_
 rotate_left 1
 · go_simp; refine gives_mk ?_ rfl; with_reducible rfl
 refine g_tk 10 (v := ?_) HG HQP (fun w hS => ?_) ?_
 rotate_left 1
 · go_simp; refine gives_mk ?_ rfl; with_reducible rfl
 refine g_last (k := 11) (by kernel_rfl) (by kernel_rfl) (by kernel_rfl) rfl (by kernel_rfl) (fun w hS R hR1 hR2 => ?_)
 have hq9 := HQE.out
 subst hq9
 have HR1 := Lib.hid hR1
 have HR2 := Lib.hid hR2
 clear hR1 hR2 HG HQP HQE
 go_simp
 refine entersM_call ((mgive_any w0 w T ⟨time, ps, gs⟩ ⟨lt, lm, kd, lg, (k : Int) + 1, ls⟩ wy st p g A c D d (HHA.out.more hS) k lm _ _ HQ.out (HSQ.out.1 _ (List.mem_of_getElem? HQ.out)) (by have := HL.out; simp only; omega)).mono ?_)
 rintro e' w' ⟨rfl, A', c', D', d', hT'⟩
 have HT9 := Lib.hid hT'
 clear hT' hS
 refine HR1.out _ _ ?_
 go_simp
 go_wp2
 first | go_end0 | skip
 exact .inl ⟨_, by rw [← HO.out]; rw [if_pos ⟨K1.out, K2.out, HFR.out⟩, Md.setP_at HQ.out], rfl, A', c', D', d', HT9.out⟩
end Go.Proofs.YtohncgikdlbogaaDoor
