/-
  Several texts in one: Hr, Hz, Hza, Hq, Hzb.
-/
import Derived.Test.YtohncgikdlbogaaDoorE07
import Derived.Test.YtohncgikdlbogaaDoorE05
set_option linter.unusedVariables false
set_option linter.unusedSimpArgs false
namespace Go.Proofs.YtohncgikdlbogaaDoor
open Go.RowKit
set_option maxRecDepth 100000 in
set_option maxHeartbeats 16000000 in
theorem msysExit_any (w0 w : World) (T : Nat) (x : Sn) (l : Lg) (wy st : Value) (p g : Int) (A : Option Addr) (c : Nat) (D : Option Addr) (d : Nat) (h : Tr w0 w T x l wy st p g A c D d) (hri : Md.rises x.gs) (hl : x.ps.length ≤ 1000 ∧ x.gs.length ≤ 1000) (hsq : (∀ q ∈ x.ps, 0 ≤ q.2 ∧ q.2 < 4611686018427387904) ∧ ∀ q ∈ x.gs, 0 ≤ q.2.2.2 ∧ q.2.2.2 < 4611686018427387904) (hfg : g ≠ 0 → ∃ k, Md.fnd x.gs g = some k) (o : Option Sn) (ho : (if p = 0 ∧ g ≠ 0 ∧ l.g = g ∧ (l.p = 0 ∧ l.seq = 0 ∨ Md.free x.ps l.p l.seq = true) then some (if l.p = 0 then { x with gs := Md.setG x.gs l.g 1 0 } else { x with gs := Md.setG x.gs l.g 2 l.m, ps := Md.setP x.ps l.p l.m } : Sn) else none) = o) :
    Calls Tryd.prog 71 #[.pointer (some ⟨T, 0, none⟩)] w (ActE w0 T o l wy st p g) := by
 obtain ⟨time, ps, gs⟩ := x
 obtain ⟨lt, lm, kd, lg, lp, ls⟩ := l
 simp only at hri hl hsq ho hfg
 have HFG := Lib.hid hfg
 have HO := Lib.hid ho
 have HH := Lib.hid h
 have HRI := Lib.hid hri
 have HL := Lib.hid hl
 have HSQ := Lib.hid hsq
 have q11 := blk_cell h.box 11 _ rfl
 have q12 := blk_cell h.box 12 _ rfl
 have q7 := blk_cell h.box 7 _ rfl
 clear h hri hl hsq ho hfg q11 q12 q7
 go_enter Tryd.func71, Tryd.ntmps71
 go_upto_region 0 with fail
 by_cases k1 : p = 0
 rotate_left 1
 · have e1 : (p == 0) = false := by simpa using k1
   have f1 : (p != 0) = true := by simpa using k1
   have K1 := Lib.hid k1
   clear k1
   have u6 : ∀ v, Ext w v → v.cell? ⟨T, 6, none⟩ = some (.int .i64 lg) := fun v hv => blk_cell (hv.blk HH.out.box) 6 _ rfl
   have u11 : ∀ v, Ext w v → v.cell? ⟨T, 11, none⟩ = some (.int .i64 p) := fun v hv => blk_cell (hv.blk HH.out.box) 11 _ rfl
   have u12 : ∀ v, Ext w v → v.cell? ⟨T, 12, none⟩ = some (.int .i64 g) := fun v hv => blk_cell (hv.blk HH.out.box) 12 _ rfl
   refine region_gq 24 (fun v => Ext (w) v) (fun v => Ext (w) v) (by kernel_rfl) (Ext.refl _).drew (fun _ _ d _ _ h => by cases d <;> exact h) ?_
   intro Q9 HQE HQP
   have HG : ∀ (l : Array Bool) v, Ext (w) v → l.getD 24 false = false → Ext (w) v := fun _ _ h _ => h
   refine g_tk 0 (v := ?_) HG HQP (fun w hS => ?_) ?_
   rotate_left 1
   · go_simp
     try simp only [e1, f1]
     refine gives_mk ?_ rfl
     with_reducible rfl
   refine g_tk 1 (v := ?_) HG HQP (fun w hS => ?_) ?_
   rotate_left 1
   · go_simp
     try simp only [e1, f1]
     refine gives_mk ?_ rfl
     with_reducible rfl
   refine g_tk 2 (v := ?_) HG HQP (fun w hS => ?_) ?_
   rotate_left 1
   · go_simp
     try simp only [e1, f1]
     refine gives_mk ?_ rfl
     with_reducible rfl
   refine g_tk 3 (v := ?_) HG HQP (fun w hS => ?_) ?_
   rotate_left 1
   · go_simp
     try simp only [e1, f1]
     refine gives_mk ?_ rfl
     with_reducible rfl
   refine g_tk 4 (v := ?_) HG HQP (fun w hS => ?_) ?_
   rotate_left 1
   · go_simp
     try simp only [e1, f1]
     refine gives_mk ?_ rfl
     with_reducible rfl
   refine g_tk 5 (v := ?_) HG HQP (fun w hS => ?_) ?_
   rotate_left 1
   · go_simp
     try simp only [e1, f1]
     refine gives_mk ?_ rfl
     with_reducible rfl
   refine g_take (HG _) (i := 6) rfl (by kernel_rfl) (by kernel_rfl) (by kernel_rfl) (by kernel_rfl) (by kernel_rfl) (fun c a w h => HQP c a _ _ w h) (Still.no (by kernel_rfl)) ?_
   refine g_take (HG _) (i := 7) rfl (by kernel_rfl) (by kernel_rfl) (by kernel_rfl) (by kernel_rfl) (by kernel_rfl) (fun c a w h => HQP c a _ _ w h) (Still.no (by kernel_rfl)) ?_
   refine g_take (HG _) (i := 8) rfl (by kernel_rfl) (by kernel_rfl) (by kernel_rfl) (by kernel_rfl) (by kernel_rfl) (fun c a w h => HQP c a _ _ w h) (Still.no (by kernel_rfl)) ?_
   refine g_take (HG _) (i := 9) rfl (by kernel_rfl) (by kernel_rfl) (by kernel_rfl) (by kernel_rfl) (by kernel_rfl) (fun c a w h => HQP c a _ _ w h) (Still.no (by kernel_rfl)) ?_
   refine g_take (HG _) (i := 10) rfl (by kernel_rfl) (by kernel_rfl) (by kernel_rfl) (by kernel_rfl) (by kernel_rfl) (fun c a w h => HQP c a _ _ w h) (Still.no (by kernel_rfl)) ?_
   refine g_tk 11 (v := ?_) HG HQP (fun w hS => ?_) ?_
   rotate_left 1
   · go_simp
     try simp only [e1, f1]
     refine gives_mk ?_ rfl
     with_reducible rfl
   refine g_tk 12 (v := ?_) HG HQP (fun w hS => ?_) ?_
   rotate_left 1
   · go_simp
     try simp only [e1, f1]
     refine gives_mk ?_ rfl
     with_reducible rfl
   refine g_take (HG _) (i := 13) rfl (by kernel_rfl) (by kernel_rfl) (by kernel_rfl) (by kernel_rfl) (by kernel_rfl) (fun c a w h => HQP c a _ _ w h) (Still.no (by kernel_rfl)) ?_
   refine g_take (HG _) (i := 14) rfl (by kernel_rfl) (by kernel_rfl) (by kernel_rfl) (by kernel_rfl) (by kernel_rfl) (fun c a w h => HQP c a _ _ w h) (Still.no (by kernel_rfl)) ?_
   refine g_take (HG _) (i := 15) rfl (by kernel_rfl) (by kernel_rfl) (by kernel_rfl) (by kernel_rfl) (by kernel_rfl) (fun c a w h => HQP c a _ _ w h) (Still.no (by kernel_rfl)) ?_
   refine g_take (HG _) (i := 16) rfl (by kernel_rfl) (by kernel_rfl) (by kernel_rfl) (by kernel_rfl) (by kernel_rfl) (fun c a w h => HQP c a _ _ w h) (Still.no (by kernel_rfl)) ?_
   refine g_take (HG _) (i := 17) rfl (by kernel_rfl) (by kernel_rfl) (by kernel_rfl) (by kernel_rfl) (by kernel_rfl) (fun c a w h => HQP c a _ _ w h) (Still.no (by kernel_rfl)) ?_
   refine g_take (HG _) (i := 18) rfl (by kernel_rfl) (by kernel_rfl) (by kernel_rfl) (by kernel_rfl) (by kernel_rfl) (fun c a w h => HQP c a _ _ w h) (Still.no (by kernel_rfl)) ?_
   refine g_take (HG _) (i := 19) rfl (by kernel_rfl) (by kernel_rfl) (by kernel_rfl) (by kernel_rfl) (by kernel_rfl) (fun c a w h => HQP c a _ _ w h) (Still.no (by kernel_rfl)) ?_
   refine g_take (HG _) (i := 20) rfl (by kernel_rfl) (by kernel_rfl) (by kernel_rfl) (by kernel_rfl) (by kernel_rfl) (fun c a w h => HQP c a _ _ w h) (Still.no (by kernel_rfl)) ?_
   refine g_take (HG _) (i := 21) rfl (by kernel_rfl) (by kernel_rfl) (by kernel_rfl) (by kernel_rfl) (by kernel_rfl) (fun c a w h => HQP c a _ _ w h) (Still.no (by kernel_rfl)) ?_
   refine g_take (HG _) (i := 22) rfl (by kernel_rfl) (by kernel_rfl) (by kernel_rfl) (by kernel_rfl) (by kernel_rfl) (fun c a w h => HQP c a _ _ w h) (Still.no (by kernel_rfl)) ?_
   refine g_tk 23 (v := ?_) HG HQP (fun w hS => ?_) ?_
   rotate_left 1
   · go_simp
     try simp only [e1, f1]
     refine gives_mk ?_ rfl
     with_reducible rfl
   refine g_last (k := 24) (by kernel_rfl) (by kernel_rfl) (by kernel_rfl) rfl (by kernel_rfl) (fun w hS R hR1 hR2 => ?_)
   have hq9 := HQE.out
   subst hq9
   have HR1 := Lib.hid hR1
   have HR2 := Lib.hid hR2
   clear hR1 hR2 HG HQP HQE
   go_simp
   refine entersM_call ((need_no w).mono ?_)
   rintro e' w' ⟨rfl, rfl⟩
   refine HR2.out _ _ ?_
   exact ⟨rfl, .inr ⟨by rw [← HO.out]; exact if_neg (fun hh => K1.out hh.1), rfl, HH.out.ext.trans hS⟩⟩
 have e1 : (p == 0) = true := by simpa using k1
 have f1 : (p != 0) = false := by simp [k1]
 have K1 := Lib.hid k1
 clear k1
 by_cases k2 : g = 0
 · have e2 : (g == 0) = true := by simpa using k2
   have f2 : (g != 0) = false := by simp [k2]
   have K2 := Lib.hid k2
   clear k2
   have u6 : ∀ v, Ext w v → v.cell? ⟨T, 6, none⟩ = some (.int .i64 lg) := fun v hv => blk_cell (hv.blk HH.out.box) 6 _ rfl
   have u11 : ∀ v, Ext w v → v.cell? ⟨T, 11, none⟩ = some (.int .i64 p) := fun v hv => blk_cell (hv.blk HH.out.box) 11 _ rfl
   have u12 : ∀ v, Ext w v → v.cell? ⟨T, 12, none⟩ = some (.int .i64 g) := fun v hv => blk_cell (hv.blk HH.out.box) 12 _ rfl
   refine region_gq 24 (fun v => Ext (w) v) (fun v => Ext (w) v) (by kernel_rfl) (Ext.refl _).drew (fun _ _ d _ _ h => by cases d <;> exact h) ?_
   intro Q9 HQE HQP
   have HG : ∀ (l : Array Bool) v, Ext (w) v → l.getD 24 false = false → Ext (w) v := fun _ _ h _ => h
   refine g_tk 0 (v := ?_) HG HQP (fun w hS => ?_) ?_
   rotate_left 1
   · go_simp
     try simp only [e1, f1, e2, f2]
     refine gives_mk ?_ rfl
     with_reducible rfl
   refine g_tk 1 (v := ?_) HG HQP (fun w hS => ?_) ?_
   rotate_left 1
   · go_simp
     try simp only [e1, f1, e2, f2]
     refine gives_mk ?_ rfl
     with_reducible rfl
   refine g_tk 2 (v := ?_) HG HQP (fun w hS => ?_) ?_
   rotate_left 1
   · go_simp
     try simp only [e1, f1, e2, f2]
     refine gives_mk ?_ rfl
     with_reducible rfl
   refine g_tk 3 (v := ?_) HG HQP (fun w hS => ?_) ?_
   rotate_left 1
   · go_simp
     try simp only [e1, f1, e2, f2]
     refine gives_mk ?_ rfl
     with_reducible rfl
   refine g_tk 4 (v := ?_) HG HQP (fun w hS => ?_) ?_
   rotate_left 1
   · go_simp
     try simp only [e1, f1, e2, f2]
     refine gives_mk ?_ rfl
     with_reducible rfl
   refine g_tk 5 (v := ?_) HG HQP (fun w hS => ?_) ?_
   rotate_left 1
   · go_simp
     try simp only [e1, f1, e2, f2]
     refine gives_mk ?_ rfl
     with_reducible rfl
   refine g_tk 6 (v := ?_) HG HQP (fun w hS => ?_) ?_
   rotate_left 1
   · go_simp
     try simp only [e1, f1, e2, f2]
     refine gives_mk ?_ rfl
     with_reducible rfl
   refine g_tk 7 (v := ?_) HG HQP (fun w hS => ?_) ?_
   rotate_left 1
   · go_simp
     try simp only [e1, f1, e2, f2]
     refine gives_mk ?_ rfl
     with_reducible rfl
   refine g_tk 8 (v := ?_) HG HQP (fun w hS => ?_) ?_
   rotate_left 1
   · go_simp
     try simp only [e1, f1, e2, f2]
     refine gives_mk ?_ rfl
     with_reducible rfl
   refine g_tk 9 (v := ?_) HG HQP (fun w hS => ?_) ?_
   rotate_left 1
   · go_simp
     try simp only [e1, f1, e2, f2]
     refine gives_mk ?_ rfl
     with_reducible rfl
   refine g_tk 10 (v := ?_) HG HQP (fun w hS => ?_) ?_
   rotate_left 1
   · go_simp
     try simp only [e1, f1, e2, f2]
     refine gives_mk ?_ rfl
     with_reducible rfl
   refine g_tk 11 (v := ?_) HG HQP (fun w hS => ?_) ?_
   rotate_left 1
   · go_simp
     try simp only [e1, f1, e2, f2]
     refine gives_mk ?_ rfl
     with_reducible rfl
   refine g_tk 12 (v := ?_) HG HQP (fun w hS => ?_) ?_
   rotate_left 1
   · go_simp
     try simp only [e1, f1, e2, f2]
     refine gives_mk ?_ rfl
     with_reducible rfl
   refine g_take (HG _) (i := 13) rfl (by kernel_rfl) (by kernel_rfl) (by kernel_rfl) (by kernel_rfl) (by kernel_rfl) (fun c a w h => HQP c a _ _ w h) (Still.no (by kernel_rfl)) ?_
   refine g_take (HG _) (i := 14) rfl (by kernel_rfl) (by kernel_rfl) (by kernel_rfl) (by kernel_rfl) (by kernel_rfl) (fun c a w h => HQP c a _ _ w h) (Still.no (by kernel_rfl)) ?_
   refine g_take (HG _) (i := 15) rfl (by kernel_rfl) (by kernel_rfl) (by kernel_rfl) (by kernel_rfl) (by kernel_rfl) (fun c a w h => HQP c a _ _ w h) (Still.no (by kernel_rfl)) ?_
   refine g_take (HG _) (i := 16) rfl (by kernel_rfl) (by kernel_rfl) (by kernel_rfl) (by kernel_rfl) (by kernel_rfl) (fun c a w h => HQP c a _ _ w h) (Still.no (by kernel_rfl)) ?_
   refine g_take (HG _) (i := 17) rfl (by kernel_rfl) (by kernel_rfl) (by kernel_rfl) (by kernel_rfl) (by kernel_rfl) (fun c a w h => HQP c a _ _ w h) (Still.no (by kernel_rfl)) ?_
   refine g_take (HG _) (i := 18) rfl (by kernel_rfl) (by kernel_rfl) (by kernel_rfl) (by kernel_rfl) (by kernel_rfl) (fun c a w h => HQP c a _ _ w h) (Still.no (by kernel_rfl)) ?_
   refine g_take (HG _) (i := 19) rfl (by kernel_rfl) (by kernel_rfl) (by kernel_rfl) (by kernel_rfl) (by kernel_rfl) (fun c a w h => HQP c a _ _ w h) (Still.no (by kernel_rfl)) ?_
   refine g_take (HG _) (i := 20) rfl (by kernel_rfl) (by kernel_rfl) (by kernel_rfl) (by kernel_rfl) (by kernel_rfl) (fun c a w h => HQP c a _ _ w h) (Still.no (by kernel_rfl)) ?_
   refine g_take (HG _) (i := 21) rfl (by kernel_rfl) (by kernel_rfl) (by kernel_rfl) (by kernel_rfl) (by kernel_rfl) (fun c a w h => HQP c a _ _ w h) (Still.no (by kernel_rfl)) ?_
   refine g_take (HG _) (i := 22) rfl (by kernel_rfl) (by kernel_rfl) (by kernel_rfl) (by kernel_rfl) (by kernel_rfl) (fun c a w h => HQP c a _ _ w h) (Still.no (by kernel_rfl)) ?_
   refine g_tk 23 (v := ?_) HG HQP (fun w hS => ?_) ?_
   rotate_left 1
   · go_simp
     try simp only [e1, f1, e2, f2]
     refine gives_mk ?_ rfl
     with_reducible rfl
   refine g_last (k := 24) (by kernel_rfl) (by kernel_rfl) (by kernel_rfl) rfl (by kernel_rfl) (fun w hS R hR1 hR2 => ?_)
   have hq9 := HQE.out
   subst hq9
   have HR1 := Lib.hid hR1
   have HR2 := Lib.hid hR2
   clear hR1 hR2 HG HQP HQE
   go_simp
   refine entersM_call ((need_no w).mono ?_)
   rintro e' w' ⟨rfl, rfl⟩
   refine HR2.out _ _ ?_
   exact ⟨rfl, .inr ⟨by rw [← HO.out]; exact if_neg (fun hh => hh.2.1 K2.out), rfl, HH.out.ext.trans hS⟩⟩
 have e2 : (g == 0) = false := by simpa using k2
 have f2 : (g != 0) = true := by simpa using k2
 have K2 := Lib.hid k2
 clear k2
 by_cases k3 : lg = g
 rotate_left 1
 · have e3 : (lg == g) = false := by simpa using k3
   have f3 : (lg != g) = true := by simpa using k3
   have K3 := Lib.hid k3
   clear k3
   have u6 : ∀ v, Ext w v → v.cell? ⟨T, 6, none⟩ = some (.int .i64 lg) := fun v hv => blk_cell (hv.blk HH.out.box) 6 _ rfl
   have u11 : ∀ v, Ext w v → v.cell? ⟨T, 11, none⟩ = some (.int .i64 p) := fun v hv => blk_cell (hv.blk HH.out.box) 11 _ rfl
   have u12 : ∀ v, Ext w v → v.cell? ⟨T, 12, none⟩ = some (.int .i64 g) := fun v hv => blk_cell (hv.blk HH.out.box) 12 _ rfl
   refine region_gq 24 (fun v => Ext (w) v) (fun v => Ext (w) v) (by kernel_rfl) (Ext.refl _).drew (fun _ _ d _ _ h => by cases d <;> exact h) ?_
   intro Q9 HQE HQP
   have HG : ∀ (l : Array Bool) v, Ext (w) v → l.getD 24 false = false → Ext (w) v := fun _ _ h _ => h
   refine g_tk 0 (v := ?_) HG HQP (fun w hS => ?_) ?_
   rotate_left 1
   · go_simp
     try simp only [e1, f1, e2, f2, e3, f3]
     refine gives_mk ?_ rfl
     with_reducible rfl
   refine g_tk 1 (v := ?_) HG HQP (fun w hS => ?_) ?_
   rotate_left 1
   · go_simp
     try simp only [e1, f1, e2, f2, e3, f3]
     refine gives_mk ?_ rfl
     with_reducible rfl
   refine g_tk 2 (v := ?_) HG HQP (fun w hS => ?_) ?_
   rotate_left 1
   · go_simp
     try simp only [e1, f1, e2, f2, e3, f3]
     refine gives_mk ?_ rfl
     with_reducible rfl
   refine g_tk 3 (v := ?_) HG HQP (fun w hS => ?_) ?_
   rotate_left 1
   · go_simp
     try simp only [e1, f1, e2, f2, e3, f3]
     refine gives_mk ?_ rfl
     with_reducible rfl
   refine g_tk 4 (v := ?_) HG HQP (fun w hS => ?_) ?_
   rotate_left 1
   · go_simp
     try simp only [e1, f1, e2, f2, e3, f3]
     refine gives_mk ?_ rfl
     with_reducible rfl
   refine g_tk 5 (v := ?_) HG HQP (fun w hS => ?_) ?_
   rotate_left 1
   · go_simp
     try simp only [e1, f1, e2, f2, e3, f3]
     refine gives_mk ?_ rfl
     with_reducible rfl
   refine g_tk 6 (v := ?_) HG HQP (fun w hS => ?_) ?_
   rotate_left 1
   · go_simp
     try simp only [e1, f1, e2, f2, e3, f3]
     refine gives_mk ?_ rfl
     with_reducible rfl
   refine g_tk 7 (v := ?_) HG HQP (fun w hS => ?_) ?_
   rotate_left 1
   · go_simp
     try simp only [e1, f1, e2, f2, e3, f3]
     refine gives_mk ?_ rfl
     with_reducible rfl
   refine g_tk 8 (v := ?_) HG HQP (fun w hS => ?_) ?_
   rotate_left 1
   · go_simp
     try simp only [e1, f1, e2, f2, e3, f3]
     refine gives_mk ?_ rfl
     with_reducible rfl
   refine g_tk 9 (v := ?_) HG HQP (fun w hS => ?_) ?_
   rotate_left 1
   · go_simp
     try simp only [e1, f1, e2, f2, e3, f3]
     refine gives_mk ?_ rfl
     with_reducible rfl
   refine g_tk 10 (v := ?_) HG HQP (fun w hS => ?_) ?_
   rotate_left 1
   · go_simp
     try simp only [e1, f1, e2, f2, e3, f3]
     refine gives_mk ?_ rfl
     with_reducible rfl
   refine g_tk 11 (v := ?_) HG HQP (fun w hS => ?_) ?_
   rotate_left 1
   · go_simp
     try simp only [e1, f1, e2, f2, e3, f3]
     refine gives_mk ?_ rfl
     with_reducible rfl
   refine g_tk 12 (v := ?_) HG HQP (fun w hS => ?_) ?_
   rotate_left 1
   · go_simp
     try simp only [e1, f1, e2, f2, e3, f3]
     refine gives_mk ?_ rfl
     with_reducible rfl
   refine g_tk 13 (v := ?_) HG HQP (fun w hS => ?_) ?_
   rotate_left 1
   · go_simp
     try simp only [e1, f1, e2, f2, e3, f3]
     refine gives_mk ?_ rfl
     with_reducible rfl
   refine g_tk 14 (v := ?_) HG HQP (fun w hS => ?_) ?_
   rotate_left 1
   · go_simp
     try simp only [e1, f1, e2, f2, e3, f3]
     refine gives_mk ?_ rfl
     with_reducible rfl
   refine g_tk 15 (v := ?_) HG HQP (fun w hS => ?_) ?_
   rotate_left 1
   · go_simp
     try simp only [e1, f1, e2, f2, e3, f3]
     refine gives_mk ?_ rfl
     with_reducible rfl
   refine g_tk 16 (v := ?_) HG HQP (fun w hS => ?_) ?_
   rotate_left 1
   · go_simp
     try simp only [e1, f1, e2, f2, e3, f3]
     refine gives_mk ?_ rfl
     with_reducible rfl
   refine g_tk 17 (v := ?_) HG HQP (fun w hS => ?_) ?_
   rotate_left 1
   · go_simp
     try simp only [e1, f1, e2, f2, e3, f3]
     refine gives_mk ?_ rfl
     with_reducible rfl
   refine g_tk 18 (v := ?_) HG HQP (fun w hS => ?_) ?_
   rotate_left 1
   · go_simp
     try simp only [e1, f1, e2, f2, e3, f3]
     refine gives_mk ?_ rfl
     with_reducible rfl
   refine g_tk 19 (v := ?_) HG HQP (fun w hS => ?_) ?_
   rotate_left 1
   · go_simp
     try simp only [e1, f1, e2, f2, e3, f3]
     refine gives_mk ?_ rfl
     with_reducible rfl
   refine g_tk 20 (v := ?_) HG HQP (fun w hS => ?_) ?_
   rotate_left 1
   · go_simp
     try simp only [e1, f1, e2, f2, e3, f3]
     refine gives_mk ?_ rfl
     with_reducible rfl
   refine g_tk 21 (v := ?_) HG HQP (fun w hS => ?_) ?_
   rotate_left 1
   · go_simp
     try simp only [e1, f1, e2, f2, e3, f3]
     refine gives_mk ?_ rfl
     with_reducible rfl
   refine g_tk 22 (v := ?_) HG HQP (fun w hS => ?_) ?_
   rotate_left 1
   · go_simp
     try simp only [e1, f1, e2, f2, e3, f3]
     refine gives_mk ?_ rfl
     with_reducible rfl
   refine g_tk 23 (v := ?_) HG HQP (fun w hS => ?_) ?_
   rotate_left 1
   · go_simp
     try simp only [e1, f1, e2, f2, e3, f3]
     refine gives_mk ?_ rfl
     with_reducible rfl
   refine g_last (k := 24) (by kernel_rfl) (by kernel_rfl) (by kernel_rfl) rfl (by kernel_rfl) (fun w hS R hR1 hR2 => ?_)
   have hq9 := HQE.out
   subst hq9
   have HR1 := Lib.hid hR1
   have HR2 := Lib.hid hR2
   clear hR1 hR2 HG HQP HQE
   go_simp
   refine entersM_call ((need_no w).mono ?_)
   rintro e' w' ⟨rfl, rfl⟩
   refine HR2.out _ _ ?_
   exact ⟨rfl, .inr ⟨by rw [← HO.out]; exact if_neg (fun hh => K3.out hh.2.2.1), rfl, HH.out.ext.trans hS⟩⟩
 have e3 : (lg == g) = true := by simpa using k3
 have f3 : (lg != g) = false := by simp [k3]
 have K3 := Lib.hid k3
 clear k3
 have u6 : ∀ v, Ext w v → v.cell? ⟨T, 6, none⟩ = some (.int .i64 lg) := fun v hv => blk_cell (hv.blk HH.out.box) 6 _ rfl
 have u11 : ∀ v, Ext w v → v.cell? ⟨T, 11, none⟩ = some (.int .i64 p) := fun v hv => blk_cell (hv.blk HH.out.box) 11 _ rfl
 have u12 : ∀ v, Ext w v → v.cell? ⟨T, 12, none⟩ = some (.int .i64 g) := fun v hv => blk_cell (hv.blk HH.out.box) 12 _ rfl
 refine region_gq 24 (fun v => Ext (w) v) (fun v => Ext (w) v) (by kernel_rfl) (Ext.refl _).drew (fun _ _ d _ _ h => by cases d <;> exact h) ?_
 intro Q9 HQE HQP
 have HG : ∀ (l : Array Bool) v, Ext (w) v → l.getD 24 false = false → Ext (w) v := fun _ _ h _ => h
 refine g_tk 0 (v := ?_) HG HQP (fun w hS => ?_) ?_
 rotate_left 1
 · go_simp
   try simp only [e1, f1, e2, f2, e3, f3]
   refine gives_mk ?_ rfl
   with_reducible rfl
 refine g_tk 1 (v := ?_) HG HQP (fun w hS => ?_) ?_
 rotate_left 1
 · go_simp
   try simp only [e1, f1, e2, f2, e3, f3]
   refine gives_mk ?_ rfl
   with_reducible rfl
 refine g_tk 2 (v := ?_) HG HQP (fun w hS => ?_) ?_
 rotate_left 1
 · go_simp
   try simp only [e1, f1, e2, f2, e3, f3]
   refine gives_mk ?_ rfl
   with_reducible rfl
 refine g_tk 3 (v := ?_) HG HQP (fun w hS => ?_) ?_
 rotate_left 1
 · go_simp
   try simp only [e1, f1, e2, f2, e3, f3]
   refine gives_mk ?_ rfl
   with_reducible rfl
 refine g_tk 4 (v := ?_) HG HQP (fun w hS => ?_) ?_
 rotate_left 1
 · go_simp
   try simp only [e1, f1, e2, f2, e3, f3]
   refine gives_mk ?_ rfl
   with_reducible rfl
 refine g_tk 5 (v := ?_) HG HQP (fun w hS => ?_) ?_
 rotate_left 1
 · go_simp
   try simp only [e1, f1, e2, f2, e3, f3]
   refine gives_mk ?_ rfl
   with_reducible rfl
 refine g_tk 6 (v := ?_) HG HQP (fun w hS => ?_) ?_
 rotate_left 1
 · go_simp
   try simp only [e1, f1, e2, f2, e3, f3]
   refine gives_mk ?_ rfl
   with_reducible rfl
 refine g_tk 7 (v := ?_) HG HQP (fun w hS => ?_) ?_
 rotate_left 1
 · go_simp
   try simp only [e1, f1, e2, f2, e3, f3]
   refine gives_mk ?_ rfl
   with_reducible rfl
 refine g_tk 8 (v := ?_) HG HQP (fun w hS => ?_) ?_
 rotate_left 1
 · go_simp
   try simp only [e1, f1, e2, f2, e3, f3]
   refine gives_mk ?_ rfl
   with_reducible rfl
 refine g_tk 9 (v := ?_) HG HQP (fun w hS => ?_) ?_
 rotate_left 1
 · go_simp
   try simp only [e1, f1, e2, f2, e3, f3]
   refine gives_mk ?_ rfl
   with_reducible rfl
 refine g_tk 10 (v := ?_) HG HQP (fun w hS => ?_) ?_
 rotate_left 1
 · go_simp
   try simp only [e1, f1, e2, f2, e3, f3]
   refine gives_mk ?_ rfl
   with_reducible rfl
 refine g_tk 11 (v := ?_) HG HQP (fun w hS => ?_) ?_
 rotate_left 1
 · go_simp
   try simp only [e1, f1, e2, f2, e3, f3]
   refine gives_mk ?_ rfl
   with_reducible rfl
 refine g_tk 12 (v := ?_) HG HQP (fun w hS => ?_) ?_
 rotate_left 1
 · go_simp
   try simp only [e1, f1, e2, f2, e3, f3]
   refine gives_mk ?_ rfl
   with_reducible rfl
 refine g_tk 13 (v := ?_) HG HQP (fun w hS => ?_) ?_
 rotate_left 1
 · go_simp
   try simp only [e1, f1, e2, f2, e3, f3]
   refine gives_mk ?_ rfl
   with_reducible rfl
 refine g_tk 14 (v := ?_) HG HQP (fun w hS => ?_) ?_
 rotate_left 1
 · go_simp
   try simp only [e1, f1, e2, f2, e3, f3]
   refine gives_mk ?_ rfl
   with_reducible rfl
 refine g_tk 15 (v := ?_) HG HQP (fun w hS => ?_) ?_
 rotate_left 1
 · go_simp
   try simp only [e1, f1, e2, f2, e3, f3]
   refine gives_mk ?_ rfl
   with_reducible rfl
 refine g_tk 16 (v := ?_) HG HQP (fun w hS => ?_) ?_
 rotate_left 1
 · go_simp
   try simp only [e1, f1, e2, f2, e3, f3]
   refine gives_mk ?_ rfl
   with_reducible rfl
 refine g_tk 17 (v := ?_) HG HQP (fun w hS => ?_) ?_
 rotate_left 1
 · go_simp
   try simp only [e1, f1, e2, f2, e3, f3]
   refine gives_mk ?_ rfl
   with_reducible rfl
 refine g_tk 18 (v := ?_) HG HQP (fun w hS => ?_) ?_
 rotate_left 1
 · go_simp
   try simp only [e1, f1, e2, f2, e3, f3]
   refine gives_mk ?_ rfl
   with_reducible rfl
 refine g_tk 19 (v := ?_) HG HQP (fun w hS => ?_) ?_
 rotate_left 1
 · go_simp
   try simp only [e1, f1, e2, f2, e3, f3]
   refine gives_mk ?_ rfl
   with_reducible rfl
 refine g_tk 20 (v := ?_) HG HQP (fun w hS => ?_) ?_
 rotate_left 1
 · go_simp
   try simp only [e1, f1, e2, f2, e3, f3]
   refine gives_mk ?_ rfl
   with_reducible rfl
 refine g_tk 21 (v := ?_) HG HQP (fun w hS => ?_) ?_
 rotate_left 1
 · go_simp
   try simp only [e1, f1, e2, f2, e3, f3]
   refine gives_mk ?_ rfl
   with_reducible rfl
 refine g_tk 22 (v := ?_) HG HQP (fun w hS => ?_) ?_
 rotate_left 1
 · go_simp
   try simp only [e1, f1, e2, f2, e3, f3]
   refine gives_mk ?_ rfl
   with_reducible rfl
 refine g_tk 23 (v := ?_) HG HQP (fun w hS => ?_) ?_
 rotate_left 1
 · go_simp
   try simp only [e1, f1, e2, f2, e3, f3]
   refine gives_mk ?_ rfl
   with_reducible rfl
 refine g_last (k := 24) (by kernel_rfl) (by kernel_rfl) (by kernel_rfl) rfl (by kernel_rfl) (fun w hS R hR1 hR2 => ?_)
 have hq9 := HQE.out
 subst hq9
 have HR1 := Lib.hid hR1
 have HR2 := Lib.hid hR2
 clear hR1 hR2 HG HQP HQE
 go_simp
 refine entersM_call ((need_yes w).mono ?_)
 rintro e' w' ⟨rfl, rfl⟩
 have HXB := Lib.hid hS
 clear hS
 refine HR1.out _ _ ?_
 clear u6 u11 u12
 obtain ⟨k, hf⟩ := HFG.out K2.out
 have HLG : Hid (lg = g) := Lib.hid K3.out
 obtain ⟨⟨ya, yb, yc, yd⟩, hq, hya, -⟩ := Md.fnd_some hf
 simp only at hya
 rw [← HLG.out] at hf hya
 subst hya
 have HF := Lib.hid hf
 have HQ := Lib.hid hq
 have HHB := Lib.hid (HH.out.more HXB.out)
 clear hf hq e1 f1 e2 f2 e3 f3
 go_simp
 have q7 := blk_cell HHB.out.box 7 _ rfl
 by_cases k4 : lp = 0
 · subst k4
   have q8 := blk_cell HHB.out.box 8 _ rfl
   have q12 := blk_cell HHB.out.box 12 (.int .i64 ya) (by rw [HLG.out]; rfl)
   by_cases k5 : ls = 0
   rotate_left 1
   · have e5 : (ls == 0) = false := by simpa using k5
     have K5 := Lib.hid k5
     clear k5
     go_wp2_with fail
     refine (need_no _).mono ?_
     rintro e' w' ⟨rfl, rfl⟩
     go_wp2
     exact ⟨rfl, .inr ⟨by rw [← HO.out]; exact if_neg (fun hh => by rcases hh.2.2.2 with h4 | h4; exact K5.out h4.2; unfold Md.free at h4; simp at h4), rfl, HH.out.ext.trans HXB.out⟩⟩
   have e5 : (ls == 0) = true := by simpa using k5
   have K5 := Lib.hid k5
   clear k5
   go_wp2_with fail
   refine (need_yes _).mono ?_
   rintro e' w' ⟨rfl, rfl⟩
   clear e5 q7 q8
   go_wp2_with fail
   refine ((mbecome_any w0 _ T ⟨time, ps, gs⟩ ⟨lt, lm, kd, ya, 0, ls⟩ wy st p g A c D d HHB.out ya 1 0 k _ _ _ _ HRI.out HF.out HQ.out (HSQ.out.2 _ (List.mem_of_getElem? HQ.out)) (by have := HL.out; simp only; omega))).mono ?_
   rintro e' w' ⟨rfl, A2, c2, D2, d2, hT'⟩
   have HT9 := Lib.hid hT'
   clear hT'
   go_wp2
   first | go_end0 | skip
   exact .inl ⟨_, by rw [← HO.out]; rw [if_pos ⟨K1.out, K2.out, K3.out, .inl ⟨by trivial, K5.out⟩⟩, if_pos (c := True) trivial, Md.setG_at HF.out HQ.out], rfl, _, _, _, _, HT9.out⟩
 · have e4 : (lp == 0) = false := by simpa using k4
   have K4 := Lib.hid k4
   clear k4
   go_wp2_with fail
   clear e4 q7
   obtain ⟨fr, hfr⟩ : ∃ fr, Md.free ps lp ls = fr := ⟨_, rfl⟩
   refine (mvacant_any w0 _ T ⟨time, ps, gs⟩ ⟨lt, lm, kd, ya, lp, ls⟩ wy st p g A c D d HHB.out fr hfr (by have := HL.out; simp only; omega)).mono ?_
   rintro e' wa ⟨hn, hxa⟩
   have HXA := Lib.hid hxa
   have HFR := Lib.hid hfr
   clear hxa hfr
   rcases hn with ⟨rfl, rfl⟩ | ⟨rfl, rfl⟩
   rotate_left 1
   · go_wp2
     exact ⟨rfl, .inr ⟨by rw [← HO.out]; exact if_neg (fun hh => by rcases hh.2.2.2 with h4 | h4; exact K4.out h4.1; rw [HFR.out] at h4; cases h4), rfl, HHB.out.ext.trans HXA.out⟩⟩
   obtain ⟨k2, hpk, hkl⟩ := Md.free_range HFR.out
   obtain ⟨⟨qa, qb⟩, hq2⟩ : ∃ q, ps[k2]? = some q := ⟨_, List.getElem?_eq_getElem hkl⟩
   have HQ2 := Lib.hid hq2
   have HPK := Lib.hid hpk
   have HHA := Lib.hid (HHB.out.more HXA.out)
   clear hq2 hkl hpk
   go_upto_region 5 with fail
   have u4 : ∀ v, Ext wa v → v.cell? ⟨T, 4, none⟩ = some (.int .i64 lm) := fun v hv => blk_cell (hv.blk HHA.out.box) 4 _ rfl
   have u12 : ∀ v, Ext wa v → v.cell? ⟨T, 12, none⟩ = some (.int .i64 ya) := fun v hv => by have := blk_cell (hv.blk HHA.out.box) 12 _ rfl; rw [HLG.out]; exact this
   refine region_gq 10 (fun v => Ext (wa) v) (fun v => Ext (wa) v) (by kernel_rfl) (Ext.refl _).drew (fun _ _ d _ _ h => by cases d <;> exact h) ?_
   intro Q9 HQE HQP
   have HG : ∀ (l : Array Bool) v, Ext (wa) v → l.getD 10 false = false → Ext (wa) v := fun _ _ h _ => h
   refine g_tk 0 (v := ?_) HG HQP (fun w hS => ?_) ?_
   rotate_left 1
   · go_simp; refine gives_mk ?_ rfl; with_reducible rfl
   refine g_tk 1 (v := ?_) HG HQP (fun w hS => ?_) ?_
   rotate_left 1
   · go_simp; refine gives_mk ?_ rfl; with_reducible rfl
   refine g_tk 2 (v := ?_) HG HQP (fun w hS => ?_) ?_
   rotate_left 1
   · go_simp; refine gives_mk ?_ rfl; with_reducible rfl
   refine g_tk 3 (v := ?_) HG HQP (fun w hS => ?_) ?_
   rotate_left 1
   · go_simp; refine gives_mk ?_ rfl; with_reducible rfl
   refine g_tk 4 (v := ?_) HG HQP (fun w hS => ?_) ?_
   rotate_left 1
   · go_simp; refine gives_mk ?_ rfl; with_reducible rfl
   refine g_tk 5 (v := ?_) HG HQP (fun w hS => ?_) ?_
   rotate_left 1
   · go_simp; refine gives_mk ?_ rfl; with_reducible rfl
   refine g_tk 6 (v := ?_) HG HQP (fun w hS => ?_) ?_
   rotate_left 1
   · go_simp; refine gives_mk ?_ rfl; with_reducible rfl
   refine g_tk 7 (v := ?_) HG HQP (fun w hS => ?_) ?_
   rotate_left 1
   · go_simp; refine gives_mk ?_ rfl; with_reducible rfl
   refine g_tk 8 (v := ?_) HG HQP (fun w hS => ?_) ?_
   rotate_left 1
   · go_simp; refine gives_mk ?_ rfl; with_reducible rfl
   refine g_tk 9 (v := ?_) HG HQP (fun w hS => ?_) ?_
   rotate_left 1
   · go_simp; refine gives_mk ?_ rfl; with_reducible rfl
   refine g_last (k := 10) (by kernel_rfl) (by kernel_rfl) (by kernel_rfl) rfl (by kernel_rfl) (fun w hS R hR1 hR2 => ?_)
   have hq9 := HQE.out
   subst hq9
   have HR1 := Lib.hid hR1
   have HR2 := Lib.hid hR2
   clear hR1 hR2 HG HQP HQE
   go_simp
   refine entersM_call ((mbecome_any w0 w T ⟨time, ps, gs⟩ ⟨lt, lm, kd, ya, lp, ls⟩ wy st p g A c D d (HHA.out.more hS) ya 2 lm k _ _ _ _ HRI.out HF.out HQ.out (HSQ.out.2 _ (List.mem_of_getElem? HQ.out)) (by have := HL.out; simp only; omega)).mono ?_)
   rintro e' w' ⟨rfl, A2, c2, D2, d2, hT'⟩
   have HT9 := Lib.hid hT'
   clear hT' hS
   refine HR1.out _ _ ?_
   go_simp
   clear u4 u12
   go_upto_region 6 with fail
   have u4 : ∀ v, Ext w' v → v.cell? ⟨T, 4, none⟩ = some (.int .i64 lm) := fun v hv => blk_cell (hv.blk HT9.out.box) 4 _ rfl
   have u7 : ∀ v, Ext w' v → v.cell? ⟨T, 7, none⟩ = some (.int .i64 ((k2 : Int) + 1)) := fun v hv => by have := blk_cell (hv.blk HT9.out.box) 7 _ rfl; rw [← HPK.out]; exact this
   refine region_gq 11 (fun v => Ext (w') v) (fun v => Ext (w') v) (by kernel_rfl) (Ext.refl _).drew (fun _ _ d _ _ h => by cases d <;> exact h) ?_
   intro Q9 HQE HQP
   have HG : ∀ (l : Array Bool) v, Ext (w') v → l.getD 11 false = false → Ext (w') v := fun _ _ h _ => h
   refine g_tk 0 (v := ?_) HG HQP (fun w hS => ?_) ?_
   rotate_left 1
   · go_simp; refine gives_mk ?_ rfl; with_reducible rfl
   refine g_tk 1 (v := ?_) HG HQP (fun w hS => ?_) ?_
   rotate_left 1
   · go_simp; refine gives_mk ?_ rfl; with_reducible rfl
   refine g_tk 2 (v := ?_) HG HQP (fun w hS => ?_) ?_
   rotate_left 1
   · go_simp; refine gives_mk ?_ rfl; with_reducible rfl
   refine g_tk 3 (v := ?_) HG HQP (fun w hS => ?_) ?_
   rotate_left 1
   · go_simp; refine gives_mk ?_ rfl; with_reducible rfl
   refine g_tk 4 (v := ?_) HG HQP (fun w hS => ?_) ?_
   rotate_left 1
   · go_simp; refine gives_mk ?_ rfl; with_reducible rfl
   refine g_tk 5 (v := ?_) HG HQP (fun w hS => ?_) ?_
   rotate_left 1
   · go_simp; refine gives_mk ?_ rfl; with_reducible rfl
   refine g_tk 6 (v := ?_) HG HQP (fun w hS => ?_) ?_
   rotate_left 1
   · go_simp; refine gives_mk ?_ rfl; with_reducible rfl
   refine g_tk 7 (v := ?_) HG HQP (fun w hS => ?_) ?_
   rotate_left 1
   · go_simp; refine gives_mk ?_ rfl; with_reducible rfl
   refine g_tk 8 (v := ?_) HG HQP (fun w hS => ?_) ?_
   rotate_left 1
   · go_simp; refine gives_mk ?_ rfl; with_reducible rfl
   refine g_tk 9 (v := ?_) HG HQP (fun w hS => ?_) ?_
   rotate_left 1
   · go_simp; refine gives_mk ?_ rfl; with_reducible rfl
   refine g_tk 10 (v := ?_) HG HQP (fun w hS => ?_) ?_
   rotate_left 1
   · go_simp; refine gives_mk ?_ rfl; with_reducible rfl
   refine g_last (k := 11) (by kernel_rfl) (by kernel_rfl) (by kernel_rfl) rfl (by kernel_rfl) (fun w hS R hR1 hR2 => ?_)
   have hq9 := HQE.out
   subst hq9
   have HR1 := Lib.hid hR1
   have HR2 := Lib.hid hR2
   clear hR1 hR2 HG HQP HQE
   go_simp
   refine entersM_call ((mgive_any w0 w T _ _ wy st p g A2 c2 D2 d2 (HT9.out.more hS) k2 lm _ _ HQ2.out (HSQ.out.1 _ (List.mem_of_getElem? HQ2.out)) (by have := HL.out; simp only; omega)).mono ?_)
   rintro e' w'' ⟨rfl, A3, c3, D3, d3, hT'⟩
   have HT8 := Lib.hid hT'
   clear hT' hS
   refine HR1.out _ _ ?_
   go_simp
   go_wp2
   first | go_end0 | skip
   exact .inl ⟨_, by rw [← HO.out, if_pos ⟨K1.out, K2.out, K3.out, .inr HFR.out⟩, if_neg K4.out, Md.setG_at HF.out HQ.out, HPK.out, Md.setP_at HQ2.out], rfl, _, _, _, _, HT8.out⟩
theorem own_lt {α : Type} {e : TypeId} {m : Nat} {f : α → List Value} {w : World} {B : Nat} {A : Option Addr} {n c : Nat} {xs : List α} (h : OwnRows e m f w B (.slice A n c) xs) {a : Addr} (ha : A = some a) : B ≤ a.block ∧ a.block < w.heap.size := by
 subst ha
 exact h.lt a.block rfl
theorem Tr.newG {w0 w w1 w2 : World} {T : Nat} {x : Sn} {l : Lg} {wy st : Value} {p g : Int} {A D : Option Addr} {c d : Nat} (h : Tr w0 w T x l wy st p g A c D d) (hx : Ext w w1) {u' : Value} {ys : List Gs4} (ho : OwnRows 49 4 snGCells w2 w0.heap.size u' ys) (hg : w1.grownBy w2 (Value.slice D x.gs.length d).ownBlock) (hb : u'.ownBlock = (Value.slice D x.gs.length d).ownBlock ∨ u'.ownBlock = some w1.heap.size) :
    w2.cell? ⟨T, 2, none⟩ = some (.slice D x.gs.length d) ∧ w2.frozen? ⟨T, 2, none⟩ = false ∧ ∃ D' d', u' = .slice D' ys.length d' ∧ Tr w0 (w2.setCell ⟨T, 2, none⟩ u') T { x with gs := ys } l wy st p g A c D' d' := by
 have h1 := h.more hx
 have hTl : T < w1.heap.size := blk_lt h1.box
 have hDT : (Value.slice D x.gs.length d).ownBlock ≠ some T := by
  cases hD : D with
  | none => simp [Value.ownBlock]
  | some a => simpa [Value.ownBlock] using h1.nD a hD
 have hb2 := (hg.block T hTl (fun e => hDT e.symm)).trans h1.box
 have huT : u'.ownBlock ≠ some T := by
  rcases hb with e | e
  · rw [e]; exact hDT
  · rw [e]; intro h2; injection h2 with h2; omega
 obtain ⟨D', d', rfl, hd'⟩ := (OwnRows.rows snGCells_len ho).form
 have hx2 : Ext w0 w2 := OwnRows.grown (W := w0) h1.gs h1.ext hg
 have hu : Upd T w2 (w2.setCell ⟨T, 2, none⟩ (.slice D' ys.length d')) := setCells_upd T [.slice D' ys.length d'] w2 2
 refine ⟨blk_cell hb2 2 _ rfl, frozen_of_row _ _ 2 _ _ hb2, D', d', rfl, ⟨?_, ?_, ?_, h1.nA, ?_, ?_, h1.lo, Ext.upd hx2 hu h1.lo⟩⟩
 · have := blk_set hb2 2 (.slice D' ys.length d')
   simpa using this
 · have hp2 : OwnRows 61 2 snPCells w2 w0.heap.size (.slice A x.ps.length c) x.ps := h1.ps.kept hg (by
    cases hA : A with
    | none => left; rfl
    | some a =>
     right
     cases hD : D with
     | none => simp [Value.ownBlock]
     | some b =>
      intro h2
      simp only [Value.ownBlock, Option.some.injEq] at h2
      exact h1.nn a b hA hD h2)
   exact hp2.kept (row := some T) hu (by
    cases hA : A with
    | none => left; rfl
    | some a => right; simpa [Value.ownBlock] using h1.nA a hA)
 · exact ho.kept (row := some T) hu (.inr huT)
 · intro b hD'
   subst hD'
   intro e
   exact huT (by rw [← e]; rfl)
 · intro a b hA hD'
   subst hD'
   rcases hb with e | e
   · cases hD : D with
     | none => rw [hD] at e; simp [Value.ownBlock] at e
     | some b2 =>
      rw [hD] at e
      simp only [Value.ownBlock, Option.some.injEq] at e
      rw [e]
      exact h1.nn a b2 hA hD
   · simp only [Value.ownBlock, Option.some.injEq] at e
     rw [e]
     have := (own_lt h1.ps hA).2
     omega
theorem givesM_skipy {P : Program} {R : Value → World → Prop} {w : World} (h : R undef w) : GivesM P R (.ok .skip w) := ⟨h⟩
theorem insertIdx_eq {α : Type} (l : List α) (k : Nat) (y : α) (h : k ≤ l.length) : l.insertIdx k y = l.take k ++ y :: l.drop k := by
 induction l generalizing k with
 | nil => obtain rfl : k = 0 := by simpa using h
          rfl
 | cons x l ih =>
  cases k with
  | zero => rfl
  | succ k => simp [List.insertIdx_succ_cons, ih k (by simpa using h)]
set_option maxRecDepth 100000 in
set_option maxHeartbeats 16000000 in
theorem mcreate_any (w0 w : World) (T : Nat) (x : Sn) (l : Lg) (wy st : Value) (p g : Int) (A : Option Addr) (c : Nat) (D : Option Addr) (d : Nat) (h : Tr w0 w T x l wy st p g A c D d) (hri : Md.rises x.gs) (hl : x.ps.length ≤ 1000 ∧ x.gs.length ≤ 1000) (o : Option Sn) (ho : (if p ≠ 0 ∧ g ≠ 0 ∧ 0 < l.g ∧ Md.fnd x.gs l.g = none then some { x with gs := x.gs.insertIdx (Md.gpos x.gs l.g) (l.g, 1, 0, 0) } else none) = o) :
    Calls Tryd.prog 64 #[.pointer (some ⟨T, 0, none⟩)] w (ActE w0 T o l wy st p g) := by
 obtain ⟨time, ps, gs⟩ := x
 obtain ⟨lt, lm, kd, lg, lp, ls⟩ := l
 simp only at hri hl ho
 have HO := Lib.hid ho
 have HH := Lib.hid h
 have HRI := Lib.hid hri
 have HL := Lib.hid hl
 have q6 := blk_cell h.box 6 _ rfl
 clear h hri hl ho
 go_enter Tryd.func64, Tryd.ntmps64
 go_wp2_with fail
 obtain ⟨ra, hra⟩ : ∃ ra, (Md.fnd gs lg).isSome = ra := ⟨_, rfl⟩
 obtain ⟨k, hk⟩ : ∃ k, Md.gpos gs lg = k := ⟨_, rfl⟩
 refine (mindex_any w0 w T ⟨time, ps, gs⟩ ⟨lt, lm, kd, lg, lp, ls⟩ wy st p g A c D d HH.out lg HRI.out (by have := HL.out; simp only; omega) ra hra k hk).mono ?_
 rintro e' wa ⟨rfl, hxa⟩
 have HHA := Lib.hid (HH.out.more hxa)
 have HRA := Lib.hid hra
 have HK := Lib.hid hk
 clear hxa hra hk q6
 have q6 := blk_cell HHA.out.box 6 _ rfl
 have q11 := blk_cell HHA.out.box 11 _ rfl
 have q12 := blk_cell HHA.out.box 12 _ rfl
 by_cases k1 : p = 0
 · have e1 : (p == 0) = true := by simpa using k1
   have f1 : (p != 0) = false := by simp [k1]
   have K1 := Lib.hid k1
   clear k1
   go_wp2_with fail
   refine (need_no _).mono ?_
   rintro e' w' ⟨rfl, rfl⟩
   go_wp2
   exact ⟨rfl, .inr ⟨by rw [← HO.out]; exact if_neg (fun hh => hh.1 K1.out), rfl, HHA.out.ext⟩⟩
 have e1 : (p == 0) = false := by simpa using k1
 have f1 : (p != 0) = true := by simpa using k1
 have K1 := Lib.hid k1
 clear k1
 by_cases k2 : g = 0
 · have e2 : (g == 0) = true := by simpa using k2
   have f2 : (g != 0) = false := by simp [k2]
   have K2 := Lib.hid k2
   clear k2
   go_wp2_with fail
   refine (need_no _).mono ?_
   rintro e' w' ⟨rfl, rfl⟩
   go_wp2
   exact ⟨rfl, .inr ⟨by rw [← HO.out]; exact if_neg (fun hh => hh.2.1 K2.out), rfl, HHA.out.ext⟩⟩
 have e2 : (g == 0) = false := by simpa using k2
 have f2 : (g != 0) = true := by simpa using k2
 have K2 := Lib.hid k2
 clear k2
 by_cases k3 : 0 < lg
 rotate_left 1
 · have e3 : decide (0 < lg) = false := decide_eq_false k3
   have K3 := Lib.hid k3
   clear k3
   go_wp2_with fail
   refine (need_no _).mono ?_
   rintro e' w' ⟨rfl, rfl⟩
   go_wp2
   exact ⟨rfl, .inr ⟨by rw [← HO.out]; exact if_neg (fun hh => by have := K3.out; have := hh.2.2.1; omega), rfl, HHA.out.ext⟩⟩
 have e3 : decide (0 < lg) = true := decide_eq_true k3
 have K3 := Lib.hid k3
 clear k3
 cases ra with
 | true =>
  go_wp2_with fail
  refine (need_no _).mono ?_
  rintro e' w' ⟨rfl, rfl⟩
  go_wp2
  exact ⟨rfl, .inr ⟨by rw [← HO.out]; exact if_neg (fun hh => by have := HRA.out; rw [hh.2.2.2] at this; cases this), rfl, HHA.out.ext⟩⟩
 | false =>
  go_wp2_with fail
  refine (need_yes _).mono ?_
  rintro e' w' ⟨rfl, hw'⟩
  have hw2 := hw'.symm
  clear hw'
  subst hw2
  clear e1 f1 e2 f2 e3 q11 q12 q6
  go_upto_region 2 with fail
  have HCX : Hid (∀ v : World, v.heap[T]? = wa.heap[T]? → v.cell? ⟨T, 2, none⟩ = some (.slice D gs.length d) ∧ v.cell? ⟨T, 6, none⟩ = some (.int .i64 lg)) := Lib.hid (fun v hv => ⟨blk_cell (hv.trans HHA.out.box) 2 _ rfl, blk_cell (hv.trans HHA.out.box) 6 _ rfl⟩)
  have HCE : Hid (∀ v, Ext wa v → v.heap[T]? = wa.heap[T]?) := Lib.hid (fun v hv => (hv.blk HHA.out.box).trans HHA.out.box.symm)
  obtain ⟨ys, hys⟩ : ∃ ys, gs.insertIdx k ((lg, 1, 0, 0) : Gs4) = ys := ⟨_, rfl⟩
  have HY : Hid (gs.take k ++ (lg, 1, 0, 0) :: gs.drop k = ys) := Lib.hid (by rw [← hys, insertIdx_eq _ _ _ (by rw [← HK.out]; exact Md.gpos_le gs lg)])
  have HYS := Lib.hid hys
  clear hys
  have HCY : Hid (∀ (u : Value) (v : World), (∃ v1, Ext wa v1 ∧ OwnRows 49 4 snGCells v w0.heap.size u ys ∧ v1.grownBy v (Value.slice D gs.length d).ownBlock ∧ (u.ownBlock = (Value.slice D gs.length d).ownBlock ∨ u.ownBlock = some v1.heap.size)) → v.cell? ⟨T, 2, none⟩ = some (.slice D gs.length d) ∧ v.cell? ⟨T, 6, none⟩ = some (.int .i64 lg)) := Lib.hid (fun u v h => by
   obtain ⟨v1, h1, h2, h3, h4⟩ := h
   refine HCX.out v ((h3.block T (Nat.lt_of_lt_of_le (blk_lt HHA.out.box) h1.size) (fun e => ?_)).trans ((h1.blk HHA.out.box).trans HHA.out.box.symm))
   cases hD : D with
   | none => rw [hD] at e; simp [Value.ownBlock] at e
   | some a =>
    rw [hD] at e
    simp only [Value.ownBlock, Option.some.injEq] at e
    exact HHA.out.nD a hD e.symm)
  refine region_gq 18 (fun v => v.cell? ⟨T, 2, none⟩ = some (.slice D gs.length d) ∧ v.cell? ⟨T, 6, none⟩ = some (.int .i64 lg)) (fun v => Ext wa v) (by kernel_rfl) (Ext.refl wa).drew (fun _ _ d _ _ h => by cases d <;> exact h) ?_
  intro Q9 HQE HQP
  have HGA : ∀ (l : Array Bool) v, Ext wa v → l.getD 18 false = false → v.cell? ⟨T, 2, none⟩ = some (.slice D gs.length d) ∧ v.cell? ⟨T, 6, none⟩ = some (.int .i64 lg) := fun _ v h _ => HCX.out v (HCE.out v h)
  have HG := HGA
  refine g_tk 0 (v := ?_) HG HQP (fun w hS => ?_) ?_
  rotate_left 1
  · go_simp; refine gives_mk ?_ rfl; with_reducible rfl
  refine g_tk 1 (v := ?_) HG HQP (fun w hS => ?_) ?_
  rotate_left 1
  · go_simp; refine gives_mk ?_ rfl; with_reducible rfl
  refine g_tk 2 (v := ?_) HG HQP (fun w hS => ?_) ?_
  rotate_left 1
  · go_simp; refine gives_mk ?_ rfl; with_reducible rfl
  refine g_tk 3 (v := ?_) HG HQP (fun w hS => ?_) ?_
  rotate_left 1
  · go_simp; refine gives_mk ?_ rfl; with_reducible rfl
  refine g_tk 4 (v := ?_) HG HQP (fun w hS => ?_) ?_
  rotate_left 1
  · go_simp; refine gives_mk ?_ rfl; with_reducible rfl
  refine g_tk 5 (v := ?_) HG HQP (fun w hS => ?_) ?_
  rotate_left 1
  · go_simp; refine gives_mk ?_ rfl; with_reducible rfl
  refine g_tk 6 (v := ?_) HG HQP (fun w hS => ?_) ?_
  rotate_left 1
  · go_simp; refine gives_mk ?_ rfl; with_reducible rfl
  refine g_tk 7 (v := ?_) HG HQP (fun w hS => ?_) ?_
  rotate_left 1
  · go_simp; refine gives_mk ?_ rfl; with_reducible rfl
  refine g_tk 8 (v := ?_) HG HQP (fun w hS => ?_) ?_
  rotate_left 1
  · go_simp; refine gives_mk ?_ rfl; with_reducible rfl
  refine g_tk 9 (v := ?_) HG HQP (fun w hS => ?_) ?_
  rotate_left 1
  · go_simp; refine gives_mk ?_ rfl; with_reducible rfl
  refine g_tk 10 (v := ?_) HG HQP (fun w hS => ?_) ?_
  rotate_left 1
  · go_simp; refine gives_mk ?_ rfl; with_reducible rfl
  refine g_tk 11 (v := ?_) HG HQP (fun w hS => ?_) ?_
  rotate_left 1
  · go_simp; refine gives_mk ?_ rfl; with_reducible rfl
  refine g_tk 12 (v := ?_) HG HQP (fun w hS => ?_) ?_
  rotate_left 1
  · go_simp; refine gives_mk ?_ rfl; with_reducible rfl
  refine g_mid (fun u v => ∃ V, u = .slice (some ⟨V, 0, none⟩) 1 1 ∧ v.heap[V]? = some (.cells (snGCells (lg, 1, 0, 0)).toArray 49 (0, 0)) ∧ wa.heap.size ≤ V ∧ Ext wa v) (k := 13) (by kernel_rfl) (fun _ v h _ => by obtain ⟨_, _, _, _, h⟩ := h; exact HCX.out v (HCE.out v h)) rfl (by kernel_rfl) (fun v hS R hR => ?_) (fun u hu => ?_)
  · have HR := Lib.hid hR
    clear hR
    go_simp
    refine givesM_val (HR.out _ _ ⟨v.heap.size, rfl, blk_new v _, hS.size, hS.alloc _⟩)
  obtain ⟨_, V, rfl, -⟩ := hu
  refine g_mid (fun u v => ∃ v1, Ext wa v1 ∧ OwnRows 49 4 snGCells v w0.heap.size u ys ∧ v1.grownBy v (Value.slice D gs.length d).ownBlock ∧ (u.ownBlock = (Value.slice D gs.length d).ownBlock ∨ u.ownBlock = some v1.heap.size)) (k := 14) (by kernel_rfl) (fun u v h _ => HCY.out u v h) rfl (by kernel_rfl) (fun v hS R hR => ?_) (fun u hu => ?_)
  · have HR := Lib.hid hR
    clear hR
    obtain ⟨V', hV, hb, hle, hx⟩ := hS
    simp only [Value.slice.injEq, Option.some.injEq, Addr.mk.injEq, and_true] at hV
    subst hV
    have HB := Lib.hid hb
    have HLE := Lib.hid hle
    have HX := Lib.hid hx
    clear hb hle hx
    go_simp
    refine givesM_call ((minsert_any v w0.heap.size V k _ gs (lg, 1, 0, 0) (HHA.out.gs.ext HX.out) (by rw [← HK.out]; exact Md.gpos_le gs lg) (by have := HL.out; omega) (Nat.le_trans HHA.out.ext.size HX.out.size) HB.out ?_).mono ?_)
    · intro e
      have := (HHA.out.gs.lt V e).2
      have := HLE.out
      omega
    · rintro e v2 ⟨u', rfl, h2, h3, h4⟩
      exact ⟨u', rfl, HR.out _ _ ⟨v, HX.out, by rw [← HY.out]; exact h2, h3, h4⟩⟩
  obtain ⟨_, v1, -, h2, -, -⟩ := hu
  obtain ⟨D', d', rfl, -⟩ := (OwnRows.rows snGCells_len h2).form
  clear h2
  have HG : ∀ (l : Array Bool) v, (∃ v1, Ext wa v1 ∧ OwnRows 49 4 snGCells v w0.heap.size (Value.slice D' ys.length d') ys ∧ v1.grownBy v (Value.slice D gs.length d).ownBlock ∧ ((Value.slice D' ys.length d').ownBlock = (Value.slice D gs.length d).ownBlock ∨ (Value.slice D' ys.length d').ownBlock = some v1.heap.size)) → l.getD 18 false = false → v.cell? ⟨T, 2, none⟩ = some (.slice D gs.length d) ∧ v.cell? ⟨T, 6, none⟩ = some (.int .i64 lg) := fun _ v h _ => HCY.out _ v h
  refine g_tk 15 (v := ?_) HG HQP (fun w hS => ?_) ?_
  rotate_left 1
  · go_simp; refine gives_mk ?_ rfl; with_reducible rfl
  refine g_tk 16 (v := ?_) HG HQP (fun w hS => ?_) ?_
  rotate_left 1
  · go_simp; refine gives_mk ?_ rfl; with_reducible rfl
  refine g_tk 17 (v := ?_) HG HQP (fun w hS => ?_) ?_
  rotate_left 1
  · go_simp; refine gives_mk ?_ rfl; with_reducible rfl
  refine g_end (k := 18) (by kernel_rfl) (by kernel_rfl) (by kernel_rfl) rfl (by kernel_rfl) (fun w9 hS R hR => ?_)
  have HR := Lib.hid hR
  clear hR
  obtain ⟨v1, h1, h2, h3, h4⟩ := hS
  obtain ⟨z1, z2, D2, d2, hD2, hT⟩ := Tr.newG HHA.out h1 h2 h3 h4
  simp only [Value.slice.injEq] at hD2
  obtain ⟨rfl, -, rfl⟩ := hD2
  have HT := Lib.hid hT
  clear h1 h2 h3 h4 hT
  have hq9 := HQE.out
  subst hq9
  clear HQE HQP HG HGA
  go_simp
  refine givesM_skipy (HR.out _ _ ?_)
  clear z1 z2
  go_simp
  go_wp2
  first | go_end0 | skip
  exact .inl ⟨_, by rw [← HO.out]; rw [if_pos ⟨K1.out, K2.out, K3.out, by have := HRA.out; simpa using this⟩, HK.out, HYS.out], rfl, _, _, _, _, HT.out⟩
set_option maxRecDepth 100000 in
set_option maxHeartbeats 16000000 in
theorem mstart_any (w0 w : World) (T : Nat) (x : Sn) (l : Lg) (wy st : Value) (p g : Int) (A : Option Addr) (c : Nat) (D : Option Addr) (d : Nat) (h : Tr w0 w T x l wy st p g A c D d) (hri : Md.rises x.gs) (hl : x.ps.length ≤ 1000 ∧ x.gs.length ≤ 1000) (hsq : (∀ q ∈ x.ps, 0 ≤ q.2 ∧ q.2 < 4611686018427387904) ∧ ∀ q ∈ x.gs, 0 ≤ q.2.2.2 ∧ q.2.2.2 < 4611686018427387904) (o : Option Sn) (ho : (if p ≠ 0 ∧ g = 0 ∧ Md.stat x.gs l.g = (1, l.seq) then some { x with gs := Md.setG x.gs l.g 2 l.m } else none) = o) :
    Calls Tryd.prog 65 #[.pointer (some ⟨T, 0, none⟩)] w (ActE w0 T o l wy st p g) := by
 obtain ⟨time, ps, gs⟩ := x
 obtain ⟨lt, lm, kd, lg, lp, ls⟩ := l
 simp only at hri hl hsq ho
 have HO := Lib.hid ho
 have HH := Lib.hid h
 have HRI := Lib.hid hri
 have HL := Lib.hid hl
 have HSQ := Lib.hid hsq
 have q11 := blk_cell h.box 11 _ rfl
 have q12 := blk_cell h.box 12 _ rfl
 clear h hri hl hsq ho
 go_enter Tryd.func65, Tryd.ntmps65
 by_cases k1 : p = 0
 · have e1 : (p == 0) = true := by simpa using k1
   have f1 : (p != 0) = false := by simp [k1]
   have K1 := Lib.hid k1
   clear k1
   go_wp2_with fail
   refine (need_no _).mono ?_
   rintro e' w' ⟨rfl, rfl⟩
   go_wp2
   exact ⟨rfl, .inr ⟨by rw [← HO.out]; exact if_neg (fun hh => hh.1 K1.out), rfl, HH.out.ext⟩⟩
 have e1 : (p == 0) = false := by simpa using k1
 have f1 : (p != 0) = true := by simpa using k1
 have K1 := Lib.hid k1
 clear k1
 by_cases k2 : g = 0
 rotate_left 1
 · have e2 : (g == 0) = false := by simpa using k2
   have f2 : (g != 0) = true := by simpa using k2
   have K2 := Lib.hid k2
   clear k2
   go_wp2_with fail
   refine (need_no _).mono ?_
   rintro e' w' ⟨rfl, rfl⟩
   go_wp2
   exact ⟨rfl, .inr ⟨by rw [← HO.out]; exact if_neg (fun hh => K2.out hh.2.1), rfl, HH.out.ext⟩⟩
 have e2 : (g == 0) = true := by simpa using k2
 have f2 : (g != 0) = false := by simp [k2]
 have K2 := Lib.hid k2
 clear k2
 go_wp2_with fail
 refine (need_yes _).mono ?_
 rintro e' w' ⟨rfl, rfl⟩
 clear e1 f1 e2 f2 q11 q12
 go_wp2_with fail
 obtain ⟨ra, hra⟩ : ∃ ra, decide (Md.stat gs lg = (1, ls)) = ra := ⟨_, rfl⟩
 refine (mawaits_any w0 _ T ⟨time, ps, gs⟩ ⟨lt, lm, kd, lg, lp, ls⟩ wy st p g A c D d HH.out 1 (by decide) ra hra HRI.out (by have := HL.out; simp only; omega)).mono ?_
 rintro e' wa ⟨hn, hxa⟩
 have HXA := Lib.hid hxa
 have HRA := Lib.hid hra
 clear hxa hra
 rcases hn with ⟨rfl, rfl⟩ | ⟨rfl, rfl⟩
 rotate_left 1
 · go_wp2
   exact ⟨rfl, .inr ⟨by rw [← HO.out]; exact if_neg (fun hh => of_decide_eq_false HRA.out hh.2.2), rfl, HH.out.ext.trans HXA.out⟩⟩
 have HST : Hid (Md.stat gs lg = (1, ls)) := Lib.hid (of_decide_eq_true HRA.out)
 obtain ⟨k, hf⟩ := Md.stat_some (l := gs) (g := lg) (by rw [HST.out]; simp)
 obtain ⟨⟨ya, yb, yc, yd⟩, hq, hya, -⟩ := Md.fnd_some hf
 simp only at hya
 subst hya
 have HF := Lib.hid hf
 have HQ := Lib.hid hq
 have HHA := Lib.hid (HH.out.more HXA.out)
 clear hf hq
 go_upto_region 2 with fail
 have u4 : ∀ v, Ext wa v → v.cell? ⟨T, 4, none⟩ = some (.int .i64 lm) := fun v hv => blk_cell (hv.blk HHA.out.box) 4 _ rfl
 have u6 : ∀ v, Ext wa v → v.cell? ⟨T, 6, none⟩ = some (.int .i64 ya) := fun v hv => blk_cell (hv.blk HHA.out.box) 6 _ rfl
 refine region_gq 11 (fun v => Ext (wa) v) (fun v => Ext (wa) v) (by kernel_rfl) (Ext.refl _).drew (fun _ _ d _ _ h => by cases d <;> exact h) ?_
 intro Q9 HQE HQP
 have HG : ∀ (l : Array Bool) v, Ext (wa) v → l.getD 11 false = false → Ext (wa) v := fun _ _ h _ => h
 refine g_tk 0 (v := ?_) HG HQP (fun w hS => ?_) ?_
 rotate_left 1
 · go_simp; refine gives_mk ?_ rfl; with_reducible rfl
 refine g_tk 1 (v := ?_) HG HQP (fun w hS => ?_) ?_
 rotate_left 1
 · go_simp; refine gives_mk ?_ rfl; with_reducible rfl
 refine g_tk 2 (v := ?_) HG HQP (fun w hS => ?_) ?_
 rotate_left 1
 · go_simp; refine gives_mk ?_ rfl; with_reducible rfl
 refine g_tk 3 (v := ?_) HG HQP (fun w hS => ?_) ?_
 rotate_left 1
 · go_simp; refine gives_mk ?_ rfl; with_reducible rfl
 refine g_tk 4 (v := ?_) HG HQP (fun w hS => ?_) ?_
 rotate_left 1
 · go_simp; refine gives_mk ?_ rfl; with_reducible rfl
 refine g_tk 5 (v := ?_) HG HQP (fun w hS => ?_) ?_
 rotate_left 1
 · go_simp; refine gives_mk ?_ rfl; with_reducible rfl
 refine g_tk 6 (v := ?_) HG HQP (fun w hS => ?_) ?_
 rotate_left 1
 · go_simp; refine gives_mk ?_ rfl; with_reducible rfl
 refine g_tk 7 (v := ?_) HG HQP (fun w hS => ?_) ?_
 rotate_left 1
 · go_simp; refine gives_mk ?_ rfl; with_reducible rfl
 refine g_tk 8 (v := ?_) HG HQP (fun w hS => ?_) ?_
 rotate_left 1
 · go_simp; refine gives_mk ?_ rfl; with_reducible rfl
 refine g_tk 9 (v := ?_) HG HQP (fun w hS => ?_) ?_
 rotate_left 1
 · go_simp; refine gives_mk ?_ rfl; with_reducible rfl
 refine g_tk 10 (v := ?_) HG HQP (fun w hS => ?_) ?_
 rotate_left 1
 · go_simp; refine gives_mk ?_ rfl; with_reducible rfl
 refine g_last (k := 11) (by kernel_rfl) (by kernel_rfl) (by kernel_rfl) rfl (by kernel_rfl) (fun w hS R hR1 hR2 => ?_)
 have hq9 := HQE.out
 subst hq9
 have HR1 := Lib.hid hR1
 have HR2 := Lib.hid hR2
 clear hR1 hR2 HG HQP HQE
 go_simp
 refine entersM_call ((mbecome_any w0 w T ⟨time, ps, gs⟩ ⟨lt, lm, kd, ya, lp, ls⟩ wy st p g A c D d (HHA.out.more hS) ya 2 lm k _ _ _ _ HRI.out HF.out HQ.out (HSQ.out.2 _ (List.mem_of_getElem? HQ.out)) (by have := HL.out; simp only; omega)).mono ?_)
 rintro e' w' ⟨rfl, A', c', D', d', hT'⟩
 have HT9 := Lib.hid hT'
 clear hT' hS
 refine HR1.out _ _ ?_
 go_simp
 go_wp2
 first | go_end0 | skip
 exact .inl ⟨_, by rw [← HO.out]; rw [if_pos ⟨K1.out, K2.out, HST.out⟩, Md.setG_at HF.out HQ.out], rfl, A', c', D', d', HT9.out⟩
set_option maxRecDepth 100000 in
set_option maxHeartbeats 16000000 in
theorem munblock_any (w0 w : World) (T : Nat) (x : Sn) (l : Lg) (wy st : Value) (p g : Int) (A : Option Addr) (c : Nat) (D : Option Addr) (d : Nat) (h : Tr w0 w T x l wy st p g A c D d) (hri : Md.rises x.gs) (hl : x.ps.length ≤ 1000 ∧ x.gs.length ≤ 1000) (hsq : (∀ q ∈ x.ps, 0 ≤ q.2 ∧ q.2 < 4611686018427387904) ∧ ∀ q ∈ x.gs, 0 ≤ q.2.2.2 ∧ q.2.2.2 < 4611686018427387904) (o : Option Sn) (ho : (if p ≠ 0 ∧ Md.stat x.gs l.g = (3, l.seq) then some { x with gs := Md.setG x.gs l.g 1 0 } else none) = o) :
    Calls Tryd.prog 68 #[.pointer (some ⟨T, 0, none⟩)] w (ActE w0 T o l wy st p g) := by
 obtain ⟨time, ps, gs⟩ := x
 obtain ⟨lt, lm, kd, lg, lp, ls⟩ := l
 simp only at hri hl hsq ho
 have HO := Lib.hid ho
 have HH := Lib.hid h
 have HRI := Lib.hid hri
 have HL := Lib.hid hl
 have HSQ := Lib.hid hsq
 have q11 := blk_cell h.box 11 _ rfl
 have q12 := blk_cell h.box 12 _ rfl
 clear h hri hl hsq ho
 go_enter Tryd.func68, Tryd.ntmps68
 by_cases k1 : p = 0
 · have e1 : (p == 0) = true := by simpa using k1
   have f1 : (p != 0) = false := by simp [k1]
   have K1 := Lib.hid k1
   clear k1
   go_wp2_with fail
   refine (need_no _).mono ?_
   rintro e' w' ⟨rfl, rfl⟩
   go_wp2
   exact ⟨rfl, .inr ⟨by rw [← HO.out]; exact if_neg (fun hh => hh.1 K1.out), rfl, HH.out.ext⟩⟩
 have e1 : (p == 0) = false := by simpa using k1
 have f1 : (p != 0) = true := by simpa using k1
 have K1 := Lib.hid k1
 clear k1
 go_wp2_with fail
 refine (need_yes _).mono ?_
 rintro e' w' ⟨rfl, rfl⟩
 clear e1 f1 q11 q12
 go_wp2_with fail
 obtain ⟨ra, hra⟩ : ∃ ra, decide (Md.stat gs lg = (3, ls)) = ra := ⟨_, rfl⟩
 refine (mawaits_any w0 _ T ⟨time, ps, gs⟩ ⟨lt, lm, kd, lg, lp, ls⟩ wy st p g A c D d HH.out 3 (by decide) ra hra HRI.out (by have := HL.out; simp only; omega)).mono ?_
 rintro e' wa ⟨hn, hxa⟩
 have HXA := Lib.hid hxa
 have HRA := Lib.hid hra
 clear hxa hra
 rcases hn with ⟨rfl, rfl⟩ | ⟨rfl, rfl⟩
 rotate_left 1
 · go_wp2
   exact ⟨rfl, .inr ⟨by rw [← HO.out]; exact if_neg (fun hh => of_decide_eq_false HRA.out hh.2), rfl, HH.out.ext.trans HXA.out⟩⟩
 have HST : Hid (Md.stat gs lg = (3, ls)) := Lib.hid (of_decide_eq_true HRA.out)
 obtain ⟨k, hf⟩ := Md.stat_some (l := gs) (g := lg) (by rw [HST.out]; simp)
 obtain ⟨⟨ya, yb, yc, yd⟩, hq, hya, -⟩ := Md.fnd_some hf
 simp only at hya
 subst hya
 have HF := Lib.hid hf
 have HQ := Lib.hid hq
 have HHA := Lib.hid (HH.out.more HXA.out)
 clear hf hq
 have q6 := blk_cell HHA.out.box 6 _ rfl
 go_wp2_with fail
 refine ((mbecome_any w0 wa T ⟨time, ps, gs⟩ ⟨lt, lm, kd, ya, lp, ls⟩ wy st p g A c D d HHA.out ya 1 0 k _ _ _ _ HRI.out HF.out HQ.out (HSQ.out.2 _ (List.mem_of_getElem? HQ.out)) (by have := HL.out; simp only; omega))).mono ?_
 rintro e' w' ⟨rfl, A', c', D', d', hT'⟩
 have HT9 := Lib.hid hT'
 clear hT'
 go_wp2
 first | go_end0 | skip
 exact .inl ⟨_, by rw [← HO.out]; rw [if_pos ⟨K1.out, HST.out⟩, Md.setG_at HF.out HQ.out], rfl, A', c', D', d', HT9.out⟩
set_option maxRecDepth 100000 in
set_option maxHeartbeats 8000000 in
theorem mapply_1 (w0 w : World) (T : Nat) (x : Sn) (l : Lg) (wy st : Value) (p g : Int) (A : Option Addr) (c : Nat) (D : Option Addr) (d : Nat) (h : Tr w0 w T x l wy st p g A c D d) (hri : Md.rises x.gs) (hl : x.ps.length ≤ 1000 ∧ x.gs.length ≤ 1000) (hsq : (∀ q ∈ x.ps, 0 ≤ q.2 ∧ q.2 < 4611686018427387904) ∧ ∀ q ∈ x.gs, 0 ≤ q.2.2.2 ∧ q.2.2.2 < 4611686018427387904) (hk : l.kind = 1) (o : Option Sn) (ho : (if p = 0 ∧ g = 0 ∧ Md.free x.ps l.p l.seq = true then some { x with ps := Md.setP x.ps l.p l.m } else none) = o) :
    Calls Tryd.prog 49 #[.pointer (some ⟨T, 0, none⟩)] w (ActE w0 T o l wy st p g) := by
 have H := Lib.hid (mprocStart_any w0 w T x l wy st p g A c D d h hri hl hsq o ho)
 have q5 := blk_cell h.box 5 _ rfl
 rw [hk] at q5
 clear h hri hl hsq ho
 go_enter Tryd.func49, Tryd.ntmps49
 go_wp2_with fail
 refine H.out.mono ?_
 rintro e' w' hh
 have HH := Lib.hid hh
 clear hh q5
 rcases HH.out with ⟨y, h1, rfl, h3⟩ | ⟨h1, rfl, h3⟩
 · have H1 := Lib.hid h1
   have H3 := Lib.hid h3
   clear HH h1 h3
   go_wp2
   first | go_end0 | skip
   exact .inl ⟨y, H1.out, rfl, H3.out⟩
 · have H1 := Lib.hid h1
   have H3 := Lib.hid h3
   clear HH h1 h3
   go_wp2
   exact ⟨rfl, .inr ⟨H1.out, rfl, H3.out⟩⟩
set_option maxRecDepth 100000 in
set_option maxHeartbeats 8000000 in
theorem mapply_3 (w0 w : World) (T : Nat) (x : Sn) (l : Lg) (wy st : Value) (p g : Int) (A : Option Addr) (c : Nat) (D : Option Addr) (d : Nat) (h : Tr w0 w T x l wy st p g A c D d) (hri : Md.rises x.gs) (hl : x.ps.length ≤ 1000 ∧ x.gs.length ≤ 1000) (hsq : (∀ q ∈ x.ps, 0 ≤ q.2 ∧ q.2 < 4611686018427387904) ∧ ∀ q ∈ x.gs, 0 ≤ q.2.2.2 ∧ q.2.2.2 < 4611686018427387904) (hk : l.kind = 3) (o : Option Sn) (ho : (if p ≠ 0 ∧ g ≠ 0 ∧ 0 < l.g ∧ Md.fnd x.gs l.g = none then some { x with gs := x.gs.insertIdx (Md.gpos x.gs l.g) (l.g, 1, 0, 0) } else none) = o) :
    Calls Tryd.prog 49 #[.pointer (some ⟨T, 0, none⟩)] w (ActE w0 T o l wy st p g) := by
 have H := Lib.hid (mcreate_any w0 w T x l wy st p g A c D d h hri hl o ho)
 have q5 := blk_cell h.box 5 _ rfl
 rw [hk] at q5
 clear h hri hl hsq ho
 go_enter Tryd.func49, Tryd.ntmps49
 go_wp2_with fail
 refine H.out.mono ?_
 rintro e' w' hh
 have HH := Lib.hid hh
 clear hh q5
 rcases HH.out with ⟨y, h1, rfl, h3⟩ | ⟨h1, rfl, h3⟩
 · have H1 := Lib.hid h1
   have H3 := Lib.hid h3
   clear HH h1 h3
   go_wp2
   first | go_end0 | skip
   exact .inl ⟨y, H1.out, rfl, H3.out⟩
 · have H1 := Lib.hid h1
   have H3 := Lib.hid h3
   clear HH h1 h3
   go_wp2
   exact ⟨rfl, .inr ⟨H1.out, rfl, H3.out⟩⟩
set_option maxRecDepth 100000 in
set_option maxHeartbeats 8000000 in
theorem mapply_4 (w0 w : World) (T : Nat) (x : Sn) (l : Lg) (wy st : Value) (p g : Int) (A : Option Addr) (c : Nat) (D : Option Addr) (d : Nat) (h : Tr w0 w T x l wy st p g A c D d) (hri : Md.rises x.gs) (hl : x.ps.length ≤ 1000 ∧ x.gs.length ≤ 1000) (hsq : (∀ q ∈ x.ps, 0 ≤ q.2 ∧ q.2 < 4611686018427387904) ∧ ∀ q ∈ x.gs, 0 ≤ q.2.2.2 ∧ q.2.2.2 < 4611686018427387904) (hk : l.kind = 4) (o : Option Sn) (ho : (if p ≠ 0 ∧ g = 0 ∧ Md.stat x.gs l.g = (1, l.seq) then some { x with gs := Md.setG x.gs l.g 2 l.m } else none) = o) :
    Calls Tryd.prog 49 #[.pointer (some ⟨T, 0, none⟩)] w (ActE w0 T o l wy st p g) := by
 have H := Lib.hid (mstart_any w0 w T x l wy st p g A c D d h hri hl hsq o ho)
 have q5 := blk_cell h.box 5 _ rfl
 rw [hk] at q5
 clear h hri hl hsq ho
 go_enter Tryd.func49, Tryd.ntmps49
 go_wp2_with fail
 refine H.out.mono ?_
 rintro e' w' hh
 have HH := Lib.hid hh
 clear hh q5
 rcases HH.out with ⟨y, h1, rfl, h3⟩ | ⟨h1, rfl, h3⟩
 · have H1 := Lib.hid h1
   have H3 := Lib.hid h3
   clear HH h1 h3
   go_wp2
   first | go_end0 | skip
   exact .inl ⟨y, H1.out, rfl, H3.out⟩
 · have H1 := Lib.hid h1
   have H3 := Lib.hid h3
   clear HH h1 h3
   go_wp2
   exact ⟨rfl, .inr ⟨H1.out, rfl, H3.out⟩⟩
set_option maxRecDepth 100000 in
set_option maxHeartbeats 8000000 in
theorem mapply_7 (w0 w : World) (T : Nat) (x : Sn) (l : Lg) (wy st : Value) (p g : Int) (A : Option Addr) (c : Nat) (D : Option Addr) (d : Nat) (h : Tr w0 w T x l wy st p g A c D d) (hri : Md.rises x.gs) (hl : x.ps.length ≤ 1000 ∧ x.gs.length ≤ 1000) (hsq : (∀ q ∈ x.ps, 0 ≤ q.2 ∧ q.2 < 4611686018427387904) ∧ ∀ q ∈ x.gs, 0 ≤ q.2.2.2 ∧ q.2.2.2 < 4611686018427387904) (hk : l.kind = 7) (o : Option Sn) (ho : (if p ≠ 0 ∧ Md.stat x.gs l.g = (3, l.seq) then some { x with gs := Md.setG x.gs l.g 1 0 } else none) = o) :
    Calls Tryd.prog 49 #[.pointer (some ⟨T, 0, none⟩)] w (ActE w0 T o l wy st p g) := by
 have H := Lib.hid (munblock_any w0 w T x l wy st p g A c D d h hri hl hsq o ho)
 have q5 := blk_cell h.box 5 _ rfl
 rw [hk] at q5
 clear h hri hl hsq ho
 go_enter Tryd.func49, Tryd.ntmps49
 go_wp2_with fail
 refine H.out.mono ?_
 rintro e' w' hh
 have HH := Lib.hid hh
 clear hh q5
 rcases HH.out with ⟨y, h1, rfl, h3⟩ | ⟨h1, rfl, h3⟩
 · have H1 := Lib.hid h1
   have H3 := Lib.hid h3
   clear HH h1 h3
   go_wp2
   first | go_end0 | skip
   exact .inl ⟨y, H1.out, rfl, H3.out⟩
 · have H1 := Lib.hid h1
   have H3 := Lib.hid h3
   clear HH h1 h3
   go_wp2
   exact ⟨rfl, .inr ⟨H1.out, rfl, H3.out⟩⟩
set_option maxRecDepth 100000 in
set_option maxHeartbeats 8000000 in
theorem mapply_10 (w0 w : World) (T : Nat) (x : Sn) (l : Lg) (wy st : Value) (p g : Int) (A : Option Addr) (c : Nat) (D : Option Addr) (d : Nat) (h : Tr w0 w T x l wy st p g A c D d) (hri : Md.rises x.gs) (hl : x.ps.length ≤ 1000 ∧ x.gs.length ≤ 1000) (hsq : (∀ q ∈ x.ps, 0 ≤ q.2 ∧ q.2 < 4611686018427387904) ∧ ∀ q ∈ x.gs, 0 ≤ q.2.2.2 ∧ q.2.2.2 < 4611686018427387904) (hk : l.kind = 10) (hfg : g ≠ 0 → ∃ k, Md.fnd x.gs g = some k) (o : Option Sn) (ho : (if p = 0 ∧ g ≠ 0 ∧ l.g = g ∧ (l.p = 0 ∧ l.seq = 0 ∨ Md.free x.ps l.p l.seq = true) then some (if l.p = 0 then { x with gs := Md.setG x.gs l.g 1 0 } else { x with gs := Md.setG x.gs l.g 2 l.m, ps := Md.setP x.ps l.p l.m } : Sn) else none) = o) :
    Calls Tryd.prog 49 #[.pointer (some ⟨T, 0, none⟩)] w (ActE w0 T o l wy st p g) := by
 have H := Lib.hid (msysExit_any w0 w T x l wy st p g A c D d h hri hl hsq hfg o ho)
 have q5 := blk_cell h.box 5 _ rfl
 rw [hk] at q5
 clear h hri hl hsq ho hfg
 go_enter Tryd.func49, Tryd.ntmps49
 go_wp2_with fail
 refine H.out.mono ?_
 rintro e' w' hh
 have HH := Lib.hid hh
 clear hh q5
 rcases HH.out with ⟨y, h1, rfl, h3⟩ | ⟨h1, rfl, h3⟩
 · have H1 := Lib.hid h1
   have H3 := Lib.hid h3
   clear HH h1 h3
   go_wp2
   first | go_end0 | skip
   exact .inl ⟨y, H1.out, rfl, H3.out⟩
 · have H1 := Lib.hid h1
   have H3 := Lib.hid h3
   clear HH h1 h3
   go_wp2
   exact ⟨rfl, .inr ⟨H1.out, rfl, H3.out⟩⟩
set_option maxRecDepth 100000 in
set_option maxHeartbeats 8000000 in
theorem mapply_0 (w0 w : World) (T : Nat) (x : Sn) (l : Lg) (wy st : Value) (p g : Int) (A : Option Addr) (c : Nat) (D : Option Addr) (d : Nat) (h : Tr w0 w T x l wy st p g A c D d) (hk : ¬ (1 ≤ l.kind ∧ l.kind ≤ 10)) :
    Calls Tryd.prog 49 #[.pointer (some ⟨T, 0, none⟩)] w (ActE w0 T none l wy st p g) := by
 have H := Lib.hid h
 have q5 := blk_cell h.box 5 _ rfl
 have e1 : (l.kind == 1) = false := by simp; omega
 have e2 : (l.kind == 2) = false := by simp; omega
 have e3 : (l.kind == 3) = false := by simp; omega
 have e4 : (l.kind == 4) = false := by simp; omega
 have e5 : (l.kind == 5) = false := by simp; omega
 have e6 : (l.kind == 6) = false := by simp; omega
 have e7 : (l.kind == 7) = false := by simp; omega
 have e8 : (l.kind == 8) = false := by simp; omega
 have e9 : (l.kind == 9) = false := by simp; omega
 have e10 : (l.kind == 10) = false := by simp; omega
 clear h hk
 go_enter Tryd.func49, Tryd.ntmps49
 go_wp2_with fail
 refine (need_no _).mono ?_
 rintro e' w' ⟨rfl, rfl⟩
 go_wp2
 exact ⟨rfl, .inr ⟨rfl, rfl, H.out.ext⟩⟩
set_option maxRecDepth 100000 in
set_option maxHeartbeats 8000000 in
theorem mapply_5 (w0 w : World) (T : Nat) (x : Sn) (l : Lg) (wy st : Value) (p g : Int) (A : Option Addr) (c : Nat) (D : Option Addr) (d : Nat) (h : Tr w0 w T x l wy st p g A c D d) (hri : Md.rises x.gs) (hl : x.ps.length ≤ 1000 ∧ x.gs.length ≤ 1000) (hsq : (∀ q ∈ x.ps, 0 ≤ q.2 ∧ q.2 < 4611686018427387904) ∧ ∀ q ∈ x.gs, 0 ≤ q.2.2.2 ∧ q.2.2.2 < 4611686018427387904) (hk : l.kind = 5) (hfg : g ≠ 0 → ∃ k, Md.fnd x.gs g = some k) (o : Option Sn) (ho : (if p ≠ 0 ∧ g ≠ 0 ∧ l.g = g then some { x with gs := Md.setG x.gs l.g 1 0 } else none) = o) :
    Calls Tryd.prog 49 #[.pointer (some ⟨T, 0, none⟩)] w (ActE w0 T o l wy st p g) := by
 have HO := Lib.hid ho
 have HH := Lib.hid h
 have HRI := Lib.hid hri
 have HL := Lib.hid hl
 have HSQ := Lib.hid hsq
 have HFG := Lib.hid hfg
 have q5 := blk_cell h.box 5 _ rfl
 rw [hk] at q5
 clear h hri hl hsq ho hfg
 go_enter Tryd.func49, Tryd.ntmps49
 obtain ⟨ra, hra⟩ : ∃ ra, (decide (p ≠ 0) && decide (g ≠ 0) && decide (l.g = g)) = ra := ⟨_, rfl⟩
 go_wp2_with fail
 refine (mown_any w0 w T x l wy st p g A c D d HH.out ra hra).mono ?_
 rintro e' wa ⟨hn, hxa⟩
 have HXA := Lib.hid hxa
 have HRA := Lib.hid hra
 clear hxa hra q5
 rcases hn with ⟨rfl, rfl⟩ | ⟨rfl, rfl⟩
 rotate_left 1
 · go_wp2
   exact ⟨rfl, .inr ⟨by rw [← HO.out]; exact if_neg (fun hh => by have := HRA.out; simp [hh.1, hh.2.1, hh.2.2] at this), rfl, HH.out.ext.trans HXA.out⟩⟩
 have HPG : Hid (p ≠ 0 ∧ g ≠ 0 ∧ l.g = g) := Lib.hid (by have := HRA.out; simp only [Bool.and_eq_true, decide_eq_true_eq] at this; exact ⟨this.1.1, this.1.2, this.2⟩)
 obtain ⟨k, hf⟩ := HFG.out HPG.out.2.1
 obtain ⟨⟨ya, yb, yc, yd⟩, hq, hya, -⟩ := Md.fnd_some hf
 simp only at hya
 have HYA := Lib.hid hya
 clear hya
 have HF := Lib.hid hf
 have HQ := Lib.hid hq
 have HHA := Lib.hid (HH.out.more HXA.out)
 clear hf hq
 have q12 := blk_cell HHA.out.box 12 _ rfl
 go_wp2_with fail
 refine (mbecome_any w0 wa T x l wy st p g A c D d HHA.out g 1 0 k _ _ _ _ HRI.out HF.out HQ.out (HSQ.out.2 _ (List.mem_of_getElem? HQ.out)) (by have := HL.out; omega)).mono ?_
 rintro e' w' ⟨rfl, A', c', D', d', hT'⟩
 have HT9 := Lib.hid hT'
 clear hT'
 go_wp2
 first | go_end0 | skip
 exact .inl ⟨_, by rw [← HO.out, if_pos HPG.out, HPG.out.2.2, Md.setG_at HF.out HQ.out]; simp only [HYA.out], rfl, A', c', D', d', HT9.out⟩
set_option maxRecDepth 100000 in
set_option maxHeartbeats 8000000 in
theorem mapply_6 (w0 w : World) (T : Nat) (x : Sn) (l : Lg) (wy st : Value) (p g : Int) (A : Option Addr) (c : Nat) (D : Option Addr) (d : Nat) (h : Tr w0 w T x l wy st p g A c D d) (hri : Md.rises x.gs) (hl : x.ps.length ≤ 1000 ∧ x.gs.length ≤ 1000) (hsq : (∀ q ∈ x.ps, 0 ≤ q.2 ∧ q.2 < 4611686018427387904) ∧ ∀ q ∈ x.gs, 0 ≤ q.2.2.2 ∧ q.2.2.2 < 4611686018427387904) (hk : l.kind = 6) (hfg : g ≠ 0 → ∃ k, Md.fnd x.gs g = some k) (o : Option Sn) (ho : (if p ≠ 0 ∧ g ≠ 0 ∧ l.g = g then some { x with gs := Md.setG x.gs l.g 3 0 } else none) = o) :
    Calls Tryd.prog 49 #[.pointer (some ⟨T, 0, none⟩)] w (ActE w0 T o l wy st p g) := by
 have HO := Lib.hid ho
 have HH := Lib.hid h
 have HRI := Lib.hid hri
 have HL := Lib.hid hl
 have HSQ := Lib.hid hsq
 have HFG := Lib.hid hfg
 have q5 := blk_cell h.box 5 _ rfl
 rw [hk] at q5
 clear h hri hl hsq ho hfg
 go_enter Tryd.func49, Tryd.ntmps49
 obtain ⟨ra, hra⟩ : ∃ ra, (decide (p ≠ 0) && decide (g ≠ 0) && decide (l.g = g)) = ra := ⟨_, rfl⟩
 go_wp2_with fail
 refine (mown_any w0 w T x l wy st p g A c D d HH.out ra hra).mono ?_
 rintro e' wa ⟨hn, hxa⟩
 have HXA := Lib.hid hxa
 have HRA := Lib.hid hra
 clear hxa hra q5
 rcases hn with ⟨rfl, rfl⟩ | ⟨rfl, rfl⟩
 rotate_left 1
 · go_wp2
   exact ⟨rfl, .inr ⟨by rw [← HO.out]; exact if_neg (fun hh => by have := HRA.out; simp [hh.1, hh.2.1, hh.2.2] at this), rfl, HH.out.ext.trans HXA.out⟩⟩
 have HPG : Hid (p ≠ 0 ∧ g ≠ 0 ∧ l.g = g) := Lib.hid (by have := HRA.out; simp only [Bool.and_eq_true, decide_eq_true_eq] at this; exact ⟨this.1.1, this.1.2, this.2⟩)
 obtain ⟨k, hf⟩ := HFG.out HPG.out.2.1
 obtain ⟨⟨ya, yb, yc, yd⟩, hq, hya, -⟩ := Md.fnd_some hf
 simp only at hya
 have HYA := Lib.hid hya
 clear hya
 have HF := Lib.hid hf
 have HQ := Lib.hid hq
 have HHA := Lib.hid (HH.out.more HXA.out)
 clear hf hq
 have q12 := blk_cell HHA.out.box 12 _ rfl
 go_wp2_with fail
 refine (mbecome_any w0 wa T x l wy st p g A c D d HHA.out g 3 0 k _ _ _ _ HRI.out HF.out HQ.out (HSQ.out.2 _ (List.mem_of_getElem? HQ.out)) (by have := HL.out; omega)).mono ?_
 rintro e' w' ⟨rfl, A', c', D', d', hT'⟩
 have HT9 := Lib.hid hT'
 clear hT'
 go_wp2
 first | go_end0 | skip
 exact .inl ⟨_, by rw [← HO.out, if_pos HPG.out, HPG.out.2.2, Md.setG_at HF.out HQ.out]; simp only [HYA.out], rfl, A', c', D', d', HT9.out⟩
end Go.Proofs.YtohncgikdlbogaaDoor
