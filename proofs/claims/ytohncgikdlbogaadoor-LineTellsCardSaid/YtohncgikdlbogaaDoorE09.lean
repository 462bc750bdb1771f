/-
  Several texts in one: Hzc, Hzd, Hze, Hzf.
-/
import Derived.Test.YtohncgikdlbogaaDoorE08
import Derived.Defers
import Derived.Recover
import Derived.Laws.Pointers
set_option linter.unusedVariables false
set_option linter.unusedSimpArgs false
namespace Go.Proofs.YtohncgikdlbogaaDoor
open Go.RowKit
set_option maxRecDepth 100000 in
set_option maxHeartbeats 8000000 in
theorem mapply_2 (w0 w : World) (T : Nat) (x : Sn) (l : Lg) (wy st : Value) (p g : Int) (A : Option Addr) (c : Nat) (D : Option Addr) (d : Nat) (h : Tr w0 w T x l wy st p g A c D d) (hri : Md.rises x.gs) (hl : x.ps.length ≤ 1000 ∧ x.gs.length ≤ 1000) (hsq : (∀ q ∈ x.ps, 0 ≤ q.2 ∧ q.2 < 4611686018427387904) ∧ ∀ q ∈ x.gs, 0 ≤ q.2.2.2 ∧ q.2.2.2 < 4611686018427387904) (hk : l.kind = 2) (hfp : p ≠ 0 → ∃ (k : Nat) (a b : Int), p = (k : Int) + 1 ∧ x.ps[k]? = some (a, b)) (o : Option Sn) (ho : (if p ≠ 0 ∧ l.p = p ∧ g = 0 then some { x with ps := Md.setP x.ps p 0 } else none) = o) :
    Calls Tryd.prog 49 #[.pointer (some ⟨T, 0, none⟩)] w (ActE w0 T o l wy st p g) := by
 have HO := Lib.hid ho
 have HH := Lib.hid h
 have HRI := Lib.hid hri
 have HL := Lib.hid hl
 have HSQ := Lib.hid hsq
 have HFP := Lib.hid hfp
 have q5 := blk_cell h.box 5 _ rfl
 rw [hk] at q5
 have u7 : ∀ v, Ext w v → v.cell? ⟨T, 7, none⟩ = some (.int .i64 l.p) := fun v hv => blk_cell (hv.blk HH.out.box) 7 _ rfl
 have u11 : ∀ v, Ext w v → v.cell? ⟨T, 11, none⟩ = some (.int .i64 p) := fun v hv => blk_cell (hv.blk HH.out.box) 11 _ rfl
 have u12 : ∀ v, Ext w v → v.cell? ⟨T, 12, none⟩ = some (.int .i64 g) := fun v hv => blk_cell (hv.blk HH.out.box) 12 _ rfl
 clear h hri hl hsq ho hfp
 go_enter Tryd.func49, Tryd.ntmps49
 go_upto_region 5 with fail
 clear q5
 by_cases k1 : p = 0
 · have e1 : (p == 0) = true := by simpa using k1
   have f1 : (p != 0) = false := by simp [k1]
   have K1 := Lib.hid k1
   clear k1
   refine region_gq 24 (fun v => Ext (w) v) (fun v => Ext (w) v) (by kernel_rfl) (Ext.refl _).drew (fun _ _ d _ _ h => by cases d <;> exact h) ?_
   intro Q9 HQE HQP
   have HG : ∀ (l : Array Bool) v, Ext (w) v → l.getD 24 false = false → Ext (w) v := fun _ _ h _ => h
   refine g_tk 0 (v := ?_) HG HQP (fun w hS => ?_) ?_
   rotate_left 1
   · go_simp
     try simp only [e1, f1]
     refine gives_mk ?_ rfl
     with_reducible rfl
   refine g_tk 1 (v := ?_) HG HQP (fun w hS => ?_) ?_
   rotate_left 1
   · go_simp
     try simp only [e1, f1]
     refine gives_mk ?_ rfl
     with_reducible rfl
   refine g_tk 2 (v := ?_) HG HQP (fun w hS => ?_) ?_
   rotate_left 1
   · go_simp
     try simp only [e1, f1]
     refine gives_mk ?_ rfl
     with_reducible rfl
   refine g_tk 3 (v := ?_) HG HQP (fun w hS => ?_) ?_
   rotate_left 1
   · go_simp
     try simp only [e1, f1]
     refine gives_mk ?_ rfl
     with_reducible rfl
   refine g_tk 4 (v := ?_) HG HQP (fun w hS => ?_) ?_
   rotate_left 1
   · go_simp
     try simp only [e1, f1]
     refine gives_mk ?_ rfl
     with_reducible rfl
   refine g_tk 5 (v := ?_) HG HQP (fun w hS => ?_) ?_
   rotate_left 1
   · go_simp
     try simp only [e1, f1]
     refine gives_mk ?_ rfl
     with_reducible rfl
   refine g_take (HG _) (i := 6) rfl (by kernel_rfl) (by kernel_rfl) (by kernel_rfl) (by kernel_rfl) (by kernel_rfl) (fun c a w h => HQP c a _ _ w h) (Still.no (by kernel_rfl)) ?_
   refine g_take (HG _) (i := 7) rfl (by kernel_rfl) (by kernel_rfl) (by kernel_rfl) (by kernel_rfl) (by kernel_rfl) (fun c a w h => HQP c a _ _ w h) (Still.no (by kernel_rfl)) ?_
   refine g_take (HG _) (i := 8) rfl (by kernel_rfl) (by kernel_rfl) (by kernel_rfl) (by kernel_rfl) (by kernel_rfl) (fun c a w h => HQP c a _ _ w h) (Still.no (by kernel_rfl)) ?_
   refine g_take (HG _) (i := 9) rfl (by kernel_rfl) (by kernel_rfl) (by kernel_rfl) (by kernel_rfl) (by kernel_rfl) (fun c a w h => HQP c a _ _ w h) (Still.no (by kernel_rfl)) ?_
   refine g_take (HG _) (i := 10) rfl (by kernel_rfl) (by kernel_rfl) (by kernel_rfl) (by kernel_rfl) (by kernel_rfl) (fun c a w h => HQP c a _ _ w h) (Still.no (by kernel_rfl)) ?_
   refine g_take (HG _) (i := 11) rfl (by kernel_rfl) (by kernel_rfl) (by kernel_rfl) (by kernel_rfl) (by kernel_rfl) (fun c a w h => HQP c a _ _ w h) (Still.no (by kernel_rfl)) ?_
   refine g_take (HG _) (i := 12) rfl (by kernel_rfl) (by kernel_rfl) (by kernel_rfl) (by kernel_rfl) (by kernel_rfl) (fun c a w h => HQP c a _ _ w h) (Still.no (by kernel_rfl)) ?_
   refine g_take (HG _) (i := 13) rfl (by kernel_rfl) (by kernel_rfl) (by kernel_rfl) (by kernel_rfl) (by kernel_rfl) (fun c a w h => HQP c a _ _ w h) (Still.no (by kernel_rfl)) ?_
   refine g_take (HG _) (i := 14) rfl (by kernel_rfl) (by kernel_rfl) (by kernel_rfl) (by kernel_rfl) (by kernel_rfl) (fun c a w h => HQP c a _ _ w h) (Still.no (by kernel_rfl)) ?_
   refine g_take (HG _) (i := 15) rfl (by kernel_rfl) (by kernel_rfl) (by kernel_rfl) (by kernel_rfl) (by kernel_rfl) (fun c a w h => HQP c a _ _ w h) (Still.no (by kernel_rfl)) ?_
   refine g_tk 16 (v := ?_) HG HQP (fun w hS => ?_) ?_
   rotate_left 1
   · go_simp
     try simp only [e1, f1]
     refine gives_mk ?_ rfl
     with_reducible rfl
   refine g_tk 17 (v := ?_) HG HQP (fun w hS => ?_) ?_
   rotate_left 1
   · go_simp
     try simp only [e1, f1]
     refine gives_mk ?_ rfl
     with_reducible rfl
   refine g_take (HG _) (i := 18) rfl (by kernel_rfl) (by kernel_rfl) (by kernel_rfl) (by kernel_rfl) (by kernel_rfl) (fun c a w h => HQP c a _ _ w h) (Still.no (by kernel_rfl)) ?_
   refine g_take (HG _) (i := 19) rfl (by kernel_rfl) (by kernel_rfl) (by kernel_rfl) (by kernel_rfl) (by kernel_rfl) (fun c a w h => HQP c a _ _ w h) (Still.no (by kernel_rfl)) ?_
   refine g_take (HG _) (i := 20) rfl (by kernel_rfl) (by kernel_rfl) (by kernel_rfl) (by kernel_rfl) (by kernel_rfl) (fun c a w h => HQP c a _ _ w h) (Still.no (by kernel_rfl)) ?_
   refine g_take (HG _) (i := 21) rfl (by kernel_rfl) (by kernel_rfl) (by kernel_rfl) (by kernel_rfl) (by kernel_rfl) (fun c a w h => HQP c a _ _ w h) (Still.no (by kernel_rfl)) ?_
   refine g_take (HG _) (i := 22) rfl (by kernel_rfl) (by kernel_rfl) (by kernel_rfl) (by kernel_rfl) (by kernel_rfl) (fun c a w h => HQP c a _ _ w h) (Still.no (by kernel_rfl)) ?_
   refine g_tk 23 (v := ?_) HG HQP (fun w hS => ?_) ?_
   rotate_left 1
   · go_simp
     try simp only [e1, f1]
     refine gives_mk ?_ rfl
     with_reducible rfl
   refine g_last (k := 24) (by kernel_rfl) (by kernel_rfl) (by kernel_rfl) rfl (by kernel_rfl) (fun w hS R hR1 hR2 => ?_)
   have hq9 := HQE.out
   subst hq9
   have HR1 := Lib.hid hR1
   have HR2 := Lib.hid hR2
   clear hR1 hR2 HG HQP HQE
   go_simp
   refine entersM_call ((need_no w).mono ?_)
   rintro e' w' ⟨rfl, rfl⟩
   refine HR2.out _ _ ?_
   exact ⟨rfl, .inr ⟨by rw [← HO.out]; exact if_neg (fun hh => hh.1 K1.out), rfl, HH.out.ext.trans hS⟩⟩
 have e1 : (p == 0) = false := by simpa using k1
 have f1 : (p != 0) = true := by simpa using k1
 have K1 := Lib.hid k1
 clear k1
 by_cases k2 : l.p = p
 rotate_left 1
 · have e2 : (l.p == p) = false := by simpa using k2
   have K2 := Lib.hid k2
   clear k2
   refine region_gq 24 (fun v => Ext (w) v) (fun v => Ext (w) v) (by kernel_rfl) (Ext.refl _).drew (fun _ _ d _ _ h => by cases d <;> exact h) ?_
   intro Q9 HQE HQP
   have HG : ∀ (l : Array Bool) v, Ext (w) v → l.getD 24 false = false → Ext (w) v := fun _ _ h _ => h
   refine g_tk 0 (v := ?_) HG HQP (fun w hS => ?_) ?_
   rotate_left 1
   · go_simp
     try simp only [e1, f1, e2]
     refine gives_mk ?_ rfl
     with_reducible rfl
   refine g_tk 1 (v := ?_) HG HQP (fun w hS => ?_) ?_
   rotate_left 1
   · go_simp
     try simp only [e1, f1, e2]
     refine gives_mk ?_ rfl
     with_reducible rfl
   refine g_tk 2 (v := ?_) HG HQP (fun w hS => ?_) ?_
   rotate_left 1
   · go_simp
     try simp only [e1, f1, e2]
     refine gives_mk ?_ rfl
     with_reducible rfl
   refine g_tk 3 (v := ?_) HG HQP (fun w hS => ?_) ?_
   rotate_left 1
   · go_simp
     try simp only [e1, f1, e2]
     refine gives_mk ?_ rfl
     with_reducible rfl
   refine g_tk 4 (v := ?_) HG HQP (fun w hS => ?_) ?_
   rotate_left 1
   · go_simp
     try simp only [e1, f1, e2]
     refine gives_mk ?_ rfl
     with_reducible rfl
   refine g_tk 5 (v := ?_) HG HQP (fun w hS => ?_) ?_
   rotate_left 1
   · go_simp
     try simp only [e1, f1, e2]
     refine gives_mk ?_ rfl
     with_reducible rfl
   refine g_tk 6 (v := ?_) HG HQP (fun w hS => ?_) ?_
   rotate_left 1
   · go_simp
     try simp only [e1, f1, e2]
     refine gives_mk ?_ rfl
     with_reducible rfl
   refine g_tk 7 (v := ?_) HG HQP (fun w hS => ?_) ?_
   rotate_left 1
   · go_simp
     try simp only [e1, f1, e2]
     refine gives_mk ?_ rfl
     with_reducible rfl
   refine g_tk 8 (v := ?_) HG HQP (fun w hS => ?_) ?_
   rotate_left 1
   · go_simp
     try simp only [e1, f1, e2]
     refine gives_mk ?_ rfl
     with_reducible rfl
   refine g_tk 9 (v := ?_) HG HQP (fun w hS => ?_) ?_
   rotate_left 1
   · go_simp
     try simp only [e1, f1, e2]
     refine gives_mk ?_ rfl
     with_reducible rfl
   refine g_tk 10 (v := ?_) HG HQP (fun w hS => ?_) ?_
   rotate_left 1
   · go_simp
     try simp only [e1, f1, e2]
     refine gives_mk ?_ rfl
     with_reducible rfl
   refine g_tk 11 (v := ?_) HG HQP (fun w hS => ?_) ?_
   rotate_left 1
   · go_simp
     try simp only [e1, f1, e2]
     refine gives_mk ?_ rfl
     with_reducible rfl
   refine g_tk 12 (v := ?_) HG HQP (fun w hS => ?_) ?_
   rotate_left 1
   · go_simp
     try simp only [e1, f1, e2]
     refine gives_mk ?_ rfl
     with_reducible rfl
   refine g_tk 13 (v := ?_) HG HQP (fun w hS => ?_) ?_
   rotate_left 1
   · go_simp
     try simp only [e1, f1, e2]
     refine gives_mk ?_ rfl
     with_reducible rfl
   refine g_tk 14 (v := ?_) HG HQP (fun w hS => ?_) ?_
   rotate_left 1
   · go_simp
     try simp only [e1, f1, e2]
     refine gives_mk ?_ rfl
     with_reducible rfl
   refine g_tk 15 (v := ?_) HG HQP (fun w hS => ?_) ?_
   rotate_left 1
   · go_simp
     try simp only [e1, f1, e2]
     refine gives_mk ?_ rfl
     with_reducible rfl
   refine g_tk 16 (v := ?_) HG HQP (fun w hS => ?_) ?_
   rotate_left 1
   · go_simp
     try simp only [e1, f1, e2]
     refine gives_mk ?_ rfl
     with_reducible rfl
   refine g_tk 17 (v := ?_) HG HQP (fun w hS => ?_) ?_
   rotate_left 1
   · go_simp
     try simp only [e1, f1, e2]
     refine gives_mk ?_ rfl
     with_reducible rfl
   refine g_take (HG _) (i := 18) rfl (by kernel_rfl) (by kernel_rfl) (by kernel_rfl) (by kernel_rfl) (by kernel_rfl) (fun c a w h => HQP c a _ _ w h) (Still.no (by kernel_rfl)) ?_
   refine g_take (HG _) (i := 19) rfl (by kernel_rfl) (by kernel_rfl) (by kernel_rfl) (by kernel_rfl) (by kernel_rfl) (fun c a w h => HQP c a _ _ w h) (Still.no (by kernel_rfl)) ?_
   refine g_take (HG _) (i := 20) rfl (by kernel_rfl) (by kernel_rfl) (by kernel_rfl) (by kernel_rfl) (by kernel_rfl) (fun c a w h => HQP c a _ _ w h) (Still.no (by kernel_rfl)) ?_
   refine g_take (HG _) (i := 21) rfl (by kernel_rfl) (by kernel_rfl) (by kernel_rfl) (by kernel_rfl) (by kernel_rfl) (fun c a w h => HQP c a _ _ w h) (Still.no (by kernel_rfl)) ?_
   refine g_take (HG _) (i := 22) rfl (by kernel_rfl) (by kernel_rfl) (by kernel_rfl) (by kernel_rfl) (by kernel_rfl) (fun c a w h => HQP c a _ _ w h) (Still.no (by kernel_rfl)) ?_
   refine g_tk 23 (v := ?_) HG HQP (fun w hS => ?_) ?_
   rotate_left 1
   · go_simp
     try simp only [e1, f1, e2]
     refine gives_mk ?_ rfl
     with_reducible rfl
   refine g_last (k := 24) (by kernel_rfl) (by kernel_rfl) (by kernel_rfl) rfl (by kernel_rfl) (fun w hS R hR1 hR2 => ?_)
   have hq9 := HQE.out
   subst hq9
   have HR1 := Lib.hid hR1
   have HR2 := Lib.hid hR2
   clear hR1 hR2 HG HQP HQE
   go_simp
   refine entersM_call ((need_no w).mono ?_)
   rintro e' w' ⟨rfl, rfl⟩
   refine HR2.out _ _ ?_
   exact ⟨rfl, .inr ⟨by rw [← HO.out]; exact if_neg (fun hh => K2.out hh.2.1), rfl, HH.out.ext.trans hS⟩⟩
 have e2 : (l.p == p) = true := by simpa using k2
 have K2 := Lib.hid k2
 clear k2
 by_cases k3 : g = 0
 rotate_left 1
 · have e3 : (g == 0) = false := by simpa using k3
   have K3 := Lib.hid k3
   clear k3
   refine region_gq 24 (fun v => Ext (w) v) (fun v => Ext (w) v) (by kernel_rfl) (Ext.refl _).drew (fun _ _ d _ _ h => by cases d <;> exact h) ?_
   intro Q9 HQE HQP
   have HG : ∀ (l : Array Bool) v, Ext (w) v → l.getD 24 false = false → Ext (w) v := fun _ _ h _ => h
   refine g_tk 0 (v := ?_) HG HQP (fun w hS => ?_) ?_
   rotate_left 1
   · go_simp
     try simp only [e1, f1, e2, e3]
     refine gives_mk ?_ rfl
     with_reducible rfl
   refine g_tk 1 (v := ?_) HG HQP (fun w hS => ?_) ?_
   rotate_left 1
   · go_simp
     try simp only [e1, f1, e2, e3]
     refine gives_mk ?_ rfl
     with_reducible rfl
   refine g_tk 2 (v := ?_) HG HQP (fun w hS => ?_) ?_
   rotate_left 1
   · go_simp
     try simp only [e1, f1, e2, e3]
     refine gives_mk ?_ rfl
     with_reducible rfl
   refine g_tk 3 (v := ?_) HG HQP (fun w hS => ?_) ?_
   rotate_left 1
   · go_simp
     try simp only [e1, f1, e2, e3]
     refine gives_mk ?_ rfl
     with_reducible rfl
   refine g_tk 4 (v := ?_) HG HQP (fun w hS => ?_) ?_
   rotate_left 1
   · go_simp
     try simp only [e1, f1, e2, e3]
     refine gives_mk ?_ rfl
     with_reducible rfl
   refine g_tk 5 (v := ?_) HG HQP (fun w hS => ?_) ?_
   rotate_left 1
   · go_simp
     try simp only [e1, f1, e2, e3]
     refine gives_mk ?_ rfl
     with_reducible rfl
   refine g_tk 6 (v := ?_) HG HQP (fun w hS => ?_) ?_
   rotate_left 1
   · go_simp
     try simp only [e1, f1, e2, e3]
     refine gives_mk ?_ rfl
     with_reducible rfl
   refine g_tk 7 (v := ?_) HG HQP (fun w hS => ?_) ?_
   rotate_left 1
   · go_simp
     try simp only [e1, f1, e2, e3]
     refine gives_mk ?_ rfl
     with_reducible rfl
   refine g_tk 8 (v := ?_) HG HQP (fun w hS => ?_) ?_
   rotate_left 1
   · go_simp
     try simp only [e1, f1, e2, e3]
     refine gives_mk ?_ rfl
     with_reducible rfl
   refine g_tk 9 (v := ?_) HG HQP (fun w hS => ?_) ?_
   rotate_left 1
   · go_simp
     try simp only [e1, f1, e2, e3]
     refine gives_mk ?_ rfl
     with_reducible rfl
   refine g_tk 10 (v := ?_) HG HQP (fun w hS => ?_) ?_
   rotate_left 1
   · go_simp
     try simp only [e1, f1, e2, e3]
     refine gives_mk ?_ rfl
     with_reducible rfl
   refine g_tk 11 (v := ?_) HG HQP (fun w hS => ?_) ?_
   rotate_left 1
   · go_simp
     try simp only [e1, f1, e2, e3]
     refine gives_mk ?_ rfl
     with_reducible rfl
   refine g_tk 12 (v := ?_) HG HQP (fun w hS => ?_) ?_
   rotate_left 1
   · go_simp
     try simp only [e1, f1, e2, e3]
     refine gives_mk ?_ rfl
     with_reducible rfl
   refine g_tk 13 (v := ?_) HG HQP (fun w hS => ?_) ?_
   rotate_left 1
   · go_simp
     try simp only [e1, f1, e2, e3]
     refine gives_mk ?_ rfl
     with_reducible rfl
   refine g_tk 14 (v := ?_) HG HQP (fun w hS => ?_) ?_
   rotate_left 1
   · go_simp
     try simp only [e1, f1, e2, e3]
     refine gives_mk ?_ rfl
     with_reducible rfl
   refine g_tk 15 (v := ?_) HG HQP (fun w hS => ?_) ?_
   rotate_left 1
   · go_simp
     try simp only [e1, f1, e2, e3]
     refine gives_mk ?_ rfl
     with_reducible rfl
   refine g_tk 16 (v := ?_) HG HQP (fun w hS => ?_) ?_
   rotate_left 1
   · go_simp
     try simp only [e1, f1, e2, e3]
     refine gives_mk ?_ rfl
     with_reducible rfl
   refine g_tk 17 (v := ?_) HG HQP (fun w hS => ?_) ?_
   rotate_left 1
   · go_simp
     try simp only [e1, f1, e2, e3]
     refine gives_mk ?_ rfl
     with_reducible rfl
   refine g_tk 18 (v := ?_) HG HQP (fun w hS => ?_) ?_
   rotate_left 1
   · go_simp
     try simp only [e1, f1, e2, e3]
     refine gives_mk ?_ rfl
     with_reducible rfl
   refine g_tk 19 (v := ?_) HG HQP (fun w hS => ?_) ?_
   rotate_left 1
   · go_simp
     try simp only [e1, f1, e2, e3]
     refine gives_mk ?_ rfl
     with_reducible rfl
   refine g_tk 20 (v := ?_) HG HQP (fun w hS => ?_) ?_
   rotate_left 1
   · go_simp
     try simp only [e1, f1, e2, e3]
     refine gives_mk ?_ rfl
     with_reducible rfl
   refine g_tk 21 (v := ?_) HG HQP (fun w hS => ?_) ?_
   rotate_left 1
   · go_simp
     try simp only [e1, f1, e2, e3]
     refine gives_mk ?_ rfl
     with_reducible rfl
   refine g_tk 22 (v := ?_) HG HQP (fun w hS => ?_) ?_
   rotate_left 1
   · go_simp
     try simp only [e1, f1, e2, e3]
     refine gives_mk ?_ rfl
     with_reducible rfl
   refine g_tk 23 (v := ?_) HG HQP (fun w hS => ?_) ?_
   rotate_left 1
   · go_simp
     try simp only [e1, f1, e2, e3]
     refine gives_mk ?_ rfl
     with_reducible rfl
   refine g_last (k := 24) (by kernel_rfl) (by kernel_rfl) (by kernel_rfl) rfl (by kernel_rfl) (fun w hS R hR1 hR2 => ?_)
   have hq9 := HQE.out
   subst hq9
   have HR1 := Lib.hid hR1
   have HR2 := Lib.hid hR2
   clear hR1 hR2 HG HQP HQE
   go_simp
   refine entersM_call ((need_no w).mono ?_)
   rintro e' w' ⟨rfl, rfl⟩
   refine HR2.out _ _ ?_
   exact ⟨rfl, .inr ⟨by rw [← HO.out]; exact if_neg (fun hh => K3.out hh.2.2), rfl, HH.out.ext.trans hS⟩⟩
 have e3 : (g == 0) = true := by simpa using k3
 have K3 := Lib.hid k3
 clear k3
 refine region_gq 24 (fun v => Ext (w) v) (fun v => Ext (w) v) (by kernel_rfl) (Ext.refl _).drew (fun _ _ d _ _ h => by cases d <;> exact h) ?_
 intro Q9 HQE HQP
 have HG : ∀ (l : Array Bool) v, Ext (w) v → l.getD 24 false = false → Ext (w) v := fun _ _ h _ => h
 refine g_tk 0 (v := ?_) HG HQP (fun w hS => ?_) ?_
 rotate_left 1
 · go_simp
   try simp only [e1, f1, e2, e3]
   refine gives_mk ?_ rfl
   with_reducible rfl
 refine g_tk 1 (v := ?_) HG HQP (fun w hS => ?_) ?_
 rotate_left 1
 · go_simp
   try simp only [e1, f1, e2, e3]
   refine gives_mk ?_ rfl
   with_reducible rfl
 refine g_tk 2 (v := ?_) HG HQP (fun w hS => ?_) ?_
 rotate_left 1
 · go_simp
   try simp only [e1, f1, e2, e3]
   refine gives_mk ?_ rfl
   with_reducible rfl
 refine g_tk 3 (v := ?_) HG HQP (fun w hS => ?_) ?_
 rotate_left 1
 · go_simp
   try simp only [e1, f1, e2, e3]
   refine gives_mk ?_ rfl
   with_reducible rfl
 refine g_tk 4 (v := ?_) HG HQP (fun w hS => ?_) ?_
 rotate_left 1
 · go_simp
   try simp only [e1, f1, e2, e3]
   refine gives_mk ?_ rfl
   with_reducible rfl
 refine g_tk 5 (v := ?_) HG HQP (fun w hS => ?_) ?_
 rotate_left 1
 · go_simp
   try simp only [e1, f1, e2, e3]
   refine gives_mk ?_ rfl
   with_reducible rfl
 refine g_tk 6 (v := ?_) HG HQP (fun w hS => ?_) ?_
 rotate_left 1
 · go_simp
   try simp only [e1, f1, e2, e3]
   refine gives_mk ?_ rfl
   with_reducible rfl
 refine g_tk 7 (v := ?_) HG HQP (fun w hS => ?_) ?_
 rotate_left 1
 · go_simp
   try simp only [e1, f1, e2, e3]
   refine gives_mk ?_ rfl
   with_reducible rfl
 refine g_tk 8 (v := ?_) HG HQP (fun w hS => ?_) ?_
 rotate_left 1
 · go_simp
   try simp only [e1, f1, e2, e3]
   refine gives_mk ?_ rfl
   with_reducible rfl
 refine g_tk 9 (v := ?_) HG HQP (fun w hS => ?_) ?_
 rotate_left 1
 · go_simp
   try simp only [e1, f1, e2, e3]
   refine gives_mk ?_ rfl
   with_reducible rfl
 refine g_tk 10 (v := ?_) HG HQP (fun w hS => ?_) ?_
 rotate_left 1
 · go_simp
   try simp only [e1, f1, e2, e3]
   refine gives_mk ?_ rfl
   with_reducible rfl
 refine g_tk 11 (v := ?_) HG HQP (fun w hS => ?_) ?_
 rotate_left 1
 · go_simp
   try simp only [e1, f1, e2, e3]
   refine gives_mk ?_ rfl
   with_reducible rfl
 refine g_tk 12 (v := ?_) HG HQP (fun w hS => ?_) ?_
 rotate_left 1
 · go_simp
   try simp only [e1, f1, e2, e3]
   refine gives_mk ?_ rfl
   with_reducible rfl
 refine g_tk 13 (v := ?_) HG HQP (fun w hS => ?_) ?_
 rotate_left 1
 · go_simp
   try simp only [e1, f1, e2, e3]
   refine gives_mk ?_ rfl
   with_reducible rfl
 refine g_tk 14 (v := ?_) HG HQP (fun w hS => ?_) ?_
 rotate_left 1
 · go_simp
   try simp only [e1, f1, e2, e3]
   refine gives_mk ?_ rfl
   with_reducible rfl
 refine g_tk 15 (v := ?_) HG HQP (fun w hS => ?_) ?_
 rotate_left 1
 · go_simp
   try simp only [e1, f1, e2, e3]
   refine gives_mk ?_ rfl
   with_reducible rfl
 refine g_tk 16 (v := ?_) HG HQP (fun w hS => ?_) ?_
 rotate_left 1
 · go_simp
   try simp only [e1, f1, e2, e3]
   refine gives_mk ?_ rfl
   with_reducible rfl
 refine g_tk 17 (v := ?_) HG HQP (fun w hS => ?_) ?_
 rotate_left 1
 · go_simp
   try simp only [e1, f1, e2, e3]
   refine gives_mk ?_ rfl
   with_reducible rfl
 refine g_tk 18 (v := ?_) HG HQP (fun w hS => ?_) ?_
 rotate_left 1
 · go_simp
   try simp only [e1, f1, e2, e3]
   refine gives_mk ?_ rfl
   with_reducible rfl
 refine g_tk 19 (v := ?_) HG HQP (fun w hS => ?_) ?_
 rotate_left 1
 · go_simp
   try simp only [e1, f1, e2, e3]
   refine gives_mk ?_ rfl
   with_reducible rfl
 refine g_tk 20 (v := ?_) HG HQP (fun w hS => ?_) ?_
 rotate_left 1
 · go_simp
   try simp only [e1, f1, e2, e3]
   refine gives_mk ?_ rfl
   with_reducible rfl
 refine g_tk 21 (v := ?_) HG HQP (fun w hS => ?_) ?_
 rotate_left 1
 · go_simp
   try simp only [e1, f1, e2, e3]
   refine gives_mk ?_ rfl
   with_reducible rfl
 refine g_tk 22 (v := ?_) HG HQP (fun w hS => ?_) ?_
 rotate_left 1
 · go_simp
   try simp only [e1, f1, e2, e3]
   refine gives_mk ?_ rfl
   with_reducible rfl
 refine g_tk 23 (v := ?_) HG HQP (fun w hS => ?_) ?_
 rotate_left 1
 · go_simp
   try simp only [e1, f1, e2, e3]
   refine gives_mk ?_ rfl
   with_reducible rfl
 refine g_last (k := 24) (by kernel_rfl) (by kernel_rfl) (by kernel_rfl) rfl (by kernel_rfl) (fun w hS R hR1 hR2 => ?_)
 have hq9 := HQE.out
 subst hq9
 have HR1 := Lib.hid hR1
 have HR2 := Lib.hid hR2
 clear hR1 hR2 HG HQP HQE
 go_simp
 refine entersM_call ((need_yes w).mono ?_)
 rintro e' w' ⟨rfl, rfl⟩
 have HXS := Lib.hid hS
 clear hS
 refine HR1.out _ _ ?_
 obtain ⟨k, a, b, hp, hq⟩ := HFP.out K1.out
 have HP := Lib.hid hp
 have HQ := Lib.hid hq
 clear hp hq u7 u11 u12 e1 f1 e2 e3
 have HHA := Lib.hid (HH.out.more HXS.out)
 have q11 := blk_cell HHA.out.box 11 _ rfl
 rw [HP.out] at q11
 go_simp
 go_wp2_with fail
 refine (mgive_any w0 _ T x l wy st p g A c D d HHA.out k 0 a b HQ.out (HSQ.out.1 _ (List.mem_of_getElem? HQ.out)) (by have := HL.out; omega)).mono ?_
 rintro e' w' ⟨rfl, A', c', D', d', hT'⟩
 have HT9 := Lib.hid hT'
 clear hT'
 go_wp2
 first | go_end0 | skip
 exact .inl ⟨_, by rw [← HO.out, if_pos ⟨K1.out, K2.out, K3.out⟩, HP.out, Md.setP_at HQ.out], rfl, A', c', D', d', HT9.out⟩
set_option maxRecDepth 100000 in
set_option maxHeartbeats 8000000 in
theorem mapply_9 (w0 w : World) (T : Nat) (x : Sn) (l : Lg) (wy st : Value) (p g : Int) (A : Option Addr) (c : Nat) (D : Option Addr) (d : Nat) (h : Tr w0 w T x l wy st p g A c D d) (hri : Md.rises x.gs) (hl : x.ps.length ≤ 1000 ∧ x.gs.length ≤ 1000) (hsq : (∀ q ∈ x.ps, 0 ≤ q.2 ∧ q.2 < 4611686018427387904) ∧ ∀ q ∈ x.gs, 0 ≤ q.2.2.2 ∧ q.2.2.2 < 4611686018427387904) (hk : l.kind = 9) (hfg : g ≠ 0 → ∃ k, Md.fnd x.gs g = some k) (hfp : p ≠ 0 → ∃ (k : Nat) (a b : Int), p = (k : Int) + 1 ∧ x.ps[k]? = some (a, b)) (o : Option Sn) (ho : (if p ≠ 0 ∧ g ≠ 0 ∧ l.g = g ∧ l.p = p then some { x with gs := Md.setG x.gs l.g 4 l.m, ps := Md.setP x.ps l.p 0 } else none) = o) :
    Calls Tryd.prog 49 #[.pointer (some ⟨T, 0, none⟩)] w (ActE w0 T o l wy st p g) := by
 have HO := Lib.hid ho
 have HH := Lib.hid h
 have HRI := Lib.hid hri
 have HL := Lib.hid hl
 have HSQ := Lib.hid hsq
 have HFG := Lib.hid hfg
 have q5 := blk_cell h.box 5 _ rfl
 rw [hk] at q5
 have HFP := Lib.hid hfp
 clear h hri hl hsq ho hfg hfp
 go_enter Tryd.func49, Tryd.ntmps49
 obtain ⟨ra, hra⟩ : ∃ ra, (decide (p ≠ 0) && decide (g ≠ 0) && decide (l.g = g)) = ra := ⟨_, rfl⟩
 go_wp2_with fail
 refine (mown_any w0 w T x l wy st p g A c D d HH.out ra hra).mono ?_
 rintro e' wa ⟨hn, hxa⟩
 have HXA := Lib.hid hxa
 have HRA := Lib.hid hra
 clear hxa hra q5
 rcases hn with ⟨rfl, rfl⟩ | ⟨rfl, rfl⟩
 rotate_left 1
 · go_wp2
   exact ⟨rfl, .inr ⟨by rw [← HO.out]; exact if_neg (fun hh => by have := HRA.out; simp [hh.1, hh.2.1, hh.2.2.1] at this), rfl, HH.out.ext.trans HXA.out⟩⟩
 have HPG : Hid (p ≠ 0 ∧ g ≠ 0 ∧ l.g = g) := Lib.hid (by have := HRA.out; simp only [Bool.and_eq_true, decide_eq_true_eq] at this; exact ⟨this.1.1, this.1.2, this.2⟩)
 obtain ⟨k, hf⟩ := HFG.out HPG.out.2.1
 obtain ⟨⟨ya, yb, yc, yd⟩, hq, hya, -⟩ := Md.fnd_some hf
 simp only at hya
 have HYA := Lib.hid hya
 clear hya
 have HF := Lib.hid hf
 have HQ := Lib.hid hq
 have HHA := Lib.hid (HH.out.more HXA.out)
 clear hf hq
 have u4 : ∀ v, Ext wa v → v.cell? ⟨T, 4, none⟩ = some (.int .i64 l.m) := fun v hv => blk_cell (hv.blk HHA.out.box) 4 _ rfl
 have u7 : ∀ v, Ext wa v → v.cell? ⟨T, 7, none⟩ = some (.int .i64 l.p) := fun v hv => blk_cell (hv.blk HHA.out.box) 7 _ rfl
 have u11 : ∀ v, Ext wa v → v.cell? ⟨T, 11, none⟩ = some (.int .i64 p) := fun v hv => blk_cell (hv.blk HHA.out.box) 11 _ rfl
 have u12 : ∀ v, Ext wa v → v.cell? ⟨T, 12, none⟩ = some (.int .i64 g) := fun v hv => blk_cell (hv.blk HHA.out.box) 12 _ rfl
 go_upto_region 25 with fail
 by_cases k2 : l.p = p
 rotate_left 1
 · have e2 : (l.p == p) = false := by simpa using k2
   have K2 := Lib.hid k2
   clear k2
   refine region_gq 10 (fun v => Ext (wa) v) (fun v => Ext (wa) v) (by kernel_rfl) (Ext.refl _).drew (fun _ _ d _ _ h => by cases d <;> exact h) ?_
   intro Q9 HQE HQP
   have HG : ∀ (l : Array Bool) v, Ext (wa) v → l.getD 10 false = false → Ext (wa) v := fun _ _ h _ => h
   refine g_tk 0 (v := ?_) HG HQP (fun w hS => ?_) ?_
   rotate_left 1
   · go_simp
     try simp only [e2]
     refine gives_mk ?_ rfl
     with_reducible rfl
   refine g_tk 1 (v := ?_) HG HQP (fun w hS => ?_) ?_
   rotate_left 1
   · go_simp
     try simp only [e2]
     refine gives_mk ?_ rfl
     with_reducible rfl
   refine g_tk 2 (v := ?_) HG HQP (fun w hS => ?_) ?_
   rotate_left 1
   · go_simp
     try simp only [e2]
     refine gives_mk ?_ rfl
     with_reducible rfl
   refine g_tk 3 (v := ?_) HG HQP (fun w hS => ?_) ?_
   rotate_left 1
   · go_simp
     try simp only [e2]
     refine gives_mk ?_ rfl
     with_reducible rfl
   refine g_tk 4 (v := ?_) HG HQP (fun w hS => ?_) ?_
   rotate_left 1
   · go_simp
     try simp only [e2]
     refine gives_mk ?_ rfl
     with_reducible rfl
   refine g_tk 5 (v := ?_) HG HQP (fun w hS => ?_) ?_
   rotate_left 1
   · go_simp
     try simp only [e2]
     refine gives_mk ?_ rfl
     with_reducible rfl
   refine g_tk 6 (v := ?_) HG HQP (fun w hS => ?_) ?_
   rotate_left 1
   · go_simp
     try simp only [e2]
     refine gives_mk ?_ rfl
     with_reducible rfl
   refine g_tk 7 (v := ?_) HG HQP (fun w hS => ?_) ?_
   rotate_left 1
   · go_simp
     try simp only [e2]
     refine gives_mk ?_ rfl
     with_reducible rfl
   refine g_tk 8 (v := ?_) HG HQP (fun w hS => ?_) ?_
   rotate_left 1
   · go_simp
     try simp only [e2]
     refine gives_mk ?_ rfl
     with_reducible rfl
   refine g_tk 9 (v := ?_) HG HQP (fun w hS => ?_) ?_
   rotate_left 1
   · go_simp
     try simp only [e2]
     refine gives_mk ?_ rfl
     with_reducible rfl
   refine g_last (k := 10) (by kernel_rfl) (by kernel_rfl) (by kernel_rfl) rfl (by kernel_rfl) (fun w hS R hR1 hR2 => ?_)
   have hq9 := HQE.out
   subst hq9
   have HR1 := Lib.hid hR1
   have HR2 := Lib.hid hR2
   clear hR1 hR2 HG HQP HQE
   go_simp
   refine entersM_call ((need_no w).mono ?_)
   rintro e' w' ⟨rfl, rfl⟩
   refine HR2.out _ _ ?_
   exact ⟨rfl, .inr ⟨by rw [← HO.out]; exact if_neg (fun hh => K2.out hh.2.2.2), rfl, HHA.out.ext.trans hS⟩⟩
 have e2 : (l.p == p) = true := by simpa using k2
 have K2 := Lib.hid k2
 clear k2
 refine region_gq 10 (fun v => Ext (wa) v) (fun v => Ext (wa) v) (by kernel_rfl) (Ext.refl _).drew (fun _ _ d _ _ h => by cases d <;> exact h) ?_
 intro Q9 HQE HQP
 have HG : ∀ (l : Array Bool) v, Ext (wa) v → l.getD 10 false = false → Ext (wa) v := fun _ _ h _ => h
 refine g_tk 0 (v := ?_) HG HQP (fun w hS => ?_) ?_
 rotate_left 1
 · go_simp
   try simp only [e2]
   refine gives_mk ?_ rfl
   with_reducible rfl
 refine g_tk 1 (v := ?_) HG HQP (fun w hS => ?_) ?_
 rotate_left 1
 · go_simp
   try simp only [e2]
   refine gives_mk ?_ rfl
   with_reducible rfl
 refine g_tk 2 (v := ?_) HG HQP (fun w hS => ?_) ?_
 rotate_left 1
 · go_simp
   try simp only [e2]
   refine gives_mk ?_ rfl
   with_reducible rfl
 refine g_tk 3 (v := ?_) HG HQP (fun w hS => ?_) ?_
 rotate_left 1
 · go_simp
   try simp only [e2]
   refine gives_mk ?_ rfl
   with_reducible rfl
 refine g_tk 4 (v := ?_) HG HQP (fun w hS => ?_) ?_
 rotate_left 1
 · go_simp
   try simp only [e2]
   refine gives_mk ?_ rfl
   with_reducible rfl
 refine g_tk 5 (v := ?_) HG HQP (fun w hS => ?_) ?_
 rotate_left 1
 · go_simp
   try simp only [e2]
   refine gives_mk ?_ rfl
   with_reducible rfl
 refine g_tk 6 (v := ?_) HG HQP (fun w hS => ?_) ?_
 rotate_left 1
 · go_simp
   try simp only [e2]
   refine gives_mk ?_ rfl
   with_reducible rfl
 refine g_tk 7 (v := ?_) HG HQP (fun w hS => ?_) ?_
 rotate_left 1
 · go_simp
   try simp only [e2]
   refine gives_mk ?_ rfl
   with_reducible rfl
 refine g_tk 8 (v := ?_) HG HQP (fun w hS => ?_) ?_
 rotate_left 1
 · go_simp
   try simp only [e2]
   refine gives_mk ?_ rfl
   with_reducible rfl
 refine g_tk 9 (v := ?_) HG HQP (fun w hS => ?_) ?_
 rotate_left 1
 · go_simp
   try simp only [e2]
   refine gives_mk ?_ rfl
   with_reducible rfl
 refine g_last (k := 10) (by kernel_rfl) (by kernel_rfl) (by kernel_rfl) rfl (by kernel_rfl) (fun w hS R hR1 hR2 => ?_)
 have hq9 := HQE.out
 subst hq9
 have HR1 := Lib.hid hR1
 have HR2 := Lib.hid hR2
 clear hR1 hR2 HG HQP HQE
 go_simp
 refine entersM_call ((need_yes w).mono ?_)
 rintro e' w' ⟨rfl, hw'⟩
 have hw2 := hw'.symm
 clear hw'
 subst hw2
 have HXS := Lib.hid hS
 clear hS
 refine HR1.out _ _ ?_
 have HHB := Lib.hid (HHA.out.more HXS.out)
 clear e2 u4 u7 u11 u12
 obtain ⟨wb, hwb⟩ : ∃ wb, wb = w := ⟨_, rfl⟩
 rw [← hwb]
 have HHC : Hid (Tr w0 wb T x l wy st p g A c D d) := Lib.hid (by rw [hwb]; exact HHB.out)
 clear hwb
 have u4 : ∀ v, Ext wb v → v.cell? ⟨T, 4, none⟩ = some (.int .i64 l.m) := fun v hv => blk_cell (hv.blk HHC.out.box) 4 _ rfl
 have u12 : ∀ v, Ext wb v → v.cell? ⟨T, 12, none⟩ = some (.int .i64 g) := fun v hv => blk_cell (hv.blk HHC.out.box) 12 _ rfl
 go_simp
 go_upto_region 26 with fail
 refine region_gq 10 (fun v => Ext (wb) v) (fun v => Ext (wb) v) (by kernel_rfl) (Ext.refl _).drew (fun _ _ d _ _ h => by cases d <;> exact h) ?_
 intro Q9 HQE HQP
 have HG : ∀ (l : Array Bool) v, Ext (wb) v → l.getD 10 false = false → Ext (wb) v := fun _ _ h _ => h
 refine g_tk 0 (v := ?_) HG HQP (fun w hS => ?_) ?_
 rotate_left 1
 · go_simp; refine gives_mk ?_ rfl; with_reducible rfl
 refine g_tk 1 (v := ?_) HG HQP (fun w hS => ?_) ?_
 rotate_left 1
 · go_simp; refine gives_mk ?_ rfl; with_reducible rfl
 refine g_tk 2 (v := ?_) HG HQP (fun w hS => ?_) ?_
 rotate_left 1
 · go_simp; refine gives_mk ?_ rfl; with_reducible rfl
 refine g_tk 3 (v := ?_) HG HQP (fun w hS => ?_) ?_
 rotate_left 1
 · go_simp; refine gives_mk ?_ rfl; with_reducible rfl
 refine g_tk 4 (v := ?_) HG HQP (fun w hS => ?_) ?_
 rotate_left 1
 · go_simp; refine gives_mk ?_ rfl; with_reducible rfl
 refine g_tk 5 (v := ?_) HG HQP (fun w hS => ?_) ?_
 rotate_left 1
 · go_simp; refine gives_mk ?_ rfl; with_reducible rfl
 refine g_tk 6 (v := ?_) HG HQP (fun w hS => ?_) ?_
 rotate_left 1
 · go_simp; refine gives_mk ?_ rfl; with_reducible rfl
 refine g_tk 7 (v := ?_) HG HQP (fun w hS => ?_) ?_
 rotate_left 1
 · go_simp; refine gives_mk ?_ rfl; with_reducible rfl
 refine g_tk 8 (v := ?_) HG HQP (fun w hS => ?_) ?_
 rotate_left 1
 · go_simp; refine gives_mk ?_ rfl; with_reducible rfl
 refine g_tk 9 (v := ?_) HG HQP (fun w hS => ?_) ?_
 rotate_left 1
 · go_simp; refine gives_mk ?_ rfl; with_reducible rfl
 refine g_last (k := 10) (by kernel_rfl) (by kernel_rfl) (by kernel_rfl) rfl (by kernel_rfl) (fun w hS R hR1 hR2 => ?_)
 have hq9 := HQE.out
 subst hq9
 have HR1 := Lib.hid hR1
 have HR2 := Lib.hid hR2
 clear hR1 hR2 HG HQP HQE
 go_simp
 refine entersM_call ((mbecome_any w0 _ T x l wy st p g A c D d (HHC.out.more hS) g 4 l.m k _ _ _ _ HRI.out HF.out HQ.out (HSQ.out.2 _ (List.mem_of_getElem? HQ.out)) (by have := HL.out; omega)).mono ?_)
 rintro e' wc ⟨rfl, A', c', D', d', hT'⟩
 have HT9 := Lib.hid hT'
 clear hT' hS u4 u12
 refine HR1.out _ _ ?_
 obtain ⟨j, a, b, hp, hq⟩ := HFP.out HPG.out.1
 have HP := Lib.hid hp
 have HQ2 := Lib.hid hq
 clear hp hq
 have q11 := blk_cell HT9.out.box 11 _ rfl
 rw [HP.out] at q11
 go_simp
 go_wp2_with fail
 refine (mgive_any w0 _ T _ l wy st p g A' c' D' d' HT9.out j 0 a b HQ2.out (HSQ.out.1 _ (List.mem_of_getElem? HQ2.out)) (by have := HL.out; simp only; omega)).mono ?_
 rintro e' w' ⟨rfl, A2, c2, D2, d2, hT2⟩
 have HT2 := Lib.hid hT2
 clear hT2
 go_wp2
 first | go_end0 | skip
 exact .inl ⟨_, by rw [← HO.out, if_pos ⟨HPG.out.1, HPG.out.2.1, HPG.out.2.2, K2.out⟩, K2.out, HP.out, Md.setP_at HQ2.out, HPG.out.2.2, Md.setG_at HF.out HQ.out]; simp only [HYA.out], rfl, A2, c2, D2, d2, HT2.out⟩
set_option maxRecDepth 100000 in
set_option maxHeartbeats 8000000 in
theorem mapply_8 (w0 w : World) (T : Nat) (x : Sn) (l : Lg) (wy st : Value) (p g : Int) (A : Option Addr) (c : Nat) (D : Option Addr) (d : Nat) (h : Tr w0 w T x l wy st p g A c D d) (hri : Md.rises x.gs) (hl : x.ps.length ≤ 1000 ∧ x.gs.length ≤ 1000) (hsq : (∀ q ∈ x.ps, 0 ≤ q.2 ∧ q.2 < 4611686018427387904) ∧ ∀ q ∈ x.gs, 0 ≤ q.2.2.2 ∧ q.2.2.2 < 4611686018427387904) (hk : l.kind = 8) (hfg : g ≠ 0 → ∃ k, Md.fnd x.gs g = some k) (o : Option Sn) (ho : (if p ≠ 0 ∧ g ≠ 0 ∧ l.g = g then some { x with gs := x.gs.eraseIdx (Md.gpos x.gs l.g) } else none) = o) :
    Calls Tryd.prog 49 #[.pointer (some ⟨T, 0, none⟩)] w (ActE w0 T o l wy st p g) := by
 have HO := Lib.hid ho
 have HH := Lib.hid h
 have HRI := Lib.hid hri
 have HL := Lib.hid hl
 have HSQ := Lib.hid hsq
 have HFG := Lib.hid hfg
 have q5 := blk_cell h.box 5 _ rfl
 rw [hk] at q5
 clear h hri hl hsq ho hfg
 go_enter Tryd.func49, Tryd.ntmps49
 obtain ⟨ra, hra⟩ : ∃ ra, (decide (p ≠ 0) && decide (g ≠ 0) && decide (l.g = g)) = ra := ⟨_, rfl⟩
 go_wp2_with fail
 refine (mown_any w0 w T x l wy st p g A c D d HH.out ra hra).mono ?_
 rintro e' wa ⟨hn, hxa⟩
 have HXA := Lib.hid hxa
 have HRA := Lib.hid hra
 clear hxa hra q5
 rcases hn with ⟨rfl, rfl⟩ | ⟨rfl, rfl⟩
 rotate_left 1
 · go_wp2
   exact ⟨rfl, .inr ⟨by rw [← HO.out]; exact if_neg (fun hh => by have := HRA.out; simp [hh.1, hh.2.1, hh.2.2] at this), rfl, HH.out.ext.trans HXA.out⟩⟩
 have HPG : Hid (p ≠ 0 ∧ g ≠ 0 ∧ l.g = g) := Lib.hid (by have := HRA.out; simp only [Bool.and_eq_true, decide_eq_true_eq] at this; exact ⟨this.1.1, this.1.2, this.2⟩)
 obtain ⟨k, hf⟩ := HFG.out HPG.out.2.1
 obtain ⟨⟨ya, yb, yc, yd⟩, hq, hya, -⟩ := Md.fnd_some hf
 simp only at hya
 have HYA := Lib.hid hya
 clear hya
 have HF := Lib.hid hf
 have HQ := Lib.hid hq
 have HHA := Lib.hid (HH.out.more HXA.out)
 clear hf hq
 have q12 := blk_cell HHA.out.box 12 _ rfl
 go_wp2_with fail
 refine (mindex_any w0 wa T x l wy st p g A c D d HHA.out g HRI.out (by have := HL.out; omega) true (by rw [HF.out]; rfl) k (Md.gpos_fnd HRI.out HF.out)).mono ?_
 rintro e' wb ⟨rfl, hxb⟩
 have HHB := Lib.hid (HHA.out.more hxb)
 clear hxb q12
 obtain ⟨n, hn⟩ : ∃ n, x.gs.length = n + 1 := ⟨x.gs.length - 1, by have := (List.getElem?_eq_some_iff.1 HQ.out).1; omega⟩
 obtain ⟨b, hD⟩ : ∃ b, D = some ⟨b, 0, none⟩ := by
  rcases HHB.out.gs.2 with ⟨-, e2⟩ | ⟨g', cap, cur, hv, -⟩
  · omega
  · simp only [Value.slice.injEq] at hv; exact ⟨g', hv.1⟩
 have hnd : n + 1 ≤ d := by
  obtain ⟨A2, c2, hv, hc⟩ := (OwnRows.rows snGCells_len HHB.out.gs).form
  simp only [Value.slice.injEq] at hv
  omega
 have q2 := blk_cell HHB.out.box 2 _ rfl
 have ho := HHB.out.gs
 have hbT : b ≠ T := HHB.out.nD _ hD
 rw [hn, hD] at q2 ho
 have HDL := Lib.hid (mdel_any b n d k w0.heap.size x.gs wb ho hn (by have := (List.getElem?_eq_some_iff.1 HQ.out).1; omega) hnd (by have := HL.out; omega))
 have HN := Lib.hid hn
 have HD := Lib.hid hD
 have HBT := Lib.hid hbT
 have l1 : (k : Int) < 100000 := by have := (List.getElem?_eq_some_iff.1 HQ.out).1; have := HL.out; omega
 clear hn hD hnd ho hbT
 go_upto_region 22 with fail
 go_wp2_with fail
 refine HDL.out.mono ?_
 rintro e' w2 ⟨rfl, ho2, hu2⟩
 obtain ⟨z1, z2, D2, d2, hD2, hT⟩ := Tr.newG HHB.out (Ext.refl wb) ho2 (by rw [HD.out]; exact hu2) (.inl (by rw [HD.out]; rfl))
 have HT := Lib.hid hT
 clear ho2 hu2 hT q2
 go_wp2
 first | go_end0 | skip
 exact .inl ⟨_, by rw [← HO.out, if_pos HPG.out, HPG.out.2.2, Md.gpos_fnd HRI.out HF.out], rfl, _, _, _, _, HT.out⟩
theorem mapply_any (w0 w : World) (T : Nat) (x : Sn) (l : Lg) (wy st : Value) (A : Option Addr) (c : Nat) (D : Option Addr) (d : Nat) (h : Tr w0 w T x l wy st (Md.hasP x.ps l.m 1) (Md.hasG x.gs l.m) A c D d) (hri : Md.rises x.gs) (hl : x.ps.length ≤ 1000 ∧ x.gs.length ≤ 1000) (hsq : (∀ q ∈ x.ps, 0 ≤ q.2 ∧ q.2 < 4611686018427387904) ∧ ∀ q ∈ x.gs, 0 ≤ q.2.2.2 ∧ q.2.2.2 < 4611686018427387904) :
    Calls Tryd.prog 49 #[.pointer (some ⟨T, 0, none⟩)] w (ActE w0 T (if Md.ask x l = true then some (Md.thn x l) else none) l wy st (Md.hasP x.ps l.m 1) (Md.hasG x.gs l.m)) := by
 have hfg : Md.hasG x.gs l.m ≠ 0 → ∃ k, Md.fnd x.gs (Md.hasG x.gs l.m) = some k := fun h0 => by
  obtain ⟨y, h1, h2, _⟩ := Md.hasG_mem h0
  exact Md.fnd_mem h1 h2
 have hfp : Md.hasP x.ps l.m 1 ≠ 0 → ∃ (k : Nat) (a b : Int), Md.hasP x.ps l.m 1 = (k : Int) + 1 ∧ x.ps[k]? = some (a, b) := fun h0 => by
  obtain ⟨k, h1, h2⟩ := Md.hasP_range (by omega) h0
  exact ⟨k, x.ps[k].1, x.ps[k].2, by rw [h2]; omega, List.getElem?_eq_getElem h1⟩
 by_cases k1 : l.kind = 1
 · have ha : Md.ask x l = true ↔ Md.hasP x.ps l.m 1 = 0 ∧ Md.hasG x.gs l.m = 0 ∧ Md.free x.ps l.p l.seq = true := by
    unfold Md.ask
    rw [k1]
    simp only [Int.reduceEq, if_false, if_true, if_pos, or_self, or_true, true_or, or_false, false_or, Bool.and_eq_true, Bool.or_eq_true, decide_eq_true_eq]
    first | done | exact ⟨fun ⟨⟨a, b⟩, c⟩ => ⟨b, c, a⟩, fun ⟨b, c, a⟩ => ⟨⟨a, b⟩, c⟩⟩
   refine mapply_1 w0 w T x l wy st _ _ A c D d h hri hl hsq k1 _ ?_
   by_cases hc : Md.hasP x.ps l.m 1 = 0 ∧ Md.hasG x.gs l.m = 0 ∧ Md.free x.ps l.p l.seq = true
   · rw [if_pos hc, if_pos (ha.2 hc)]
     refine congrArg some ?_
     unfold Md.thn
     rw [k1]
     try simp only [Int.reduceEq, if_false, if_true, if_pos, or_self, or_true, true_or, or_false, false_or, Bool.and_eq_true, Bool.or_eq_true, decide_eq_true_eq]
   · rw [if_neg hc, if_neg (fun hh => hc (ha.1 hh))]
 by_cases k2 : l.kind = 2
 · have ha : Md.ask x l = true ↔ Md.hasP x.ps l.m 1 ≠ 0 ∧ l.p = Md.hasP x.ps l.m 1 ∧ Md.hasG x.gs l.m = 0 := by
    unfold Md.ask
    rw [k2]
    simp only [Int.reduceEq, if_false, if_true, if_pos, or_self, or_true, true_or, or_false, false_or, Bool.and_eq_true, Bool.or_eq_true, decide_eq_true_eq]
    first | done | exact ⟨fun ⟨⟨a, b⟩, c⟩ => ⟨a, b, c⟩, fun ⟨a, b, c⟩ => ⟨⟨a, b⟩, c⟩⟩
   refine mapply_2 w0 w T x l wy st _ _ A c D d h hri hl hsq k2 hfp _ ?_
   by_cases hc : Md.hasP x.ps l.m 1 ≠ 0 ∧ l.p = Md.hasP x.ps l.m 1 ∧ Md.hasG x.gs l.m = 0
   · rw [if_pos hc, if_pos (ha.2 hc)]
     refine congrArg some ?_
     unfold Md.thn
     rw [k2]
     try simp only [Int.reduceEq, if_false, if_true, if_pos, or_self, or_true, true_or, or_false, false_or, Bool.and_eq_true, Bool.or_eq_true, decide_eq_true_eq]; rw [← hc.2.1]
   · rw [if_neg hc, if_neg (fun hh => hc (ha.1 hh))]
 by_cases k3 : l.kind = 3
 · have ha : Md.ask x l = true ↔ Md.hasP x.ps l.m 1 ≠ 0 ∧ Md.hasG x.gs l.m ≠ 0 ∧ 0 < l.g ∧ Md.fnd x.gs l.g = none := by
    unfold Md.ask
    rw [k3]
    simp only [Int.reduceEq, if_false, if_true, if_pos, or_self, or_true, true_or, or_false, false_or, Bool.and_eq_true, Bool.or_eq_true, decide_eq_true_eq]
    first | done | exact ⟨fun ⟨⟨⟨a, b⟩, c⟩, d⟩ => ⟨a, b, c, d⟩, fun ⟨a, b, c, d⟩ => ⟨⟨⟨a, b⟩, c⟩, d⟩⟩
   refine mapply_3 w0 w T x l wy st _ _ A c D d h hri hl hsq k3 _ ?_
   by_cases hc : Md.hasP x.ps l.m 1 ≠ 0 ∧ Md.hasG x.gs l.m ≠ 0 ∧ 0 < l.g ∧ Md.fnd x.gs l.g = none
   · rw [if_pos hc, if_pos (ha.2 hc)]
     refine congrArg some ?_
     unfold Md.thn
     rw [k3]
     try simp only [Int.reduceEq, if_false, if_true, if_pos, or_self, or_true, true_or, or_false, false_or, Bool.and_eq_true, Bool.or_eq_true, decide_eq_true_eq]
   · rw [if_neg hc, if_neg (fun hh => hc (ha.1 hh))]
 by_cases k4 : l.kind = 4
 · have ha : Md.ask x l = true ↔ Md.hasP x.ps l.m 1 ≠ 0 ∧ Md.hasG x.gs l.m = 0 ∧ Md.stat x.gs l.g = (1, l.seq) := by
    unfold Md.ask
    rw [k4]
    simp only [Int.reduceEq, if_false, if_true, if_pos, or_self, or_true, true_or, or_false, false_or, Bool.and_eq_true, Bool.or_eq_true, decide_eq_true_eq]
    first | done | exact ⟨fun ⟨⟨a, b⟩, c⟩ => ⟨a, b, c⟩, fun ⟨a, b, c⟩ => ⟨⟨a, b⟩, c⟩⟩
   refine mapply_4 w0 w T x l wy st _ _ A c D d h hri hl hsq k4 _ ?_
   by_cases hc : Md.hasP x.ps l.m 1 ≠ 0 ∧ Md.hasG x.gs l.m = 0 ∧ Md.stat x.gs l.g = (1, l.seq)
   · rw [if_pos hc, if_pos (ha.2 hc)]
     refine congrArg some ?_
     unfold Md.thn
     rw [k4]
     try simp only [Int.reduceEq, if_false, if_true, if_pos, or_self, or_true, true_or, or_false, false_or, Bool.and_eq_true, Bool.or_eq_true, decide_eq_true_eq]
   · rw [if_neg hc, if_neg (fun hh => hc (ha.1 hh))]
 by_cases k5 : l.kind = 5
 · have ha : Md.ask x l = true ↔ Md.hasP x.ps l.m 1 ≠ 0 ∧ Md.hasG x.gs l.m ≠ 0 ∧ l.g = Md.hasG x.gs l.m := by
    unfold Md.ask
    rw [k5]
    simp only [Int.reduceEq, if_false, if_true, if_pos, or_self, or_true, true_or, or_false, false_or, Bool.and_eq_true, Bool.or_eq_true, decide_eq_true_eq]
    first | done | exact ⟨fun ⟨⟨a, b⟩, c⟩ => ⟨a, b, c⟩, fun ⟨a, b, c⟩ => ⟨⟨a, b⟩, c⟩⟩
   refine mapply_5 w0 w T x l wy st _ _ A c D d h hri hl hsq k5 hfg _ ?_
   by_cases hc : Md.hasP x.ps l.m 1 ≠ 0 ∧ Md.hasG x.gs l.m ≠ 0 ∧ l.g = Md.hasG x.gs l.m
   · rw [if_pos hc, if_pos (ha.2 hc)]
     refine congrArg some ?_
     unfold Md.thn
     rw [k5]
     try simp only [Int.reduceEq, if_false, if_true, if_pos, or_self, or_true, true_or, or_false, false_or, Bool.and_eq_true, Bool.or_eq_true, decide_eq_true_eq]
   · rw [if_neg hc, if_neg (fun hh => hc (ha.1 hh))]
 by_cases k6 : l.kind = 6
 · have ha : Md.ask x l = true ↔ Md.hasP x.ps l.m 1 ≠ 0 ∧ Md.hasG x.gs l.m ≠ 0 ∧ l.g = Md.hasG x.gs l.m := by
    unfold Md.ask
    rw [k6]
    simp only [Int.reduceEq, if_false, if_true, if_pos, or_self, or_true, true_or, or_false, false_or, Bool.and_eq_true, Bool.or_eq_true, decide_eq_true_eq]
    first | done | exact ⟨fun ⟨⟨a, b⟩, c⟩ => ⟨a, b, c⟩, fun ⟨a, b, c⟩ => ⟨⟨a, b⟩, c⟩⟩
   refine mapply_6 w0 w T x l wy st _ _ A c D d h hri hl hsq k6 hfg _ ?_
   by_cases hc : Md.hasP x.ps l.m 1 ≠ 0 ∧ Md.hasG x.gs l.m ≠ 0 ∧ l.g = Md.hasG x.gs l.m
   · rw [if_pos hc, if_pos (ha.2 hc)]
     refine congrArg some ?_
     unfold Md.thn
     rw [k6]
     try simp only [Int.reduceEq, if_false, if_true, if_pos, or_self, or_true, true_or, or_false, false_or, Bool.and_eq_true, Bool.or_eq_true, decide_eq_true_eq]
   · rw [if_neg hc, if_neg (fun hh => hc (ha.1 hh))]
 by_cases k7 : l.kind = 7
 · have ha : Md.ask x l = true ↔ Md.hasP x.ps l.m 1 ≠ 0 ∧ Md.stat x.gs l.g = (3, l.seq) := by
    unfold Md.ask
    rw [k7]
    simp only [Int.reduceEq, if_false, if_true, if_pos, or_self, or_true, true_or, or_false, false_or, Bool.and_eq_true, Bool.or_eq_true, decide_eq_true_eq]
    first | done | exact Iff.rfl
   refine mapply_7 w0 w T x l wy st _ _ A c D d h hri hl hsq k7 _ ?_
   by_cases hc : Md.hasP x.ps l.m 1 ≠ 0 ∧ Md.stat x.gs l.g = (3, l.seq)
   · rw [if_pos hc, if_pos (ha.2 hc)]
     refine congrArg some ?_
     unfold Md.thn
     rw [k7]
     try simp only [Int.reduceEq, if_false, if_true, if_pos, or_self, or_true, true_or, or_false, false_or, Bool.and_eq_true, Bool.or_eq_true, decide_eq_true_eq]
   · rw [if_neg hc, if_neg (fun hh => hc (ha.1 hh))]
 by_cases k8 : l.kind = 8
 · have ha : Md.ask x l = true ↔ Md.hasP x.ps l.m 1 ≠ 0 ∧ Md.hasG x.gs l.m ≠ 0 ∧ l.g = Md.hasG x.gs l.m := by
    unfold Md.ask
    rw [k8]
    simp only [Int.reduceEq, if_false, if_true, if_pos, or_self, or_true, true_or, or_false, false_or, Bool.and_eq_true, Bool.or_eq_true, decide_eq_true_eq]
    first | done | exact ⟨fun ⟨⟨a, b⟩, c⟩ => ⟨a, b, c⟩, fun ⟨a, b, c⟩ => ⟨⟨a, b⟩, c⟩⟩
   refine mapply_8 w0 w T x l wy st _ _ A c D d h hri hl hsq k8 hfg _ ?_
   by_cases hc : Md.hasP x.ps l.m 1 ≠ 0 ∧ Md.hasG x.gs l.m ≠ 0 ∧ l.g = Md.hasG x.gs l.m
   · rw [if_pos hc, if_pos (ha.2 hc)]
     refine congrArg some ?_
     unfold Md.thn
     rw [k8]
     try simp only [Int.reduceEq, if_false, if_true, if_pos, or_self, or_true, true_or, or_false, false_or, Bool.and_eq_true, Bool.or_eq_true, decide_eq_true_eq]
   · rw [if_neg hc, if_neg (fun hh => hc (ha.1 hh))]
 by_cases k9 : l.kind = 9
 · have ha : Md.ask x l = true ↔ Md.hasP x.ps l.m 1 ≠ 0 ∧ Md.hasG x.gs l.m ≠ 0 ∧ l.g = Md.hasG x.gs l.m ∧ l.p = Md.hasP x.ps l.m 1 := by
    unfold Md.ask
    rw [k9]
    simp only [Int.reduceEq, if_false, if_true, if_pos, or_self, or_true, true_or, or_false, false_or, Bool.and_eq_true, Bool.or_eq_true, decide_eq_true_eq]
    first | done | exact ⟨fun ⟨⟨⟨a, b⟩, c⟩, d⟩ => ⟨a, b, c, d⟩, fun ⟨a, b, c, d⟩ => ⟨⟨⟨a, b⟩, c⟩, d⟩⟩
   refine mapply_9 w0 w T x l wy st _ _ A c D d h hri hl hsq k9 hfg hfp _ ?_
   by_cases hc : Md.hasP x.ps l.m 1 ≠ 0 ∧ Md.hasG x.gs l.m ≠ 0 ∧ l.g = Md.hasG x.gs l.m ∧ l.p = Md.hasP x.ps l.m 1
   · rw [if_pos hc, if_pos (ha.2 hc)]
     refine congrArg some ?_
     unfold Md.thn
     rw [k9]
     try simp only [Int.reduceEq, if_false, if_true, if_pos, or_self, or_true, true_or, or_false, false_or, Bool.and_eq_true, Bool.or_eq_true, decide_eq_true_eq]
   · rw [if_neg hc, if_neg (fun hh => hc (ha.1 hh))]
 by_cases k10 : l.kind = 10
 · have ha : Md.ask x l = true ↔ Md.hasP x.ps l.m 1 = 0 ∧ Md.hasG x.gs l.m ≠ 0 ∧ l.g = Md.hasG x.gs l.m ∧ (l.p = 0 ∧ l.seq = 0 ∨ Md.free x.ps l.p l.seq = true) := by
    unfold Md.ask
    rw [k10]
    simp only [Int.reduceEq, if_false, if_true, if_pos, or_self, or_true, true_or, or_false, false_or, Bool.and_eq_true, Bool.or_eq_true, decide_eq_true_eq]
    first | done | exact ⟨fun ⟨⟨⟨a, b⟩, c⟩, d⟩ => ⟨a, b, c, d⟩, fun ⟨a, b, c, d⟩ => ⟨⟨⟨a, b⟩, c⟩, d⟩⟩
   refine mapply_10 w0 w T x l wy st _ _ A c D d h hri hl hsq k10 hfg _ ?_
   by_cases hc : Md.hasP x.ps l.m 1 = 0 ∧ Md.hasG x.gs l.m ≠ 0 ∧ l.g = Md.hasG x.gs l.m ∧ (l.p = 0 ∧ l.seq = 0 ∨ Md.free x.ps l.p l.seq = true)
   · rw [if_pos hc, if_pos (ha.2 hc)]
     refine congrArg some ?_
     unfold Md.thn
     rw [k10]
     try simp only [Int.reduceEq, if_false, if_true, if_pos, or_self, or_true, true_or, or_false, false_or, Bool.and_eq_true, Bool.or_eq_true, decide_eq_true_eq]
   · rw [if_neg hc, if_neg (fun hh => hc (ha.1 hh))]
 have ha : ¬ (Md.ask x l = true) := by
  unfold Md.ask
  rw [if_neg k1, if_neg k2, if_neg k3, if_neg k4, if_neg (by omega), if_neg k7, if_neg k9, if_neg k10]
  exact Bool.false_ne_true
 rw [if_neg ha]
 exact mapply_0 w0 w T x l wy st _ _ A c D d h (by omega)
theorem wpS_hid {P : Program} {c : Code} {Q : Exit → Act → List Frame → World → Prop} {a : Act} {cs : List Frame} {w : World} (h : ∀ QQ : Exit → Act → World → Prop, Hid (QQ = fun e a' w' => Q e a' cs w') → c.wp P QQ a w) : c.wpS P Q a cs w := wpS_of_wp (h _ (Lib.hid rfl))
set_option maxRecDepth 100000 in
theorem apply1_idle (p q : Addr) (w : World) :
    CallsD Tryd.prog 44 #[.pointer (some p), .pointer (some q)] .returning w fun e u' w' => e = .returned (.tuple #[]) ∧ u' = .returning ∧ w' = w := by
 refine callsD_of_wpS Tryd.func44 rfl fun c₀ cs hu => ?_
 apply wpS_seq
 apply wpS_region
 simp [wpOpsS, go_sem, recoverD, hu, Tryd.ntmps44, Exit.thenS]
 apply wpS_seq
 apply wpS_seq
 apply wpS_region
 simp [wpOpsS, go_sem, Exit.thenS]
 refine wpS_cond (t := true) (by simp [Act.eval]) ?_
 simp only [if_true]
 refine wpS_of_wp (wp_ret ?_)
 simp only [Exit.thenS]
 cases c₀
 simp_all [bodyPostS, results, Tryd.results44]
set_option maxRecDepth 100000 in
set_option maxHeartbeats 2000000 in
theorem apply1_caught (bp bq : Nat) (x y z b : Value) (T : TypeId) (w : World) (hp : w.heap[bp]? = some (.cells #[x, y, z] T (0, 0))) (hq : w.cell? ⟨bq, 0, none⟩ = some b) (hz : w.frozen? ⟨bq, 0, none⟩ = false) (hne : bp ≠ bq) :
    CallsD Tryd.prog 44 #[.pointer (some ⟨bp, 0, none⟩), .pointer (some ⟨bq, 0, none⟩)] (.panicking impC) w fun e u' w' => e = .returned (.tuple #[]) ∧ u' = .panicking [{ v := impV, recovered := true }] ∧ ∃ w1, Ext w w1 ∧ w' = ((w1.setCells bp 0 [.int .i64 0, .slice none 0 0, .slice none 0 0]).setCell ⟨bq, 0, none⟩ (.bool false)) := by
 refine callsD_of_wpS Tryd.func44 rfl fun c₀ cs hu => ?_
 apply wpS_seq
 apply wpS_region
 simp [wpOpsS, go_sem, recoverD, hu, Tryd.ntmps44, Exit.thenS, impC, impV]
 apply wpS_seq
 apply wpS_seq
 apply wpS_region
 simp [wpOpsS, go_sem, Exit.thenS]
 refine wpS_cond (t := false) (by simp [Act.eval]) ?_
 simp only [Bool.false_eq_true, if_false]
 refine wpS_of_wp (wp_skip ?_)
 simp only [Exit.thenS]
 refine wpS_hid ?_
 intro QQ HQQ
 have z0 := blk_cell hp 0 _ rfl
 have z1 := blk_cell hp 1 _ rfl
 have z2 := blk_cell hp 2 _ rfl
 have f0 := frozen_of_row _ _ 0 _ _ hp
 have f1 := frozen_of_row _ _ 1 _ _ hp
 have f2 := frozen_of_row _ _ 2 _ _ hp
 have hta : ∀ v, (Instr.typeAssert (.iface 86 (.agg #[])) 20 86 true).run Tryd.prog v = .ok (.tuple #[.agg #[], .bool true]) v := fun v => by kernel_rfl
 have HP := Lib.hid hp
 have HQ := Lib.hid hq
 have HZ := Lib.hid hz
 have HNE := Lib.hid hne
 clear hp hq hz hne
 go_upto_region 5 with fail
 clear hta z0 z1 z2 f0 f1 f2
 obtain ⟨w1, hw1⟩ : ∃ w1, w.alloc (.cells #[] 86) = w1 := ⟨_, rfl⟩
 rw [hw1]
 have hx : Ext w w1 := by rw [← hw1]; exact (Ext.refl w).alloc _
 have hp1 := hx.blk HP.out
 have HX := Lib.hid hx
 obtain ⟨w2, hw2⟩ : ∃ w2, w1.setCells bp 0 [.int .i64 0, .slice none 0 0, .slice none 0 0] = w2 := ⟨_, rfl⟩
 have HW2 := Lib.hid hw2
 have hbq : bq < w.heap.size := block_lt_of_cell HQ.out
 have c3 : w2.cell? ⟨bq, 0, none⟩ = some b := by
  rw [← hw2, World.cell?_setCells_out _ _ _ _ _ (fun e _ => absurd e.symm HNE.out)]
  exact (Below.cell hx hbq).trans HQ.out
 have f3 : w2.frozen? ⟨bq, 0, none⟩ = false := by
  rw [← hw2, World.frozen?_setCells]
  exact (Below.frozen hx hbq).trans HZ.out
 have HTH := Lib.hid (there_row (n := 3) hp1 (by simp))
 clear hw1 hx hp1 hw2 hbq
 go_wp2_with (refine wpList_store_row rfl 25 _ _ rfl bp [.int .i64 0, .slice none 0 0, .slice none 0 0] (.agg #[.int .i64 0, .slice none 0 0, .slice none 0 0]) (by go_simp) (by go_simp) rfl HTH.out (by kernel_rfl) (by intro u hu; simp at hu; rcases hu with rfl | rfl | rfl <;> rfl) HW2.out ?_)
 have hqq := HQQ.out
 subst hqq
 have hfin : ∃ w3, Ext w w3 ∧ w2.setCell ⟨bq, 0, none⟩ (.bool false) = (w3.setCells bp 0 [.int .i64 0, .slice none 0 0, .slice none 0 0]).setCell ⟨bq, 0, none⟩ (.bool false) := ⟨w1, HX.out, by rw [HW2.out]⟩
 clear HX HW2 HQQ c3 f3 HTH
 simp [bodyPostS, results, Tryd.results44]
 exact hfin
end Go.Proofs.YtohncgikdlbogaaDoor
