/-
  Several texts in one: Hn.
-/
import Derived.Test.YtohncgikdlbogaaDoorE04
import Derived.Test.YtohncgikdlbogaaDoorE05
set_option linter.unusedVariables false
set_option linter.unusedSimpArgs false
namespace Go.Proofs.YtohncgikdlbogaaDoor
open Go.RowKit
def NeedE (r : Bool) (e : Ending) : Prop := (r = true ∧ e = .returned (.tuple #[])) ∨ (r = false ∧ e = .panicked impC)
set_option maxRecDepth 100000 in
set_option maxHeartbeats 8000000 in
theorem mown_any (w0 w : World) (T : Nat) (x : Sn) (l : Lg) (wy st : Value) (p g : Int) (A : Option Addr) (c : Nat) (D : Option Addr) (d : Nat) (h : Tr w0 w T x l wy st p g A c D d) (r : Bool) (hr : (decide (p ≠ 0) && decide (g ≠ 0) && decide (l.g = g)) = r) : Calls Tryd.prog 66 #[.pointer (some ⟨T, 0, none⟩)] w (fun e w' => NeedE r e ∧ Ext w w') := by
 have HR := Lib.hid hr
 have u6 : ∀ v, Ext w v → v.cell? ⟨T, 6, none⟩ = some (.int .i64 l.g) := fun v hv => blk_cell (hv.blk h.box) 6 _ rfl
 have u11 : ∀ v, Ext w v → v.cell? ⟨T, 11, none⟩ = some (.int .i64 p) := fun v hv => blk_cell (hv.blk h.box) 11 _ rfl
 have u12 : ∀ v, Ext w v → v.cell? ⟨T, 12, none⟩ = some (.int .i64 g) := fun v hv => blk_cell (hv.blk h.box) 12 _ rfl
 clear h hr
 go_enter Tryd.func66, Tryd.ntmps66
 by_cases k1 : p = 0
 · have e1 : (p == 0) = true := by simpa using k1
   have f1 : (p != 0) = false := by simp [k1]
   have K1 := Lib.hid k1
   clear k1
   have HF : Hid (r = false) := Lib.hid (by rw [← HR.out]; simp [K1.out])
   obtain rfl := HF.out
   refine region_gq 24 (fun v => Ext (w) v) (fun v => Ext (w) v) (by kernel_rfl) (Ext.refl _).drew (fun _ _ d _ _ h => by cases d <;> exact h) ?_
   intro Q9 HQE HQP
   have HG : ∀ (l : Array Bool) v, Ext (w) v → l.getD 24 false = false → Ext (w) v := fun _ _ h _ => h
   refine g_tk 0 (v := ?_) HG HQP (fun w hS => ?_) ?_
   rotate_left 1
   · go_simp
     try simp only [e1, f1]
     refine gives_mk ?_ rfl
     with_reducible rfl
   refine g_tk 1 (v := ?_) HG HQP (fun w hS => ?_) ?_
   rotate_left 1
   · go_simp
     try simp only [e1, f1]
     refine gives_mk ?_ rfl
     with_reducible rfl
   refine g_tk 2 (v := ?_) HG HQP (fun w hS => ?_) ?_
   rotate_left 1
   · go_simp
     try simp only [e1, f1]
     refine gives_mk ?_ rfl
     with_reducible rfl
   refine g_tk 3 (v := ?_) HG HQP (fun w hS => ?_) ?_
   rotate_left 1
   · go_simp
     try simp only [e1, f1]
     refine gives_mk ?_ rfl
     with_reducible rfl
   refine g_tk 4 (v := ?_) HG HQP (fun w hS => ?_) ?_
   rotate_left 1
   · go_simp
     try simp only [e1, f1]
     refine gives_mk ?_ rfl
     with_reducible rfl
   refine g_tk 5 (v := ?_) HG HQP (fun w hS => ?_) ?_
   rotate_left 1
   · go_simp
     try simp only [e1, f1]
     refine gives_mk ?_ rfl
     with_reducible rfl
   refine g_take (HG _) (i := 6) rfl (by kernel_rfl) (by kernel_rfl) (by kernel_rfl) (by kernel_rfl) (by kernel_rfl) (fun c a w h => HQP c a _ _ w h) (Still.no (by kernel_rfl)) ?_
   refine g_take (HG _) (i := 7) rfl (by kernel_rfl) (by kernel_rfl) (by kernel_rfl) (by kernel_rfl) (by kernel_rfl) (fun c a w h => HQP c a _ _ w h) (Still.no (by kernel_rfl)) ?_
   refine g_take (HG _) (i := 8) rfl (by kernel_rfl) (by kernel_rfl) (by kernel_rfl) (by kernel_rfl) (by kernel_rfl) (fun c a w h => HQP c a _ _ w h) (Still.no (by kernel_rfl)) ?_
   refine g_take (HG _) (i := 9) rfl (by kernel_rfl) (by kernel_rfl) (by kernel_rfl) (by kernel_rfl) (by kernel_rfl) (fun c a w h => HQP c a _ _ w h) (Still.no (by kernel_rfl)) ?_
   refine g_take (HG _) (i := 10) rfl (by kernel_rfl) (by kernel_rfl) (by kernel_rfl) (by kernel_rfl) (by kernel_rfl) (fun c a w h => HQP c a _ _ w h) (Still.no (by kernel_rfl)) ?_
   refine g_tk 11 (v := ?_) HG HQP (fun w hS => ?_) ?_
   rotate_left 1
   · go_simp
     try simp only [e1, f1]
     refine gives_mk ?_ rfl
     with_reducible rfl
   refine g_tk 12 (v := ?_) HG HQP (fun w hS => ?_) ?_
   rotate_left 1
   · go_simp
     try simp only [e1, f1]
     refine gives_mk ?_ rfl
     with_reducible rfl
   refine g_take (HG _) (i := 13) rfl (by kernel_rfl) (by kernel_rfl) (by kernel_rfl) (by kernel_rfl) (by kernel_rfl) (fun c a w h => HQP c a _ _ w h) (Still.no (by kernel_rfl)) ?_
   refine g_take (HG _) (i := 14) rfl (by kernel_rfl) (by kernel_rfl) (by kernel_rfl) (by kernel_rfl) (by kernel_rfl) (fun c a w h => HQP c a _ _ w h) (Still.no (by kernel_rfl)) ?_
   refine g_take (HG _) (i := 15) rfl (by kernel_rfl) (by kernel_rfl) (by kernel_rfl) (by kernel_rfl) (by kernel_rfl) (fun c a w h => HQP c a _ _ w h) (Still.no (by kernel_rfl)) ?_
   refine g_take (HG _) (i := 16) rfl (by kernel_rfl) (by kernel_rfl) (by kernel_rfl) (by kernel_rfl) (by kernel_rfl) (fun c a w h => HQP c a _ _ w h) (Still.no (by kernel_rfl)) ?_
   refine g_take (HG _) (i := 17) rfl (by kernel_rfl) (by kernel_rfl) (by kernel_rfl) (by kernel_rfl) (by kernel_rfl) (fun c a w h => HQP c a _ _ w h) (Still.no (by kernel_rfl)) ?_
   refine g_take (HG _) (i := 18) rfl (by kernel_rfl) (by kernel_rfl) (by kernel_rfl) (by kernel_rfl) (by kernel_rfl) (fun c a w h => HQP c a _ _ w h) (Still.no (by kernel_rfl)) ?_
   refine g_take (HG _) (i := 19) rfl (by kernel_rfl) (by kernel_rfl) (by kernel_rfl) (by kernel_rfl) (by kernel_rfl) (fun c a w h => HQP c a _ _ w h) (Still.no (by kernel_rfl)) ?_
   refine g_take (HG _) (i := 20) rfl (by kernel_rfl) (by kernel_rfl) (by kernel_rfl) (by kernel_rfl) (by kernel_rfl) (fun c a w h => HQP c a _ _ w h) (Still.no (by kernel_rfl)) ?_
   refine g_take (HG _) (i := 21) rfl (by kernel_rfl) (by kernel_rfl) (by kernel_rfl) (by kernel_rfl) (by kernel_rfl) (fun c a w h => HQP c a _ _ w h) (Still.no (by kernel_rfl)) ?_
   refine g_take (HG _) (i := 22) rfl (by kernel_rfl) (by kernel_rfl) (by kernel_rfl) (by kernel_rfl) (by kernel_rfl) (fun c a w h => HQP c a _ _ w h) (Still.no (by kernel_rfl)) ?_
   refine g_tk 23 (v := ?_) HG HQP (fun w hS => ?_) ?_
   rotate_left 1
   · go_simp
     try simp only [e1, f1]
     refine gives_mk ?_ rfl
     with_reducible rfl
   refine g_last (k := 24) (by kernel_rfl) (by kernel_rfl) (by kernel_rfl) rfl (by kernel_rfl) (fun w hS R hR1 hR2 => ?_)
   have hq9 := HQE.out
   subst hq9
   have HR1 := Lib.hid hR1
   have HR2 := Lib.hid hR2
   clear hR1 hR2 HG HQP HQE
   go_simp
   refine entersM_call ((need_no w).mono ?_)
   rintro e' w' ⟨rfl, rfl⟩
   refine HR2.out _ _ ?_
   exact ⟨rfl, .inr ⟨rfl, rfl⟩, hS⟩
 · have e1 : (p == 0) = false := by simpa using k1
   have f1 : (p != 0) = true := by simpa using k1
   have K1 := Lib.hid k1
   clear k1
   by_cases k2 : g = 0
   · have e2 : (g == 0) = true := by simpa using k2
     have f2 : (g != 0) = false := by simp [k2]
     have K2 := Lib.hid k2
     clear k2
     have HF : Hid (r = false) := Lib.hid (by rw [← HR.out]; simp [K1.out, K2.out])
     obtain rfl := HF.out
     refine region_gq 24 (fun v => Ext (w) v) (fun v => Ext (w) v) (by kernel_rfl) (Ext.refl _).drew (fun _ _ d _ _ h => by cases d <;> exact h) ?_
     intro Q9 HQE HQP
     have HG : ∀ (l : Array Bool) v, Ext (w) v → l.getD 24 false = false → Ext (w) v := fun _ _ h _ => h
     refine g_tk 0 (v := ?_) HG HQP (fun w hS => ?_) ?_
     rotate_left 1
     · go_simp
       try simp only [e1, f1, e2, f2]
       refine gives_mk ?_ rfl
       with_reducible rfl
     refine g_tk 1 (v := ?_) HG HQP (fun w hS => ?_) ?_
     rotate_left 1
     · go_simp
       try simp only [e1, f1, e2, f2]
       refine gives_mk ?_ rfl
       with_reducible rfl
     refine g_tk 2 (v := ?_) HG HQP (fun w hS => ?_) ?_
     rotate_left 1
     · go_simp
       try simp only [e1, f1, e2, f2]
       refine gives_mk ?_ rfl
       with_reducible rfl
     refine g_tk 3 (v := ?_) HG HQP (fun w hS => ?_) ?_
     rotate_left 1
     · go_simp
       try simp only [e1, f1, e2, f2]
       refine gives_mk ?_ rfl
       with_reducible rfl
     refine g_tk 4 (v := ?_) HG HQP (fun w hS => ?_) ?_
     rotate_left 1
     · go_simp
       try simp only [e1, f1, e2, f2]
       refine gives_mk ?_ rfl
       with_reducible rfl
     refine g_tk 5 (v := ?_) HG HQP (fun w hS => ?_) ?_
     rotate_left 1
     · go_simp
       try simp only [e1, f1, e2, f2]
       refine gives_mk ?_ rfl
       with_reducible rfl
     refine g_tk 6 (v := ?_) HG HQP (fun w hS => ?_) ?_
     rotate_left 1
     · go_simp
       try simp only [e1, f1, e2, f2]
       refine gives_mk ?_ rfl
       with_reducible rfl
     refine g_tk 7 (v := ?_) HG HQP (fun w hS => ?_) ?_
     rotate_left 1
     · go_simp
       try simp only [e1, f1, e2, f2]
       refine gives_mk ?_ rfl
       with_reducible rfl
     refine g_tk 8 (v := ?_) HG HQP (fun w hS => ?_) ?_
     rotate_left 1
     · go_simp
       try simp only [e1, f1, e2, f2]
       refine gives_mk ?_ rfl
       with_reducible rfl
     refine g_tk 9 (v := ?_) HG HQP (fun w hS => ?_) ?_
     rotate_left 1
     · go_simp
       try simp only [e1, f1, e2, f2]
       refine gives_mk ?_ rfl
       with_reducible rfl
     refine g_tk 10 (v := ?_) HG HQP (fun w hS => ?_) ?_
     rotate_left 1
     · go_simp
       try simp only [e1, f1, e2, f2]
       refine gives_mk ?_ rfl
       with_reducible rfl
     refine g_tk 11 (v := ?_) HG HQP (fun w hS => ?_) ?_
     rotate_left 1
     · go_simp
       try simp only [e1, f1, e2, f2]
       refine gives_mk ?_ rfl
       with_reducible rfl
     refine g_tk 12 (v := ?_) HG HQP (fun w hS => ?_) ?_
     rotate_left 1
     · go_simp
       try simp only [e1, f1, e2, f2]
       refine gives_mk ?_ rfl
       with_reducible rfl
     refine g_take (HG _) (i := 13) rfl (by kernel_rfl) (by kernel_rfl) (by kernel_rfl) (by kernel_rfl) (by kernel_rfl) (fun c a w h => HQP c a _ _ w h) (Still.no (by kernel_rfl)) ?_
     refine g_take (HG _) (i := 14) rfl (by kernel_rfl) (by kernel_rfl) (by kernel_rfl) (by kernel_rfl) (by kernel_rfl) (fun c a w h => HQP c a _ _ w h) (Still.no (by kernel_rfl)) ?_
     refine g_take (HG _) (i := 15) rfl (by kernel_rfl) (by kernel_rfl) (by kernel_rfl) (by kernel_rfl) (by kernel_rfl) (fun c a w h => HQP c a _ _ w h) (Still.no (by kernel_rfl)) ?_
     refine g_take (HG _) (i := 16) rfl (by kernel_rfl) (by kernel_rfl) (by kernel_rfl) (by kernel_rfl) (by kernel_rfl) (fun c a w h => HQP c a _ _ w h) (Still.no (by kernel_rfl)) ?_
     refine g_take (HG _) (i := 17) rfl (by kernel_rfl) (by kernel_rfl) (by kernel_rfl) (by kernel_rfl) (by kernel_rfl) (fun c a w h => HQP c a _ _ w h) (Still.no (by kernel_rfl)) ?_
     refine g_take (HG _) (i := 18) rfl (by kernel_rfl) (by kernel_rfl) (by kernel_rfl) (by kernel_rfl) (by kernel_rfl) (fun c a w h => HQP c a _ _ w h) (Still.no (by kernel_rfl)) ?_
     refine g_take (HG _) (i := 19) rfl (by kernel_rfl) (by kernel_rfl) (by kernel_rfl) (by kernel_rfl) (by kernel_rfl) (fun c a w h => HQP c a _ _ w h) (Still.no (by kernel_rfl)) ?_
     refine g_take (HG _) (i := 20) rfl (by kernel_rfl) (by kernel_rfl) (by kernel_rfl) (by kernel_rfl) (by kernel_rfl) (fun c a w h => HQP c a _ _ w h) (Still.no (by kernel_rfl)) ?_
     refine g_take (HG _) (i := 21) rfl (by kernel_rfl) (by kernel_rfl) (by kernel_rfl) (by kernel_rfl) (by kernel_rfl) (fun c a w h => HQP c a _ _ w h) (Still.no (by kernel_rfl)) ?_
     refine g_take (HG _) (i := 22) rfl (by kernel_rfl) (by kernel_rfl) (by kernel_rfl) (by kernel_rfl) (by kernel_rfl) (fun c a w h => HQP c a _ _ w h) (Still.no (by kernel_rfl)) ?_
     refine g_tk 23 (v := ?_) HG HQP (fun w hS => ?_) ?_
     rotate_left 1
     · go_simp
       try simp only [e1, f1, e2, f2]
       refine gives_mk ?_ rfl
       with_reducible rfl
     refine g_last (k := 24) (by kernel_rfl) (by kernel_rfl) (by kernel_rfl) rfl (by kernel_rfl) (fun w hS R hR1 hR2 => ?_)
     have hq9 := HQE.out
     subst hq9
     have HR1 := Lib.hid hR1
     have HR2 := Lib.hid hR2
     clear hR1 hR2 HG HQP HQE
     go_simp
     refine entersM_call ((need_no w).mono ?_)
     rintro e' w' ⟨rfl, rfl⟩
     refine HR2.out _ _ ?_
     exact ⟨rfl, .inr ⟨rfl, rfl⟩, hS⟩
   · have e2 : (g == 0) = false := by simpa using k2
     have f2 : (g != 0) = true := by simpa using k2
     have K2 := Lib.hid k2
     clear k2
     by_cases k3 : l.g = g
     · have e3 : (l.g == g) = true := by simpa using k3
       have f3 : (l.g != g) = false := by simp [k3]
       have K3 := Lib.hid k3
       clear k3
       have HF : Hid (r = true) := Lib.hid (by rw [← HR.out]; simp [K1.out, K2.out, K3.out])
       obtain rfl := HF.out
       refine region_gq 24 (fun v => Ext (w) v) (fun v => Ext (w) v) (by kernel_rfl) (Ext.refl _).drew (fun _ _ d _ _ h => by cases d <;> exact h) ?_
       intro Q9 HQE HQP
       have HG : ∀ (l : Array Bool) v, Ext (w) v → l.getD 24 false = false → Ext (w) v := fun _ _ h _ => h
       refine g_tk 0 (v := ?_) HG HQP (fun w hS => ?_) ?_
       rotate_left 1
       · go_simp
         try simp only [e1, f1, e2, f2, e3, f3]
         refine gives_mk ?_ rfl
         with_reducible rfl
       refine g_tk 1 (v := ?_) HG HQP (fun w hS => ?_) ?_
       rotate_left 1
       · go_simp
         try simp only [e1, f1, e2, f2, e3, f3]
         refine gives_mk ?_ rfl
         with_reducible rfl
       refine g_tk 2 (v := ?_) HG HQP (fun w hS => ?_) ?_
       rotate_left 1
       · go_simp
         try simp only [e1, f1, e2, f2, e3, f3]
         refine gives_mk ?_ rfl
         with_reducible rfl
       refine g_tk 3 (v := ?_) HG HQP (fun w hS => ?_) ?_
       rotate_left 1
       · go_simp
         try simp only [e1, f1, e2, f2, e3, f3]
         refine gives_mk ?_ rfl
         with_reducible rfl
       refine g_tk 4 (v := ?_) HG HQP (fun w hS => ?_) ?_
       rotate_left 1
       · go_simp
         try simp only [e1, f1, e2, f2, e3, f3]
         refine gives_mk ?_ rfl
         with_reducible rfl
       refine g_tk 5 (v := ?_) HG HQP (fun w hS => ?_) ?_
       rotate_left 1
       · go_simp
         try simp only [e1, f1, e2, f2, e3, f3]
         refine gives_mk ?_ rfl
         with_reducible rfl
       refine g_tk 6 (v := ?_) HG HQP (fun w hS => ?_) ?_
       rotate_left 1
       · go_simp
         try simp only [e1, f1, e2, f2, e3, f3]
         refine gives_mk ?_ rfl
         with_reducible rfl
       refine g_tk 7 (v := ?_) HG HQP (fun w hS => ?_) ?_
       rotate_left 1
       · go_simp
         try simp only [e1, f1, e2, f2, e3, f3]
         refine gives_mk ?_ rfl
         with_reducible rfl
       refine g_tk 8 (v := ?_) HG HQP (fun w hS => ?_) ?_
       rotate_left 1
       · go_simp
         try simp only [e1, f1, e2, f2, e3, f3]
         refine gives_mk ?_ rfl
         with_reducible rfl
       refine g_tk 9 (v := ?_) HG HQP (fun w hS => ?_) ?_
       rotate_left 1
       · go_simp
         try simp only [e1, f1, e2, f2, e3, f3]
         refine gives_mk ?_ rfl
         with_reducible rfl
       refine g_tk 10 (v := ?_) HG HQP (fun w hS => ?_) ?_
       rotate_left 1
       · go_simp
         try simp only [e1, f1, e2, f2, e3, f3]
         refine gives_mk ?_ rfl
         with_reducible rfl
       refine g_tk 11 (v := ?_) HG HQP (fun w hS => ?_) ?_
       rotate_left 1
       · go_simp
         try simp only [e1, f1, e2, f2, e3, f3]
         refine gives_mk ?_ rfl
         with_reducible rfl
       refine g_tk 12 (v := ?_) HG HQP (fun w hS => ?_) ?_
       rotate_left 1
       · go_simp
         try simp only [e1, f1, e2, f2, e3, f3]
         refine gives_mk ?_ rfl
         with_reducible rfl
       refine g_tk 13 (v := ?_) HG HQP (fun w hS => ?_) ?_
       rotate_left 1
       · go_simp
         try simp only [e1, f1, e2, f2, e3, f3]
         refine gives_mk ?_ rfl
         with_reducible rfl
       refine g_tk 14 (v := ?_) HG HQP (fun w hS => ?_) ?_
       rotate_left 1
       · go_simp
         try simp only [e1, f1, e2, f2, e3, f3]
         refine gives_mk ?_ rfl
         with_reducible rfl
       refine g_tk 15 (v := ?_) HG HQP (fun w hS => ?_) ?_
       rotate_left 1
       · go_simp
         try simp only [e1, f1, e2, f2, e3, f3]
         refine gives_mk ?_ rfl
         with_reducible rfl
       refine g_tk 16 (v := ?_) HG HQP (fun w hS => ?_) ?_
       rotate_left 1
       · go_simp
         try simp only [e1, f1, e2, f2, e3, f3]
         refine gives_mk ?_ rfl
         with_reducible rfl
       refine g_tk 17 (v := ?_) HG HQP (fun w hS => ?_) ?_
       rotate_left 1
       · go_simp
         try simp only [e1, f1, e2, f2, e3, f3]
         refine gives_mk ?_ rfl
         with_reducible rfl
       refine g_tk 18 (v := ?_) HG HQP (fun w hS => ?_) ?_
       rotate_left 1
       · go_simp
         try simp only [e1, f1, e2, f2, e3, f3]
         refine gives_mk ?_ rfl
         with_reducible rfl
       refine g_tk 19 (v := ?_) HG HQP (fun w hS => ?_) ?_
       rotate_left 1
       · go_simp
         try simp only [e1, f1, e2, f2, e3, f3]
         refine gives_mk ?_ rfl
         with_reducible rfl
       refine g_tk 20 (v := ?_) HG HQP (fun w hS => ?_) ?_
       rotate_left 1
       · go_simp
         try simp only [e1, f1, e2, f2, e3, f3]
         refine gives_mk ?_ rfl
         with_reducible rfl
       refine g_tk 21 (v := ?_) HG HQP (fun w hS => ?_) ?_
       rotate_left 1
       · go_simp
         try simp only [e1, f1, e2, f2, e3, f3]
         refine gives_mk ?_ rfl
         with_reducible rfl
       refine g_tk 22 (v := ?_) HG HQP (fun w hS => ?_) ?_
       rotate_left 1
       · go_simp
         try simp only [e1, f1, e2, f2, e3, f3]
         refine gives_mk ?_ rfl
         with_reducible rfl
       refine g_tk 23 (v := ?_) HG HQP (fun w hS => ?_) ?_
       rotate_left 1
       · go_simp
         try simp only [e1, f1, e2, f2, e3, f3]
         refine gives_mk ?_ rfl
         with_reducible rfl
       refine g_last (k := 24) (by kernel_rfl) (by kernel_rfl) (by kernel_rfl) rfl (by kernel_rfl) (fun w hS R hR1 hR2 => ?_)
       have hq9 := HQE.out
       subst hq9
       have HR1 := Lib.hid hR1
       have HR2 := Lib.hid hR2
       clear hR1 hR2 HG HQP HQE
       go_simp
       refine entersM_call ((need_yes w).mono ?_)
       rintro e' w' ⟨rfl, rfl⟩
       have HXS := Lib.hid hS
       clear hS
       refine HR1.out _ _ ?_
       go_simp
       go_wp2
       first | go_end0 | skip
       exact ⟨.inl ⟨rfl, rfl⟩, HXS.out⟩
     · have e3 : (l.g == g) = false := by simpa using k3
       have f3 : (l.g != g) = true := by simpa using k3
       have K3 := Lib.hid k3
       clear k3
       have HF : Hid (r = false) := Lib.hid (by rw [← HR.out]; simp [K1.out, K2.out, K3.out])
       obtain rfl := HF.out
       refine region_gq 24 (fun v => Ext (w) v) (fun v => Ext (w) v) (by kernel_rfl) (Ext.refl _).drew (fun _ _ d _ _ h => by cases d <;> exact h) ?_
       intro Q9 HQE HQP
       have HG : ∀ (l : Array Bool) v, Ext (w) v → l.getD 24 false = false → Ext (w) v := fun _ _ h _ => h
       refine g_tk 0 (v := ?_) HG HQP (fun w hS => ?_) ?_
       rotate_left 1
       · go_simp
         try simp only [e1, f1, e2, f2, e3, f3]
         refine gives_mk ?_ rfl
         with_reducible rfl
       refine g_tk 1 (v := ?_) HG HQP (fun w hS => ?_) ?_
       rotate_left 1
       · go_simp
         try simp only [e1, f1, e2, f2, e3, f3]
         refine gives_mk ?_ rfl
         with_reducible rfl
       refine g_tk 2 (v := ?_) HG HQP (fun w hS => ?_) ?_
       rotate_left 1
       · go_simp
         try simp only [e1, f1, e2, f2, e3, f3]
         refine gives_mk ?_ rfl
         with_reducible rfl
       refine g_tk 3 (v := ?_) HG HQP (fun w hS => ?_) ?_
       rotate_left 1
       · go_simp
         try simp only [e1, f1, e2, f2, e3, f3]
         refine gives_mk ?_ rfl
         with_reducible rfl
       refine g_tk 4 (v := ?_) HG HQP (fun w hS => ?_) ?_
       rotate_left 1
       · go_simp
         try simp only [e1, f1, e2, f2, e3, f3]
         refine gives_mk ?_ rfl
         with_reducible rfl
       refine g_tk 5 (v := ?_) HG HQP (fun w hS => ?_) ?_
       rotate_left 1
       · go_simp
         try simp only [e1, f1, e2, f2, e3, f3]
         refine gives_mk ?_ rfl
         with_reducible rfl
       refine g_tk 6 (v := ?_) HG HQP (fun w hS => ?_) ?_
       rotate_left 1
       · go_simp
         try simp only [e1, f1, e2, f2, e3, f3]
         refine gives_mk ?_ rfl
         with_reducible rfl
       refine g_tk 7 (v := ?_) HG HQP (fun w hS => ?_) ?_
       rotate_left 1
       · go_simp
         try simp only [e1, f1, e2, f2, e3, f3]
         refine gives_mk ?_ rfl
         with_reducible rfl
       refine g_tk 8 (v := ?_) HG HQP (fun w hS => ?_) ?_
       rotate_left 1
       · go_simp
         try simp only [e1, f1, e2, f2, e3, f3]
         refine gives_mk ?_ rfl
         with_reducible rfl
       refine g_tk 9 (v := ?_) HG HQP (fun w hS => ?_) ?_
       rotate_left 1
       · go_simp
         try simp only [e1, f1, e2, f2, e3, f3]
         refine gives_mk ?_ rfl
         with_reducible rfl
       refine g_tk 10 (v := ?_) HG HQP (fun w hS => ?_) ?_
       rotate_left 1
       · go_simp
         try simp only [e1, f1, e2, f2, e3, f3]
         refine gives_mk ?_ rfl
         with_reducible rfl
       refine g_tk 11 (v := ?_) HG HQP (fun w hS => ?_) ?_
       rotate_left 1
       · go_simp
         try simp only [e1, f1, e2, f2, e3, f3]
         refine gives_mk ?_ rfl
         with_reducible rfl
       refine g_tk 12 (v := ?_) HG HQP (fun w hS => ?_) ?_
       rotate_left 1
       · go_simp
         try simp only [e1, f1, e2, f2, e3, f3]
         refine gives_mk ?_ rfl
         with_reducible rfl
       refine g_tk 13 (v := ?_) HG HQP (fun w hS => ?_) ?_
       rotate_left 1
       · go_simp
         try simp only [e1, f1, e2, f2, e3, f3]
         refine gives_mk ?_ rfl
         with_reducible rfl
       refine g_tk 14 (v := ?_) HG HQP (fun w hS => ?_) ?_
       rotate_left 1
       · go_simp
         try simp only [e1, f1, e2, f2, e3, f3]
         refine gives_mk ?_ rfl
         with_reducible rfl
       refine g_tk 15 (v := ?_) HG HQP (fun w hS => ?_) ?_
       rotate_left 1
       · go_simp
         try simp only [e1, f1, e2, f2, e3, f3]
         refine gives_mk ?_ rfl
         with_reducible rfl
       refine g_tk 16 (v := ?_) HG HQP (fun w hS => ?_) ?_
       rotate_left 1
       · go_simp
         try simp only [e1, f1, e2, f2, e3, f3]
         refine gives_mk ?_ rfl
         with_reducible rfl
       refine g_tk 17 (v := ?_) HG HQP (fun w hS => ?_) ?_
       rotate_left 1
       · go_simp
         try simp only [e1, f1, e2, f2, e3, f3]
         refine gives_mk ?_ rfl
         with_reducible rfl
       refine g_tk 18 (v := ?_) HG HQP (fun w hS => ?_) ?_
       rotate_left 1
       · go_simp
         try simp only [e1, f1, e2, f2, e3, f3]
         refine gives_mk ?_ rfl
         with_reducible rfl
       refine g_tk 19 (v := ?_) HG HQP (fun w hS => ?_) ?_
       rotate_left 1
       · go_simp
         try simp only [e1, f1, e2, f2, e3, f3]
         refine gives_mk ?_ rfl
         with_reducible rfl
       refine g_tk 20 (v := ?_) HG HQP (fun w hS => ?_) ?_
       rotate_left 1
       · go_simp
         try simp only [e1, f1, e2, f2, e3, f3]
         refine gives_mk ?_ rfl
         with_reducible rfl
       refine g_tk 21 (v := ?_) HG HQP (fun w hS => ?_) ?_
       rotate_left 1
       · go_simp
         try simp only [e1, f1, e2, f2, e3, f3]
         refine gives_mk ?_ rfl
         with_reducible rfl
       refine g_tk 22 (v := ?_) HG HQP (fun w hS => ?_) ?_
       rotate_left 1
       · go_simp
         try simp only [e1, f1, e2, f2, e3, f3]
         refine gives_mk ?_ rfl
         with_reducible rfl
       refine g_tk 23 (v := ?_) HG HQP (fun w hS => ?_) ?_
       rotate_left 1
       · go_simp
         try simp only [e1, f1, e2, f2, e3, f3]
         refine gives_mk ?_ rfl
         with_reducible rfl
       refine g_last (k := 24) (by kernel_rfl) (by kernel_rfl) (by kernel_rfl) rfl (by kernel_rfl) (fun w hS R hR1 hR2 => ?_)
       have hq9 := HQE.out
       subst hq9
       have HR1 := Lib.hid hR1
       have HR2 := Lib.hid hR2
       clear hR1 hR2 HG HQP HQE
       go_simp
       refine entersM_call ((need_no w).mono ?_)
       rintro e' w' ⟨rfl, rfl⟩
       refine HR2.out _ _ ?_
       exact ⟨rfl, .inr ⟨rfl, rfl⟩, hS⟩
set_option maxRecDepth 100000 in
set_option maxHeartbeats 16000000 in
theorem mvacant_any (w0 w : World) (T : Nat) (x : Sn) (l : Lg) (wy st : Value) (p g : Int) (A : Option Addr) (c : Nat) (D : Option Addr) (d : Nat) (h : Tr w0 w T x l wy st p g A c D d) (r : Bool) (hr : Md.free x.ps l.p l.seq = r) (hl : x.ps.length ≤ 10000) : Calls Tryd.prog 86 #[.pointer (some ⟨T, 0, none⟩)] w (fun e w' => NeedE r e ∧ Ext w w') := by
 obtain ⟨time, ps, gs⟩ := x
 obtain ⟨lt, lm, kd, lg, lp, ls⟩ := l
 simp only at hr hl
 have HR := Lib.hid hr
 have HH := Lib.hid h
 clear h hr
 go_enter Tryd.func86, Tryd.ntmps86
 by_cases k1 : 0 < lp
 rotate_left 1
 · have d1 : decide (0 < lp) = false := decide_eq_false k1
   have K1 := Lib.hid k1
   clear k1
   have u1 : ∀ v, Ext w v → v.cell? ⟨T, 1, none⟩ = some (.slice A ps.length c) := fun v hv => blk_cell (hv.blk HH.out.box) 1 _ rfl
   have u7 : ∀ v, Ext w v → v.cell? ⟨T, 7, none⟩ = some (.int .i64 lp) := fun v hv => blk_cell (hv.blk HH.out.box) 7 _ rfl
   have u8 : ∀ v, Ext w v → v.cell? ⟨T, 8, none⟩ = some (.int .i64 ls) := fun v hv => blk_cell (hv.blk HH.out.box) 8 _ rfl
   have HF : Hid (r = false) := Lib.hid (by rw [← HR.out]; unfold Md.free; rw [decide_eq_false (by have := K1.out; omega)]; rfl)
   obtain rfl := HF.out
   refine region_gq 42 (fun v => Ext (w) v) (fun v => Ext (w) v) (by kernel_rfl) (Ext.refl _).drew (fun _ _ d _ _ h => by cases d <;> exact h) ?_
   intro Q9 HQE HQP
   have HG : ∀ (l : Array Bool) v, Ext (w) v → l.getD 42 false = false → Ext (w) v := fun _ _ h _ => h
   refine g_tk 0 (v := ?_) HG HQP (fun w hS => ?_) ?_
   rotate_left 1
   · go_simp
     try simp only [d1]
     refine gives_mk ?_ rfl
     with_reducible rfl
   refine g_tk 1 (v := ?_) HG HQP (fun w hS => ?_) ?_
   rotate_left 1
   · go_simp
     try simp only [d1]
     refine gives_mk ?_ rfl
     with_reducible rfl
   refine g_tk 2 (v := ?_) HG HQP (fun w hS => ?_) ?_
   rotate_left 1
   · go_simp
     try simp only [d1]
     refine gives_mk ?_ rfl
     with_reducible rfl
   refine g_tk 3 (v := ?_) HG HQP (fun w hS => ?_) ?_
   rotate_left 1
   · go_simp
     try simp only [d1]
     refine gives_mk ?_ rfl
     with_reducible rfl
   refine g_tk 4 (v := ?_) HG HQP (fun w hS => ?_) ?_
   rotate_left 1
   · go_simp
     try simp only [d1]
     refine gives_mk ?_ rfl
     with_reducible rfl
   refine g_tk 5 (v := ?_) HG HQP (fun w hS => ?_) ?_
   rotate_left 1
   · go_simp
     try simp only [d1]
     refine gives_mk ?_ rfl
     with_reducible rfl
   refine g_tk 6 (v := ?_) HG HQP (fun w hS => ?_) ?_
   rotate_left 1
   · go_simp
     try simp only [d1]
     refine gives_mk ?_ rfl
     with_reducible rfl
   refine g_take (HG _) (i := 7) rfl (by kernel_rfl) (by kernel_rfl) (by kernel_rfl) (by kernel_rfl) (by kernel_rfl) (fun c a w h => HQP c a _ _ w h) (Still.no (by kernel_rfl)) ?_
   refine g_take (HG _) (i := 8) rfl (by kernel_rfl) (by kernel_rfl) (by kernel_rfl) (by kernel_rfl) (by kernel_rfl) (fun c a w h => HQP c a _ _ w h) (Still.no (by kernel_rfl)) ?_
   refine g_take (HG _) (i := 9) rfl (by kernel_rfl) (by kernel_rfl) (by kernel_rfl) (by kernel_rfl) (by kernel_rfl) (fun c a w h => HQP c a _ _ w h) (Still.no (by kernel_rfl)) ?_
   refine g_take (HG _) (i := 10) rfl (by kernel_rfl) (by kernel_rfl) (by kernel_rfl) (by kernel_rfl) (by kernel_rfl) (fun c a w h => HQP c a _ _ w h) (Still.no (by kernel_rfl)) ?_
   refine g_take (HG _) (i := 11) rfl (by kernel_rfl) (by kernel_rfl) (by kernel_rfl) (by kernel_rfl) (by kernel_rfl) (fun c a w h => HQP c a _ _ w h) (Still.no (by kernel_rfl)) ?_
   refine g_take (HG _) (i := 12) rfl (by kernel_rfl) (by kernel_rfl) (by kernel_rfl) (by kernel_rfl) (by kernel_rfl) (fun c a w h => HQP c a _ _ w h) (Still.no (by kernel_rfl)) ?_
   refine g_take (HG _) (i := 13) rfl (by kernel_rfl) (by kernel_rfl) (by kernel_rfl) (by kernel_rfl) (by kernel_rfl) (fun c a w h => HQP c a _ _ w h) (Still.no (by kernel_rfl)) ?_
   refine g_take (HG _) (i := 14) rfl (by kernel_rfl) (by kernel_rfl) (by kernel_rfl) (by kernel_rfl) (by kernel_rfl) (fun c a w h => HQP c a _ _ w h) (Still.no (by kernel_rfl)) ?_
   refine g_take (HG _) (i := 15) rfl (by kernel_rfl) (by kernel_rfl) (by kernel_rfl) (by kernel_rfl) (by kernel_rfl) (fun c a w h => HQP c a _ _ w h) (Still.no (by kernel_rfl)) ?_
   refine g_take (HG _) (i := 16) rfl (by kernel_rfl) (by kernel_rfl) (by kernel_rfl) (by kernel_rfl) (by kernel_rfl) (fun c a w h => HQP c a _ _ w h) (Still.no (by kernel_rfl)) ?_
   refine g_take (HG _) (i := 17) rfl (by kernel_rfl) (by kernel_rfl) (by kernel_rfl) (by kernel_rfl) (by kernel_rfl) (fun c a w h => HQP c a _ _ w h) (Still.no (by kernel_rfl)) ?_
   refine g_take (HG _) (i := 18) rfl (by kernel_rfl) (by kernel_rfl) (by kernel_rfl) (by kernel_rfl) (by kernel_rfl) (fun c a w h => HQP c a _ _ w h) (Still.no (by kernel_rfl)) ?_
   refine g_tk 19 (v := ?_) HG HQP (fun w hS => ?_) ?_
   rotate_left 1
   · go_simp
     try simp only [d1]
     refine gives_mk ?_ rfl
     with_reducible rfl
   refine g_tk 20 (v := ?_) HG HQP (fun w hS => ?_) ?_
   rotate_left 1
   · go_simp
     try simp only [d1]
     refine gives_mk ?_ rfl
     with_reducible rfl
   refine g_take (HG _) (i := 21) rfl (by kernel_rfl) (by kernel_rfl) (by kernel_rfl) (by kernel_rfl) (by kernel_rfl) (fun c a w h => HQP c a _ _ w h) (Still.no (by kernel_rfl)) ?_
   refine g_take (HG _) (i := 22) rfl (by kernel_rfl) (by kernel_rfl) (by kernel_rfl) (by kernel_rfl) (by kernel_rfl) (fun c a w h => HQP c a _ _ w h) (Still.no (by kernel_rfl)) ?_
   refine g_take (HG _) (i := 23) rfl (by kernel_rfl) (by kernel_rfl) (by kernel_rfl) (by kernel_rfl) (by kernel_rfl) (fun c a w h => HQP c a _ _ w h) (Still.no (by kernel_rfl)) ?_
   refine g_take (HG _) (i := 24) rfl (by kernel_rfl) (by kernel_rfl) (by kernel_rfl) (by kernel_rfl) (by kernel_rfl) (fun c a w h => HQP c a _ _ w h) (Still.no (by kernel_rfl)) ?_
   refine g_take (HG _) (i := 25) rfl (by kernel_rfl) (by kernel_rfl) (by kernel_rfl) (by kernel_rfl) (by kernel_rfl) (fun c a w h => HQP c a _ _ w h) (Still.no (by kernel_rfl)) ?_
   refine g_take (HG _) (i := 26) rfl (by kernel_rfl) (by kernel_rfl) (by kernel_rfl) (by kernel_rfl) (by kernel_rfl) (fun c a w h => HQP c a _ _ w h) (Still.no (by kernel_rfl)) ?_
   refine g_take (HG _) (i := 27) rfl (by kernel_rfl) (by kernel_rfl) (by kernel_rfl) (by kernel_rfl) (by kernel_rfl) (fun c a w h => HQP c a _ _ w h) (Still.no (by kernel_rfl)) ?_
   refine g_take (HG _) (i := 28) rfl (by kernel_rfl) (by kernel_rfl) (by kernel_rfl) (by kernel_rfl) (by kernel_rfl) (fun c a w h => HQP c a _ _ w h) (Still.no (by kernel_rfl)) ?_
   refine g_take (HG _) (i := 29) rfl (by kernel_rfl) (by kernel_rfl) (by kernel_rfl) (by kernel_rfl) (by kernel_rfl) (fun c a w h => HQP c a _ _ w h) (Still.no (by kernel_rfl)) ?_
   refine g_take (HG _) (i := 30) rfl (by kernel_rfl) (by kernel_rfl) (by kernel_rfl) (by kernel_rfl) (by kernel_rfl) (fun c a w h => HQP c a _ _ w h) (Still.no (by kernel_rfl)) ?_
   refine g_take (HG _) (i := 31) rfl (by kernel_rfl) (by kernel_rfl) (by kernel_rfl) (by kernel_rfl) (by kernel_rfl) (fun c a w h => HQP c a _ _ w h) (Still.no (by kernel_rfl)) ?_
   refine g_take (HG _) (i := 32) rfl (by kernel_rfl) (by kernel_rfl) (by kernel_rfl) (by kernel_rfl) (by kernel_rfl) (fun c a w h => HQP c a _ _ w h) (Still.no (by kernel_rfl)) ?_
   refine g_take (HG _) (i := 33) rfl (by kernel_rfl) (by kernel_rfl) (by kernel_rfl) (by kernel_rfl) (by kernel_rfl) (fun c a w h => HQP c a _ _ w h) (Still.no (by kernel_rfl)) ?_
   refine g_take (HG _) (i := 34) rfl (by kernel_rfl) (by kernel_rfl) (by kernel_rfl) (by kernel_rfl) (by kernel_rfl) (fun c a w h => HQP c a _ _ w h) (Still.no (by kernel_rfl)) ?_
   refine g_take (HG _) (i := 35) rfl (by kernel_rfl) (by kernel_rfl) (by kernel_rfl) (by kernel_rfl) (by kernel_rfl) (fun c a w h => HQP c a _ _ w h) (Still.no (by kernel_rfl)) ?_
   refine g_take (HG _) (i := 36) rfl (by kernel_rfl) (by kernel_rfl) (by kernel_rfl) (by kernel_rfl) (by kernel_rfl) (fun c a w h => HQP c a _ _ w h) (Still.no (by kernel_rfl)) ?_
   refine g_take (HG _) (i := 37) rfl (by kernel_rfl) (by kernel_rfl) (by kernel_rfl) (by kernel_rfl) (by kernel_rfl) (fun c a w h => HQP c a _ _ w h) (Still.no (by kernel_rfl)) ?_
   refine g_take (HG _) (i := 38) rfl (by kernel_rfl) (by kernel_rfl) (by kernel_rfl) (by kernel_rfl) (by kernel_rfl) (fun c a w h => HQP c a _ _ w h) (Still.no (by kernel_rfl)) ?_
   refine g_take (HG _) (i := 39) rfl (by kernel_rfl) (by kernel_rfl) (by kernel_rfl) (by kernel_rfl) (by kernel_rfl) (fun c a w h => HQP c a _ _ w h) (Still.no (by kernel_rfl)) ?_
   refine g_take (HG _) (i := 40) rfl (by kernel_rfl) (by kernel_rfl) (by kernel_rfl) (by kernel_rfl) (by kernel_rfl) (fun c a w h => HQP c a _ _ w h) (Still.no (by kernel_rfl)) ?_
   refine g_tk 41 (v := ?_) HG HQP (fun w hS => ?_) ?_
   rotate_left 1
   · go_simp
     try simp only [d1]
     refine gives_mk ?_ rfl
     with_reducible rfl
   refine g_last (k := 42) (by kernel_rfl) (by kernel_rfl) (by kernel_rfl) rfl (by kernel_rfl) (fun w hS R hR1 hR2 => ?_)
   have hq9 := HQE.out
   subst hq9
   have HR1 := Lib.hid hR1
   have HR2 := Lib.hid hR2
   clear hR1 hR2 HG HQP HQE
   go_simp
   refine entersM_call ((need_no w).mono ?_)
   rintro e' w' ⟨rfl, rfl⟩
   refine HR2.out _ _ ?_
   exact ⟨rfl, .inr ⟨rfl, rfl⟩, hS⟩
 by_cases k2 : lp ≤ (ps.length : Int)
 rotate_left 1
 · have d1 : decide (0 < lp) = true := decide_eq_true k1
   have d2 : decide (lp ≤ (ps.length : Int)) = false := decide_eq_false k2
   have K2 := Lib.hid k2
   clear k1 k2
   have u1 : ∀ v, Ext w v → v.cell? ⟨T, 1, none⟩ = some (.slice A ps.length c) := fun v hv => blk_cell (hv.blk HH.out.box) 1 _ rfl
   have u7 : ∀ v, Ext w v → v.cell? ⟨T, 7, none⟩ = some (.int .i64 lp) := fun v hv => blk_cell (hv.blk HH.out.box) 7 _ rfl
   have u8 : ∀ v, Ext w v → v.cell? ⟨T, 8, none⟩ = some (.int .i64 ls) := fun v hv => blk_cell (hv.blk HH.out.box) 8 _ rfl
   have HF : Hid (r = false) := Lib.hid (by rw [← HR.out]; unfold Md.free; rw [decide_eq_false (by have := K2.out; omega)]; rfl)
   obtain rfl := HF.out
   refine region_gq 42 (fun v => Ext (w) v) (fun v => Ext (w) v) (by kernel_rfl) (Ext.refl _).drew (fun _ _ d _ _ h => by cases d <;> exact h) ?_
   intro Q9 HQE HQP
   have HG : ∀ (l : Array Bool) v, Ext (w) v → l.getD 42 false = false → Ext (w) v := fun _ _ h _ => h
   refine g_tk 0 (v := ?_) HG HQP (fun w hS => ?_) ?_
   rotate_left 1
   · go_simp
     try simp only [d1, d2]
     refine gives_mk ?_ rfl
     with_reducible rfl
   refine g_tk 1 (v := ?_) HG HQP (fun w hS => ?_) ?_
   rotate_left 1
   · go_simp
     try simp only [d1, d2]
     refine gives_mk ?_ rfl
     with_reducible rfl
   refine g_tk 2 (v := ?_) HG HQP (fun w hS => ?_) ?_
   rotate_left 1
   · go_simp
     try simp only [d1, d2]
     refine gives_mk ?_ rfl
     with_reducible rfl
   refine g_tk 3 (v := ?_) HG HQP (fun w hS => ?_) ?_
   rotate_left 1
   · go_simp
     try simp only [d1, d2]
     refine gives_mk ?_ rfl
     with_reducible rfl
   refine g_tk 4 (v := ?_) HG HQP (fun w hS => ?_) ?_
   rotate_left 1
   · go_simp
     try simp only [d1, d2]
     refine gives_mk ?_ rfl
     with_reducible rfl
   refine g_tk 5 (v := ?_) HG HQP (fun w hS => ?_) ?_
   rotate_left 1
   · go_simp
     try simp only [d1, d2]
     refine gives_mk ?_ rfl
     with_reducible rfl
   refine g_tk 6 (v := ?_) HG HQP (fun w hS => ?_) ?_
   rotate_left 1
   · go_simp
     try simp only [d1, d2]
     refine gives_mk ?_ rfl
     with_reducible rfl
   refine g_tk 7 (v := ?_) HG HQP (fun w hS => ?_) ?_
   rotate_left 1
   · go_simp
     try simp only [d1, d2]
     refine gives_mk ?_ rfl
     with_reducible rfl
   refine g_tk 8 (v := ?_) HG HQP (fun w hS => ?_) ?_
   rotate_left 1
   · go_simp
     try simp only [d1, d2]
     refine gives_mk ?_ rfl
     with_reducible rfl
   refine g_tk 9 (v := ?_) HG HQP (fun w hS => ?_) ?_
   rotate_left 1
   · go_simp
     try simp only [d1, d2]
     refine gives_mk ?_ rfl
     with_reducible rfl
   refine g_tk 10 (v := ?_) HG HQP (fun w hS => ?_) ?_
   rotate_left 1
   · go_simp
     try simp only [d1, d2]
     refine gives_mk ?_ rfl
     with_reducible rfl
   refine g_tk 11 (v := ?_) HG HQP (fun w hS => ?_) ?_
   rotate_left 1
   · go_simp
     try simp only [d1, d2]
     refine gives_mk ?_ rfl
     with_reducible rfl
   refine g_tk 12 (v := ?_) HG HQP (fun w hS => ?_) ?_
   rotate_left 1
   · go_simp
     try simp only [d1, d2]
     refine gives_mk ?_ rfl
     with_reducible rfl
   refine g_tk 13 (v := ?_) HG HQP (fun w hS => ?_) ?_
   rotate_left 1
   · go_simp
     try simp only [d1, d2]
     refine gives_mk ?_ rfl
     with_reducible rfl
   refine g_tk 14 (v := ?_) HG HQP (fun w hS => ?_) ?_
   rotate_left 1
   · go_simp
     try simp only [d1, d2]
     refine gives_mk ?_ rfl
     with_reducible rfl
   refine g_tk 15 (v := ?_) HG HQP (fun w hS => ?_) ?_
   rotate_left 1
   · go_simp
     try simp only [d1, d2]
     refine gives_mk ?_ rfl
     with_reducible rfl
   refine g_tk 16 (v := ?_) HG HQP (fun w hS => ?_) ?_
   rotate_left 1
   · go_simp
     try simp only [d1, d2]
     refine gives_mk ?_ rfl
     with_reducible rfl
   refine g_tk 17 (v := ?_) HG HQP (fun w hS => ?_) ?_
   rotate_left 1
   · go_simp
     try simp only [d1, d2]
     refine gives_mk ?_ rfl
     with_reducible rfl
   refine g_tk 18 (v := ?_) HG HQP (fun w hS => ?_) ?_
   rotate_left 1
   · go_simp
     try simp only [d1, d2]
     refine gives_mk ?_ rfl
     with_reducible rfl
   refine g_tk 19 (v := ?_) HG HQP (fun w hS => ?_) ?_
   rotate_left 1
   · go_simp
     try simp only [d1, d2]
     refine gives_mk ?_ rfl
     with_reducible rfl
   refine g_tk 20 (v := ?_) HG HQP (fun w hS => ?_) ?_
   rotate_left 1
   · go_simp
     try simp only [d1, d2]
     refine gives_mk ?_ rfl
     with_reducible rfl
   refine g_take (HG _) (i := 21) rfl (by kernel_rfl) (by kernel_rfl) (by kernel_rfl) (by kernel_rfl) (by kernel_rfl) (fun c a w h => HQP c a _ _ w h) (Still.no (by kernel_rfl)) ?_
   refine g_take (HG _) (i := 22) rfl (by kernel_rfl) (by kernel_rfl) (by kernel_rfl) (by kernel_rfl) (by kernel_rfl) (fun c a w h => HQP c a _ _ w h) (Still.no (by kernel_rfl)) ?_
   refine g_take (HG _) (i := 23) rfl (by kernel_rfl) (by kernel_rfl) (by kernel_rfl) (by kernel_rfl) (by kernel_rfl) (fun c a w h => HQP c a _ _ w h) (Still.no (by kernel_rfl)) ?_
   refine g_take (HG _) (i := 24) rfl (by kernel_rfl) (by kernel_rfl) (by kernel_rfl) (by kernel_rfl) (by kernel_rfl) (fun c a w h => HQP c a _ _ w h) (Still.no (by kernel_rfl)) ?_
   refine g_take (HG _) (i := 25) rfl (by kernel_rfl) (by kernel_rfl) (by kernel_rfl) (by kernel_rfl) (by kernel_rfl) (fun c a w h => HQP c a _ _ w h) (Still.no (by kernel_rfl)) ?_
   refine g_take (HG _) (i := 26) rfl (by kernel_rfl) (by kernel_rfl) (by kernel_rfl) (by kernel_rfl) (by kernel_rfl) (fun c a w h => HQP c a _ _ w h) (Still.no (by kernel_rfl)) ?_
   refine g_take (HG _) (i := 27) rfl (by kernel_rfl) (by kernel_rfl) (by kernel_rfl) (by kernel_rfl) (by kernel_rfl) (fun c a w h => HQP c a _ _ w h) (Still.no (by kernel_rfl)) ?_
   refine g_take (HG _) (i := 28) rfl (by kernel_rfl) (by kernel_rfl) (by kernel_rfl) (by kernel_rfl) (by kernel_rfl) (fun c a w h => HQP c a _ _ w h) (Still.no (by kernel_rfl)) ?_
   refine g_take (HG _) (i := 29) rfl (by kernel_rfl) (by kernel_rfl) (by kernel_rfl) (by kernel_rfl) (by kernel_rfl) (fun c a w h => HQP c a _ _ w h) (Still.no (by kernel_rfl)) ?_
   refine g_take (HG _) (i := 30) rfl (by kernel_rfl) (by kernel_rfl) (by kernel_rfl) (by kernel_rfl) (by kernel_rfl) (fun c a w h => HQP c a _ _ w h) (Still.no (by kernel_rfl)) ?_
   refine g_take (HG _) (i := 31) rfl (by kernel_rfl) (by kernel_rfl) (by kernel_rfl) (by kernel_rfl) (by kernel_rfl) (fun c a w h => HQP c a _ _ w h) (Still.no (by kernel_rfl)) ?_
   refine g_take (HG _) (i := 32) rfl (by kernel_rfl) (by kernel_rfl) (by kernel_rfl) (by kernel_rfl) (by kernel_rfl) (fun c a w h => HQP c a _ _ w h) (Still.no (by kernel_rfl)) ?_
   refine g_take (HG _) (i := 33) rfl (by kernel_rfl) (by kernel_rfl) (by kernel_rfl) (by kernel_rfl) (by kernel_rfl) (fun c a w h => HQP c a _ _ w h) (Still.no (by kernel_rfl)) ?_
   refine g_take (HG _) (i := 34) rfl (by kernel_rfl) (by kernel_rfl) (by kernel_rfl) (by kernel_rfl) (by kernel_rfl) (fun c a w h => HQP c a _ _ w h) (Still.no (by kernel_rfl)) ?_
   refine g_take (HG _) (i := 35) rfl (by kernel_rfl) (by kernel_rfl) (by kernel_rfl) (by kernel_rfl) (by kernel_rfl) (fun c a w h => HQP c a _ _ w h) (Still.no (by kernel_rfl)) ?_
   refine g_take (HG _) (i := 36) rfl (by kernel_rfl) (by kernel_rfl) (by kernel_rfl) (by kernel_rfl) (by kernel_rfl) (fun c a w h => HQP c a _ _ w h) (Still.no (by kernel_rfl)) ?_
   refine g_take (HG _) (i := 37) rfl (by kernel_rfl) (by kernel_rfl) (by kernel_rfl) (by kernel_rfl) (by kernel_rfl) (fun c a w h => HQP c a _ _ w h) (Still.no (by kernel_rfl)) ?_
   refine g_take (HG _) (i := 38) rfl (by kernel_rfl) (by kernel_rfl) (by kernel_rfl) (by kernel_rfl) (by kernel_rfl) (fun c a w h => HQP c a _ _ w h) (Still.no (by kernel_rfl)) ?_
   refine g_take (HG _) (i := 39) rfl (by kernel_rfl) (by kernel_rfl) (by kernel_rfl) (by kernel_rfl) (by kernel_rfl) (fun c a w h => HQP c a _ _ w h) (Still.no (by kernel_rfl)) ?_
   refine g_take (HG _) (i := 40) rfl (by kernel_rfl) (by kernel_rfl) (by kernel_rfl) (by kernel_rfl) (by kernel_rfl) (fun c a w h => HQP c a _ _ w h) (Still.no (by kernel_rfl)) ?_
   refine g_tk 41 (v := ?_) HG HQP (fun w hS => ?_) ?_
   rotate_left 1
   · go_simp
     try simp only [d1, d2]
     refine gives_mk ?_ rfl
     with_reducible rfl
   refine g_last (k := 42) (by kernel_rfl) (by kernel_rfl) (by kernel_rfl) rfl (by kernel_rfl) (fun w hS R hR1 hR2 => ?_)
   have hq9 := HQE.out
   subst hq9
   have HR1 := Lib.hid hR1
   have HR2 := Lib.hid hR2
   clear hR1 hR2 HG HQP HQE
   go_simp
   refine entersM_call ((need_no w).mono ?_)
   rintro e' w' ⟨rfl, rfl⟩
   refine HR2.out _ _ ?_
   exact ⟨rfl, .inr ⟨rfl, rfl⟩, hS⟩
 obtain ⟨k, rfl⟩ : ∃ k : Nat, lp = (k : Int) + 1 := ⟨(lp - 1).toNat, by omega⟩
 obtain ⟨⟨qa, qb⟩, hq⟩ : ∃ q, ps[k]? = some q := ⟨_, List.getElem?_eq_getElem (by omega)⟩
 obtain ⟨bl, hA, hb, s0, s1⟩ := HH.out.rowP hq
 subst hA
 have us0 : ∀ v, Ext w v → v.cell? ⟨bl, k * 2, none⟩ = some (.int .i64 qa) := fun v hv => (bcell hv _ _ hb).trans s0
 have us1 : ∀ v, Ext w v → v.cell? ⟨bl, k * 2 + 1, none⟩ = some (.int .i64 qb) := fun v hv => (bcell hv _ _ hb).trans s1
 have d1 : decide (0 < (k : Int) + 1) = true := decide_eq_true k1
 have d2 : decide ((k : Int) + 1 ≤ (ps.length : Int)) = true := decide_eq_true k2
 have l1 : (k : Int) + 1 - 1 = (k : Int) := by omega
 have l2 : (k : Int) < (ps.length : Int) := by omega
 have l3 : (k : Int) < 100000 := by omega
 have l4 : IntKind.i64.wrap (k : Int) = (k : Int) := IntWalk.i64_in _ (by omega)
 have HQ : Hid (Md.free ps ((k : Int) + 1) ls = decide ((qa, qb) = (0, ls))) := Lib.hid (by unfold Md.free; rw [decide_eq_true (by omega), show ((k : Int) + 1 - 1).toNat = k by omega, List.getD, hq]; rfl)
 clear s0 s1 hb hq k1 k2
 have u1 : ∀ v, Ext w v → v.cell? ⟨T, 1, none⟩ = some (.slice (some ⟨bl, 0, none⟩) ps.length c) := fun v hv => blk_cell (hv.blk HH.out.box) 1 _ rfl
 have u7 : ∀ v, Ext w v → v.cell? ⟨T, 7, none⟩ = some (.int .i64 ((k : Int) + 1)) := fun v hv => blk_cell (hv.blk HH.out.box) 7 _ rfl
 have u8 : ∀ v, Ext w v → v.cell? ⟨T, 8, none⟩ = some (.int .i64 ls) := fun v hv => blk_cell (hv.blk HH.out.box) 8 _ rfl
 have heq : ∀ w, (Op.equalIn 10000 61 (.agg #[.int .i64 qa, .int .i64 qb]) (.agg #[.int .i64 0, .int .i64 ls])).run Tryd.prog w = .ok (decide ([qa, qb] = [0, ls])) w := fun w => run_eqP qa qb 0 ls w
 by_cases k3 : [qa, qb] = [0, ls]
 · have d3 : decide ([qa, qb] = [0, ls]) = true := decide_eq_true k3
   have K3 : Hid ((qa, qb) = (0, ls)) := Lib.hid (by simp at k3; rw [k3.1, k3.2])
   clear k3
   rw [d3] at heq
   clear d3
   have HF : Hid (r = true) := Lib.hid (by rw [← HR.out, HQ.out]; exact decide_eq_true K3.out)
   obtain rfl := HF.out
   refine region_gq 42 (fun v => Ext (w) v) (fun v => Ext (w) v) (by kernel_rfl) (Ext.refl _).drew (fun _ _ d _ _ h => by cases d <;> exact h) ?_
   intro Q9 HQE HQP
   have HG : ∀ (l : Array Bool) v, Ext (w) v → l.getD 42 false = false → Ext (w) v := fun _ _ h _ => h
   refine g_tk 0 (v := ?_) HG HQP (fun w hS => ?_) ?_
   rotate_left 1
   · go_simp
     try simp only [heq, d1, d2, l1, l4]
     refine gives_mk ?_ rfl
     with_reducible rfl
   refine g_tk 1 (v := ?_) HG HQP (fun w hS => ?_) ?_
   rotate_left 1
   · go_simp
     try simp only [heq, d1, d2, l1, l4]
     refine gives_mk ?_ rfl
     with_reducible rfl
   refine g_tk 2 (v := ?_) HG HQP (fun w hS => ?_) ?_
   rotate_left 1
   · go_simp
     try simp only [heq, d1, d2, l1, l4]
     refine gives_mk ?_ rfl
     with_reducible rfl
   refine g_tk 3 (v := ?_) HG HQP (fun w hS => ?_) ?_
   rotate_left 1
   · go_simp
     try simp only [heq, d1, d2, l1, l4]
     refine gives_mk ?_ rfl
     with_reducible rfl
   refine g_tk 4 (v := ?_) HG HQP (fun w hS => ?_) ?_
   rotate_left 1
   · go_simp
     try simp only [heq, d1, d2, l1, l4]
     refine gives_mk ?_ rfl
     with_reducible rfl
   refine g_tk 5 (v := ?_) HG HQP (fun w hS => ?_) ?_
   rotate_left 1
   · go_simp
     try simp only [heq, d1, d2, l1, l4]
     refine gives_mk ?_ rfl
     with_reducible rfl
   refine g_tk 6 (v := ?_) HG HQP (fun w hS => ?_) ?_
   rotate_left 1
   · go_simp
     try simp only [heq, d1, d2, l1, l4]
     refine gives_mk ?_ rfl
     with_reducible rfl
   refine g_tk 7 (v := ?_) HG HQP (fun w hS => ?_) ?_
   rotate_left 1
   · go_simp
     try simp only [heq, d1, d2, l1, l4]
     refine gives_mk ?_ rfl
     with_reducible rfl
   refine g_tk 8 (v := ?_) HG HQP (fun w hS => ?_) ?_
   rotate_left 1
   · go_simp
     try simp only [heq, d1, d2, l1, l4]
     refine gives_mk ?_ rfl
     with_reducible rfl
   refine g_tk 9 (v := ?_) HG HQP (fun w hS => ?_) ?_
   rotate_left 1
   · go_simp
     try simp only [heq, d1, d2, l1, l4]
     refine gives_mk ?_ rfl
     with_reducible rfl
   refine g_tk 10 (v := ?_) HG HQP (fun w hS => ?_) ?_
   rotate_left 1
   · go_simp
     try simp only [heq, d1, d2, l1, l4]
     refine gives_mk ?_ rfl
     with_reducible rfl
   refine g_tk 11 (v := ?_) HG HQP (fun w hS => ?_) ?_
   rotate_left 1
   · go_simp
     try simp only [heq, d1, d2, l1, l4]
     refine gives_mk ?_ rfl
     with_reducible rfl
   refine g_tk 12 (v := ?_) HG HQP (fun w hS => ?_) ?_
   rotate_left 1
   · go_simp
     try simp only [heq, d1, d2, l1, l4]
     refine gives_mk ?_ rfl
     with_reducible rfl
   refine g_tk 13 (v := ?_) HG HQP (fun w hS => ?_) ?_
   rotate_left 1
   · go_simp
     try simp only [heq, d1, d2, l1, l4]
     refine gives_mk ?_ rfl
     with_reducible rfl
   refine g_tk 14 (v := ?_) HG HQP (fun w hS => ?_) ?_
   rotate_left 1
   · go_simp
     try simp only [heq, d1, d2, l1, l4]
     refine gives_mk ?_ rfl
     with_reducible rfl
   refine g_tk 15 (v := ?_) HG HQP (fun w hS => ?_) ?_
   rotate_left 1
   · go_simp
     try simp only [heq, d1, d2, l1, l4]
     refine gives_mk ?_ rfl
     with_reducible rfl
   refine g_tk 16 (v := ?_) HG HQP (fun w hS => ?_) ?_
   rotate_left 1
   · go_simp
     try simp only [heq, d1, d2, l1, l4]
     refine gives_mk ?_ rfl
     with_reducible rfl
   refine g_tk 17 (v := ?_) HG HQP (fun w hS => ?_) ?_
   rotate_left 1
   · go_simp
     try simp only [heq, d1, d2, l1, l4]
     refine gives_mk ?_ rfl
     with_reducible rfl
   refine g_tk 18 (v := ?_) HG HQP (fun w hS => ?_) ?_
   rotate_left 1
   · go_simp
     try simp only [heq, d1, d2, l1, l4]
     refine gives_mk ?_ rfl
     with_reducible rfl
   refine g_tk 19 (v := ?_) HG HQP (fun w hS => ?_) ?_
   rotate_left 1
   · go_simp
     try simp only [heq, d1, d2, l1, l4]
     refine gives_mk ?_ rfl
     with_reducible rfl
   refine g_tk 20 (v := ?_) HG HQP (fun w hS => ?_) ?_
   rotate_left 1
   · go_simp
     try simp only [heq, d1, d2, l1, l4]
     refine gives_mk ?_ rfl
     with_reducible rfl
   refine g_tk 21 (v := ?_) HG HQP (fun w hS => ?_) ?_
   rotate_left 1
   · go_simp
     try simp only [heq, d1, d2, l1, l4]
     refine gives_mk ?_ rfl
     with_reducible rfl
   refine g_tk 22 (v := ?_) HG HQP (fun w hS => ?_) ?_
   rotate_left 1
   · go_simp
     try simp only [heq, d1, d2, l1, l4]
     refine gives_mk ?_ rfl
     with_reducible rfl
   refine g_tk 23 (v := ?_) HG HQP (fun w hS => ?_) ?_
   rotate_left 1
   · go_simp
     try simp only [heq, d1, d2, l1, l4]
     refine gives_mk ?_ rfl
     with_reducible rfl
   refine g_tk 24 (v := ?_) HG HQP (fun w hS => ?_) ?_
   rotate_left 1
   · go_simp
     try simp only [heq, d1, d2, l1, l4]
     refine gives_mk ?_ rfl
     with_reducible rfl
   refine g_tk 25 (v := ?_) HG HQP (fun w hS => ?_) ?_
   rotate_left 1
   · go_simp
     try simp only [heq, d1, d2, l1, l4]
     refine gives_mk ?_ rfl
     with_reducible rfl
   refine g_tk 26 (v := ?_) HG HQP (fun w hS => ?_) ?_
   rotate_left 1
   · go_simp
     try simp only [heq, d1, d2, l1, l4]
     refine gives_mk ?_ rfl
     with_reducible rfl
   refine g_tk 27 (v := ?_) HG HQP (fun w hS => ?_) ?_
   rotate_left 1
   · go_simp
     try simp only [heq, d1, d2, l1, l4]
     refine gives_mk ?_ rfl
     with_reducible rfl
   refine g_tk 28 (v := ?_) HG HQP (fun w hS => ?_) ?_
   rotate_left 1
   · go_simp
     try simp only [heq, d1, d2, l1, l4]
     refine gives_mk ?_ rfl
     with_reducible rfl
   refine g_tk 29 (v := ?_) HG HQP (fun w hS => ?_) ?_
   rotate_left 1
   · go_simp
     try simp only [heq, d1, d2, l1, l4]
     refine gives_mk ?_ rfl
     with_reducible rfl
   refine g_tk 30 (v := ?_) HG HQP (fun w hS => ?_) ?_
   rotate_left 1
   · go_simp
     try simp only [heq, d1, d2, l1, l4]
     refine gives_mk ?_ rfl
     with_reducible rfl
   refine g_tk 31 (v := ?_) HG HQP (fun w hS => ?_) ?_
   rotate_left 1
   · go_simp
     try simp only [heq, d1, d2, l1, l4]
     refine gives_mk ?_ rfl
     with_reducible rfl
   refine g_tk 32 (v := ?_) HG HQP (fun w hS => ?_) ?_
   rotate_left 1
   · go_simp
     try simp only [heq, d1, d2, l1, l4]
     refine gives_mk ?_ rfl
     with_reducible rfl
   refine g_tk 33 (v := ?_) HG HQP (fun w hS => ?_) ?_
   rotate_left 1
   · go_simp
     try simp only [heq, d1, d2, l1, l4]
     refine gives_mk ?_ rfl
     with_reducible rfl
   refine g_tk 34 (v := ?_) HG HQP (fun w hS => ?_) ?_
   rotate_left 1
   · go_simp
     try simp only [heq, d1, d2, l1, l4]
     refine gives_mk ?_ rfl
     with_reducible rfl
   refine g_tk 35 (v := ?_) HG HQP (fun w hS => ?_) ?_
   rotate_left 1
   · go_simp
     try simp only [heq, d1, d2, l1, l4]
     refine gives_mk ?_ rfl
     with_reducible rfl
   refine g_tk 36 (v := ?_) HG HQP (fun w hS => ?_) ?_
   rotate_left 1
   · go_simp
     try simp only [heq, d1, d2, l1, l4]
     refine gives_mk ?_ rfl
     with_reducible rfl
   refine g_tk 37 (v := ?_) HG HQP (fun w hS => ?_) ?_
   rotate_left 1
   · go_simp
     try simp only [heq, d1, d2, l1, l4]
     refine gives_mk ?_ rfl
     with_reducible rfl
   refine g_tk 38 (v := ?_) HG HQP (fun w hS => ?_) ?_
   rotate_left 1
   · go_simp
     try simp only [heq, d1, d2, l1, l4]
     refine gives_mk ?_ rfl
     with_reducible rfl
   refine g_tk 39 (v := ?_) HG HQP (fun w hS => ?_) ?_
   rotate_left 1
   · go_simp
     try simp only [heq, d1, d2, l1, l4]
     refine gives_mk ?_ rfl
     with_reducible rfl
   refine g_tk 40 (v := ?_) HG HQP (fun w hS => ?_) ?_
   rotate_left 1
   · go_simp
     try simp only [heq, d1, d2, l1, l4]
     refine gives_mk ?_ rfl
     with_reducible rfl
   refine g_tk 41 (v := ?_) HG HQP (fun w hS => ?_) ?_
   rotate_left 1
   · go_simp
     try simp only [heq, d1, d2, l1, l4]
     refine gives_mk ?_ rfl
     with_reducible rfl
   refine g_last (k := 42) (by kernel_rfl) (by kernel_rfl) (by kernel_rfl) rfl (by kernel_rfl) (fun w hS R hR1 hR2 => ?_)
   have hq9 := HQE.out
   subst hq9
   have HR1 := Lib.hid hR1
   have HR2 := Lib.hid hR2
   clear hR1 hR2 HG HQP HQE
   go_simp
   refine entersM_call ((need_yes w).mono ?_)
   rintro e' w' ⟨rfl, rfl⟩
   have HXS := Lib.hid hS
   clear hS
   refine HR1.out _ _ ?_
   go_simp
   go_wp2
   first | go_end0 | skip
   exact ⟨.inl ⟨rfl, rfl⟩, HXS.out⟩
 · have d3 : decide ([qa, qb] = [0, ls]) = false := decide_eq_false k3
   have K3 : Hid (¬ (qa, qb) = (0, ls)) := Lib.hid (fun h => k3 (by injection h with h1 h2; rw [h1, h2]))
   clear k3
   rw [d3] at heq
   clear d3
   have HF : Hid (r = false) := Lib.hid (by rw [← HR.out, HQ.out]; exact decide_eq_false K3.out)
   obtain rfl := HF.out
   refine region_gq 42 (fun v => Ext (w) v) (fun v => Ext (w) v) (by kernel_rfl) (Ext.refl _).drew (fun _ _ d _ _ h => by cases d <;> exact h) ?_
   intro Q9 HQE HQP
   have HG : ∀ (l : Array Bool) v, Ext (w) v → l.getD 42 false = false → Ext (w) v := fun _ _ h _ => h
   refine g_tk 0 (v := ?_) HG HQP (fun w hS => ?_) ?_
   rotate_left 1
   · go_simp
     try simp only [heq, d1, d2, l1, l4]
     refine gives_mk ?_ rfl
     with_reducible rfl
   refine g_tk 1 (v := ?_) HG HQP (fun w hS => ?_) ?_
   rotate_left 1
   · go_simp
     try simp only [heq, d1, d2, l1, l4]
     refine gives_mk ?_ rfl
     with_reducible rfl
   refine g_tk 2 (v := ?_) HG HQP (fun w hS => ?_) ?_
   rotate_left 1
   · go_simp
     try simp only [heq, d1, d2, l1, l4]
     refine gives_mk ?_ rfl
     with_reducible rfl
   refine g_tk 3 (v := ?_) HG HQP (fun w hS => ?_) ?_
   rotate_left 1
   · go_simp
     try simp only [heq, d1, d2, l1, l4]
     refine gives_mk ?_ rfl
     with_reducible rfl
   refine g_tk 4 (v := ?_) HG HQP (fun w hS => ?_) ?_
   rotate_left 1
   · go_simp
     try simp only [heq, d1, d2, l1, l4]
     refine gives_mk ?_ rfl
     with_reducible rfl
   refine g_tk 5 (v := ?_) HG HQP (fun w hS => ?_) ?_
   rotate_left 1
   · go_simp
     try simp only [heq, d1, d2, l1, l4]
     refine gives_mk ?_ rfl
     with_reducible rfl
   refine g_tk 6 (v := ?_) HG HQP (fun w hS => ?_) ?_
   rotate_left 1
   · go_simp
     try simp only [heq, d1, d2, l1, l4]
     refine gives_mk ?_ rfl
     with_reducible rfl
   refine g_tk 7 (v := ?_) HG HQP (fun w hS => ?_) ?_
   rotate_left 1
   · go_simp
     try simp only [heq, d1, d2, l1, l4]
     refine gives_mk ?_ rfl
     with_reducible rfl
   refine g_tk 8 (v := ?_) HG HQP (fun w hS => ?_) ?_
   rotate_left 1
   · go_simp
     try simp only [heq, d1, d2, l1, l4]
     refine gives_mk ?_ rfl
     with_reducible rfl
   refine g_tk 9 (v := ?_) HG HQP (fun w hS => ?_) ?_
   rotate_left 1
   · go_simp
     try simp only [heq, d1, d2, l1, l4]
     refine gives_mk ?_ rfl
     with_reducible rfl
   refine g_tk 10 (v := ?_) HG HQP (fun w hS => ?_) ?_
   rotate_left 1
   · go_simp
     try simp only [heq, d1, d2, l1, l4]
     refine gives_mk ?_ rfl
     with_reducible rfl
   refine g_tk 11 (v := ?_) HG HQP (fun w hS => ?_) ?_
   rotate_left 1
   · go_simp
     try simp only [heq, d1, d2, l1, l4]
     refine gives_mk ?_ rfl
     with_reducible rfl
   refine g_tk 12 (v := ?_) HG HQP (fun w hS => ?_) ?_
   rotate_left 1
   · go_simp
     try simp only [heq, d1, d2, l1, l4]
     refine gives_mk ?_ rfl
     with_reducible rfl
   refine g_tk 13 (v := ?_) HG HQP (fun w hS => ?_) ?_
   rotate_left 1
   · go_simp
     try simp only [heq, d1, d2, l1, l4]
     refine gives_mk ?_ rfl
     with_reducible rfl
   refine g_tk 14 (v := ?_) HG HQP (fun w hS => ?_) ?_
   rotate_left 1
   · go_simp
     try simp only [heq, d1, d2, l1, l4]
     refine gives_mk ?_ rfl
     with_reducible rfl
   refine g_tk 15 (v := ?_) HG HQP (fun w hS => ?_) ?_
   rotate_left 1
   · go_simp
     try simp only [heq, d1, d2, l1, l4]
     refine gives_mk ?_ rfl
     with_reducible rfl
   refine g_tk 16 (v := ?_) HG HQP (fun w hS => ?_) ?_
   rotate_left 1
   · go_simp
     try simp only [heq, d1, d2, l1, l4]
     refine gives_mk ?_ rfl
     with_reducible rfl
   refine g_tk 17 (v := ?_) HG HQP (fun w hS => ?_) ?_
   rotate_left 1
   · go_simp
     try simp only [heq, d1, d2, l1, l4]
     refine gives_mk ?_ rfl
     with_reducible rfl
   refine g_tk 18 (v := ?_) HG HQP (fun w hS => ?_) ?_
   rotate_left 1
   · go_simp
     try simp only [heq, d1, d2, l1, l4]
     refine gives_mk ?_ rfl
     with_reducible rfl
   refine g_tk 19 (v := ?_) HG HQP (fun w hS => ?_) ?_
   rotate_left 1
   · go_simp
     try simp only [heq, d1, d2, l1, l4]
     refine gives_mk ?_ rfl
     with_reducible rfl
   refine g_tk 20 (v := ?_) HG HQP (fun w hS => ?_) ?_
   rotate_left 1
   · go_simp
     try simp only [heq, d1, d2, l1, l4]
     refine gives_mk ?_ rfl
     with_reducible rfl
   refine g_tk 21 (v := ?_) HG HQP (fun w hS => ?_) ?_
   rotate_left 1
   · go_simp
     try simp only [heq, d1, d2, l1, l4]
     refine gives_mk ?_ rfl
     with_reducible rfl
   refine g_tk 22 (v := ?_) HG HQP (fun w hS => ?_) ?_
   rotate_left 1
   · go_simp
     try simp only [heq, d1, d2, l1, l4]
     refine gives_mk ?_ rfl
     with_reducible rfl
   refine g_tk 23 (v := ?_) HG HQP (fun w hS => ?_) ?_
   rotate_left 1
   · go_simp
     try simp only [heq, d1, d2, l1, l4]
     refine gives_mk ?_ rfl
     with_reducible rfl
   refine g_tk 24 (v := ?_) HG HQP (fun w hS => ?_) ?_
   rotate_left 1
   · go_simp
     try simp only [heq, d1, d2, l1, l4]
     refine gives_mk ?_ rfl
     with_reducible rfl
   refine g_tk 25 (v := ?_) HG HQP (fun w hS => ?_) ?_
   rotate_left 1
   · go_simp
     try simp only [heq, d1, d2, l1, l4]
     refine gives_mk ?_ rfl
     with_reducible rfl
   refine g_tk 26 (v := ?_) HG HQP (fun w hS => ?_) ?_
   rotate_left 1
   · go_simp
     try simp only [heq, d1, d2, l1, l4]
     refine gives_mk ?_ rfl
     with_reducible rfl
   refine g_tk 27 (v := ?_) HG HQP (fun w hS => ?_) ?_
   rotate_left 1
   · go_simp
     try simp only [heq, d1, d2, l1, l4]
     refine gives_mk ?_ rfl
     with_reducible rfl
   refine g_tk 28 (v := ?_) HG HQP (fun w hS => ?_) ?_
   rotate_left 1
   · go_simp
     try simp only [heq, d1, d2, l1, l4]
     refine gives_mk ?_ rfl
     with_reducible rfl
   refine g_tk 29 (v := ?_) HG HQP (fun w hS => ?_) ?_
   rotate_left 1
   · go_simp
     try simp only [heq, d1, d2, l1, l4]
     refine gives_mk ?_ rfl
     with_reducible rfl
   refine g_tk 30 (v := ?_) HG HQP (fun w hS => ?_) ?_
   rotate_left 1
   · go_simp
     try simp only [heq, d1, d2, l1, l4]
     refine gives_mk ?_ rfl
     with_reducible rfl
   refine g_tk 31 (v := ?_) HG HQP (fun w hS => ?_) ?_
   rotate_left 1
   · go_simp
     try simp only [heq, d1, d2, l1, l4]
     refine gives_mk ?_ rfl
     with_reducible rfl
   refine g_tk 32 (v := ?_) HG HQP (fun w hS => ?_) ?_
   rotate_left 1
   · go_simp
     try simp only [heq, d1, d2, l1, l4]
     refine gives_mk ?_ rfl
     with_reducible rfl
   refine g_tk 33 (v := ?_) HG HQP (fun w hS => ?_) ?_
   rotate_left 1
   · go_simp
     try simp only [heq, d1, d2, l1, l4]
     refine gives_mk ?_ rfl
     with_reducible rfl
   refine g_tk 34 (v := ?_) HG HQP (fun w hS => ?_) ?_
   rotate_left 1
   · go_simp
     try simp only [heq, d1, d2, l1, l4]
     refine gives_mk ?_ rfl
     with_reducible rfl
   refine g_tk 35 (v := ?_) HG HQP (fun w hS => ?_) ?_
   rotate_left 1
   · go_simp
     try simp only [heq, d1, d2, l1, l4]
     refine gives_mk ?_ rfl
     with_reducible rfl
   refine g_tk 36 (v := ?_) HG HQP (fun w hS => ?_) ?_
   rotate_left 1
   · go_simp
     try simp only [heq, d1, d2, l1, l4]
     refine gives_mk ?_ rfl
     with_reducible rfl
   refine g_tk 37 (v := ?_) HG HQP (fun w hS => ?_) ?_
   rotate_left 1
   · go_simp
     try simp only [heq, d1, d2, l1, l4]
     refine gives_mk ?_ rfl
     with_reducible rfl
   refine g_tk 38 (v := ?_) HG HQP (fun w hS => ?_) ?_
   rotate_left 1
   · go_simp
     try simp only [heq, d1, d2, l1, l4]
     refine gives_mk ?_ rfl
     with_reducible rfl
   refine g_tk 39 (v := ?_) HG HQP (fun w hS => ?_) ?_
   rotate_left 1
   · go_simp
     try simp only [heq, d1, d2, l1, l4]
     refine gives_mk ?_ rfl
     with_reducible rfl
   refine g_tk 40 (v := ?_) HG HQP (fun w hS => ?_) ?_
   rotate_left 1
   · go_simp
     try simp only [heq, d1, d2, l1, l4]
     refine gives_mk ?_ rfl
     with_reducible rfl
   refine g_tk 41 (v := ?_) HG HQP (fun w hS => ?_) ?_
   rotate_left 1
   · go_simp
     try simp only [heq, d1, d2, l1, l4]
     refine gives_mk ?_ rfl
     with_reducible rfl
   refine g_last (k := 42) (by kernel_rfl) (by kernel_rfl) (by kernel_rfl) rfl (by kernel_rfl) (fun w hS R hR1 hR2 => ?_)
   have hq9 := HQE.out
   subst hq9
   have HR1 := Lib.hid hR1
   have HR2 := Lib.hid hR2
   clear hR1 hR2 HG HQP HQE
   go_simp
   refine entersM_call ((need_no w).mono ?_)
   rintro e' w' ⟨rfl, rfl⟩
   refine HR2.out _ _ ?_
   exact ⟨rfl, .inr ⟨rfl, rfl⟩, hS⟩
end Go.Proofs.YtohncgikdlbogaaDoor
