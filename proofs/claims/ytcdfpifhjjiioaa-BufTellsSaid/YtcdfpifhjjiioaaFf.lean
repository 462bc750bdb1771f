/-
  The contract of buf.Seal, where all but the batch is right, and where all is.
-/
import Derived.Test.YtcdfpifhjjiioaaFe
set_option linter.unusedVariables false
set_option linter.unusedSimpArgs false
namespace Go.Proofs.Ytcdfpifhjjiioaa
open Go.RowKit

theorem su4_at {v : World} {x : Nat} {c0 c1 c2 c3 : Value} {t : TypeId} (h : v.heap[x]? = some (.cells #[c0, c1, c2, c3] t (0, 0))) (d0 d1 d2 d3 : Value) :
    ((((v.setCell ⟨x, 0, none⟩ d0).setCell ⟨x, 1, none⟩ d1).setCell ⟨x, 2, none⟩ d2).setCell ⟨x, 3, none⟩ d3).heap[x]? = some (.cells #[d0, d1, d2, d3] t (0, 0)) :=
  blk_set (blk_set (blk_set (blk_set h 0 d0) 1 d1) 2 d2) 3 d3
theorem su4_off {v : World} {x y : Nat} {o : Obj} (h : v.heap[y]? = some o) (hne : x ≠ y) (d0 d1 d2 d3 : Value) :
    ((((v.setCell ⟨x, 0, none⟩ d0).setCell ⟨x, 1, none⟩ d1).setCell ⟨x, 2, none⟩ d2).setCell ⟨x, 3, none⟩ d3).heap[y]? = some o :=
  blk_set_other (blk_set_other (blk_set_other (blk_set_other h _ hne _) _ hne _) _ hne _) _ hne _
theorem su4_ext {W v : World} {x : Nat} (h : Ext W v) (hx : W.heap.size ≤ x) (d0 d1 d2 d3 : Value) :
    Ext W ((((v.setCell ⟨x, 0, none⟩ d0).setCell ⟨x, 1, none⟩ d1).setCell ⟨x, 2, none⟩ d2).setCell ⟨x, 3, none⟩ d3) :=
  (((h.setCell hx _).setCell hx _).setCell hx _).setCell hx _
set_option maxRecDepth 100000 in
set_option maxHeartbeats 1000000 in
theorem bseal_bad (m ba la : Int) (bo : ByteArray) (g m' : Int) (hm' : IntKind.i64.wrap (m + 1) = m') (w : World) (hb : ¬ bo.size = 0) (h1 : 1 ≤ m) (hm : Bt.may ⟨g, m', ba, bo⟩ = false) :
    Calls Try.prog 12 #[.agg #[.int .i64 m, .int .i64 ba, .int .i64 la, .string bo], .int .i64 g] w (BSeal (Bt.zero, Bu.zero, false) w) := by
  have hb1 := (Ev.str_nonempty hb).1
  have hb2 := (Ev.str_nonempty hb).2
  have HM := Lib.hid hm
  clear hb hm
  go_enter Try.func12, Try.ntmps12
  go_wp2_with fail
  refine (bmay_eq g m' ba bo false HM.out _).mono ?_
  rintro r w1 ⟨rfl, hx1⟩
  have hzb := hx1.blk (four_new w (.cells #[.int .i64 m, .int .i64 ba, .int .i64 la, .string bo] 23) (.cells #[.int .i64 0, .int .i64 0, .int .i64 0, .string ⟨#[]⟩] 35) ((.cells #[.int .i64 0, .int .i64 0, .int .i64 0, .string ⟨#[]⟩] 23)) (.cells #[.int .i64 g, .int .i64 m', .int .i64 ba, .string bo] 35)).2.1
  have hzu := hx1.blk (four_new w (.cells #[.int .i64 m, .int .i64 ba, .int .i64 la, .string bo] 23) (.cells #[.int .i64 0, .int .i64 0, .int .i64 0, .string ⟨#[]⟩] 35) ((.cells #[.int .i64 0, .int .i64 0, .int .i64 0, .string ⟨#[]⟩] 23)) (.cells #[.int .i64 g, .int .i64 m', .int .i64 ba, .string bo] 35)).2.2.1
  have HX1 : Hid (Ext w w1) := Lib.hid (((((Ext.refl w).alloc _).alloc _).alloc _).alloc _ |>.trans hx1)
  clear hx1
  have z0 := blk_cell hzb 0 (.int .i64 0) rfl
  have z1 := blk_cell hzb 1 (.int .i64 0) rfl
  have z2 := blk_cell hzb 2 (.int .i64 0) rfl
  have z3 := blk_cell hzb 3 (.string ⟨#[]⟩) rfl
  have y0 := frozen_of_row _ _ 0 _ _ hzb
  have y1 := frozen_of_row _ _ 1 _ _ hzb
  have y2 := frozen_of_row _ _ 2 _ _ hzb
  have y3 := frozen_of_row _ _ 3 _ _ hzb
  have x0 := blk_cell hzu 0 (.int .i64 0) rfl
  have x1 := blk_cell hzu 1 (.int .i64 0) rfl
  have x2 := blk_cell hzu 2 (.int .i64 0) rfl
  have x3 := blk_cell hzu 3 (.string ⟨#[]⟩) rfl
  have v0 := frozen_of_row _ _ 0 _ _ hzu
  have v1 := frozen_of_row _ _ 1 _ _ hzu
  have v2 := frozen_of_row _ _ 2 _ _ hzu
  have v3 := frozen_of_row _ _ 3 _ _ hzu
  have HZB := Lib.hid hzb
  have HZU := Lib.hid hzu
  clear hzb hzu
  go_wp2
  clear z0 z1 z2 z3 y0 y1 y2 y3 x0 x1 x2 x3 v0 v1 v2 v3
  have hB := su4_off (su4_at HZB.out (.int .i64 0) (.int .i64 0) (.int .i64 0) (.string ⟨#[]⟩)) (x := w.heap.size + 1 + 1) (by omega) (.int .i64 0) (.int .i64 0) (.int .i64 0) (.string ⟨#[]⟩)
  have hU := su4_at (su4_off HZU.out (x := w.heap.size + 1) (by omega) (.int .i64 0) (.int .i64 0) (.int .i64 0) (.string ⟨#[]⟩)) (.int .i64 0) (.int .i64 0) (.int .i64 0) (.string ⟨#[]⟩)
  have t0 := blk_cell hB 0 (.int .i64 0) rfl
  have t1 := blk_cell hB 1 (.int .i64 0) rfl
  have t2 := blk_cell hB 2 (.int .i64 0) rfl
  have t3 := blk_cell hB 3 (.string ⟨#[]⟩) rfl
  have u0 := blk_cell hU 0 (.int .i64 0) rfl
  have u1 := blk_cell hU 1 (.int .i64 0) rfl
  have u2 := blk_cell hU 2 (.int .i64 0) rfl
  have u3 := blk_cell hU 3 (.string ⟨#[]⟩) rfl
  refine bodyPost_ret (v := .tuple #[(.agg #[.int .i64 0, .int .i64 0, .int .i64 0, .string ⟨#[]⟩]), (.agg #[.int .i64 0, .int .i64 0, .int .i64 0, .string ⟨#[]⟩]), .bool false]) (by simp [results, Try.results12, go_sem, t0, t1, t2, t3, u0, u1, u2, u3]) rfl ⟨rfl, ?_⟩
  exact su4_ext (su4_ext HX1.out (by omega) _ _ _ _) (by omega) _ _ _ _
def SC (w : World) (cb co : Array Value) (v : World) : Prop := v.heap[w.heap.size]? = some (.cells cb 23 (0, 0)) ∧ v.heap[w.heap.size + 1 + 1 + 1]? = some (.cells co 35 (0, 0))
def SP (w : World) (cb co ca cu : Array Value) (_ : Value) (v : World) : Prop := (v.heap[w.heap.size + 1]? = some (.cells ca 35 (0, 0)) ∧ v.heap[w.heap.size + 1 + 1]? = some (.cells cu 23 (0, 0)) ∧ Ext w v) ∧ SC w cb co v
set_option maxRecDepth 100000 in
set_option maxHeartbeats 1000000 in
theorem bseal_ok (m ba la : Int) (bo : ByteArray) (g m' : Int) (hm' : IntKind.i64.wrap (m + 1) = m') (w : World) (hb : ¬ bo.size = 0) (h1 : 1 ≤ m) (hm : Bt.may ⟨g, m', ba, bo⟩ = true) :
    Calls Try.prog 12 #[.agg #[.int .i64 m, .int .i64 ba, .int .i64 la, .string bo], .int .i64 g] w (BSeal (⟨g, m', ba, bo⟩, ⟨m, 0, 0, ⟨#[]⟩⟩, true) w) := by
  have hb1 := (Ev.str_nonempty hb).1
  have hb2 := (Ev.str_nonempty hb).2
  have HM := Lib.hid hm
  clear hb hm
  go_enter Try.func12, Try.ntmps12
  go_wp2_with fail
  refine (bmay_eq g m' ba bo true HM.out _).mono ?_
  rintro r w1 ⟨rfl, hx1⟩
  have HS : Hid (SP w #[.int .i64 m, .int .i64 ba, .int .i64 la, .string bo] #[.int .i64 g, .int .i64 m', .int .i64 ba, .string bo] #[.int .i64 0, .int .i64 0, .int .i64 0, .string ⟨#[]⟩] #[.int .i64 0, .int .i64 0, .int .i64 0, .string ⟨#[]⟩] undef w1.drew) := Lib.hid (by
    obtain ⟨f1, f2, f3, f4⟩ := four_new w (.cells #[.int .i64 m, .int .i64 ba, .int .i64 la, .string bo] 23) (.cells #[.int .i64 0, .int .i64 0, .int .i64 0, .string ⟨#[]⟩] 35) ((.cells #[.int .i64 0, .int .i64 0, .int .i64 0, .string ⟨#[]⟩] 23)) (.cells #[.int .i64 g, .int .i64 m', .int .i64 ba, .string bo] 35)
    exact ⟨⟨hx1.blk f2, hx1.blk f3, ((((((Ext.refl w).alloc _).alloc _).alloc _).alloc _).trans hx1).drew⟩, hx1.blk f1, hx1.blk f4⟩)
  clear hx1
  go_wp2
  generalize hq : w1.drew = w5 at *
  refine region_g 99 (SC w #[.int .i64 m, .int .i64 ba, .int .i64 la, .string bo] #[.int .i64 g, .int .i64 m', .int .i64 ba, .string bo]) (fun v => v = w5) (by kernel_rfl) hq ?_
  clear hq
  have HG : ∀ (l : Array Bool) v, v = w5 → l.getD 99 false = false → SC w #[.int .i64 m, .int .i64 ba, .int .i64 la, .string bo] #[.int .i64 g, .int .i64 m', .int .i64 ba, .string bo] v := fun _ v h _ => h ▸ HS.out.2
  have K0 : ∀ v, SC w #[.int .i64 m, .int .i64 ba, .int .i64 la, .string bo] #[.int .i64 g, .int .i64 m', .int .i64 ba, .string bo] v → v.cell? ⟨w.heap.size, 0, none⟩ = some (.int .i64 m) := fun v hv => blk_cell hv.1 0 _ rfl
  have K1 : ∀ v, SC w #[.int .i64 m, .int .i64 ba, .int .i64 la, .string bo] #[.int .i64 g, .int .i64 m', .int .i64 ba, .string bo] v → v.cell? ⟨w.heap.size + 1 + 1 + 1, 0, none⟩ = some (.int .i64 g) := fun v hv => blk_cell hv.2 0 _ rfl
  have K2 : ∀ v, SC w #[.int .i64 m, .int .i64 ba, .int .i64 la, .string bo] #[.int .i64 g, .int .i64 m', .int .i64 ba, .string bo] v → v.cell? ⟨w.heap.size + 1 + 1 + 1, 1, none⟩ = some (.int .i64 m') := fun v hv => blk_cell hv.2 1 _ rfl
  have K3 : ∀ v, SC w #[.int .i64 m, .int .i64 ba, .int .i64 la, .string bo] #[.int .i64 g, .int .i64 m', .int .i64 ba, .string bo] v → v.cell? ⟨w.heap.size + 1 + 1 + 1, 2, none⟩ = some (.int .i64 ba) := fun v hv => blk_cell hv.2 2 _ rfl
  have K4 : ∀ v, SC w #[.int .i64 m, .int .i64 ba, .int .i64 la, .string bo] #[.int .i64 g, .int .i64 m', .int .i64 ba, .string bo] v → v.cell? ⟨w.heap.size + 1 + 1 + 1, 3, none⟩ = some (.string bo) := fun v hv => blk_cell hv.2 3 _ rfl
  refine g_take (HG _) (i := 0) (v := ?_) rfl (by kernel_rfl) (by kernel_rfl) (by kernel_rfl) (by kernel_rfl) (by kernel_rfl) (fun _ _ _ h => h) (Still.yes (by kernel_rfl) fun w hS => ?_) ?_
  rotate_left 1
  · skip
    go_simp
    refine gives_mk ?_ rfl
    with_reducible rfl
  refine g_take (HG _) (i := 1) (v := ?_) rfl (by kernel_rfl) (by kernel_rfl) (by kernel_rfl) (by kernel_rfl) (by kernel_rfl) (fun _ _ _ h => h) (Still.yes (by kernel_rfl) fun w hS => ?_) ?_
  rotate_left 1
  · skip
    go_simp
    refine gives_mk ?_ rfl
    with_reducible rfl
  refine g_take (HG _) (i := 2) (v := ?_) rfl (by kernel_rfl) (by kernel_rfl) (by kernel_rfl) (by kernel_rfl) (by kernel_rfl) (fun _ _ _ h => h) (Still.yes (by kernel_rfl) fun w hS => ?_) ?_
  rotate_left 1
  · skip
    go_simp
    refine gives_mk ?_ rfl
    with_reducible rfl
  refine g_take (HG _) (i := 3) (v := ?_) rfl (by kernel_rfl) (by kernel_rfl) (by kernel_rfl) (by kernel_rfl) (by kernel_rfl) (fun _ _ _ h => h) (Still.yes (by kernel_rfl) fun w hS => ?_) ?_
  rotate_left 1
  · skip
    go_simp
    refine gives_mk ?_ rfl
    with_reducible rfl
  refine g_turn (SP w #[.int .i64 m, .int .i64 ba, .int .i64 la, .string bo] #[.int .i64 g, .int .i64 m', .int .i64 ba, .string bo] #[.int .i64 g, .int .i64 m', .int .i64 ba, .string bo] #[.int .i64 0, .int .i64 0, .int .i64 0, .string ⟨#[]⟩]) (k := 4) (by kernel_rfl) (fun _ _ h _ => h.2) (fun v hv => ?_)
  refine at_skip rfl (by kernel_rfl) ?_ ?_
  · subst hv
    have hzb := HS.out.1.1
    have hzu := HS.out.1.2.1
    clear K0 K1 K2 K3 K4 HG
    have z0 := blk_cell hzb 0 (.int .i64 0) rfl
    have z1 := blk_cell hzb 1 (.int .i64 0) rfl
    have z2 := blk_cell hzb 2 (.int .i64 0) rfl
    have z3 := blk_cell hzb 3 (.string ⟨#[]⟩) rfl
    have y0 := frozen_of_row _ _ 0 _ _ hzb
    have y1 := frozen_of_row _ _ 1 _ _ hzb
    have y2 := frozen_of_row _ _ 2 _ _ hzb
    have y3 := frozen_of_row _ _ 3 _ _ hzb
    have x0 := blk_cell hzu 0 (.int .i64 0) rfl
    have x1 := blk_cell hzu 1 (.int .i64 0) rfl
    have x2 := blk_cell hzu 2 (.int .i64 0) rfl
    have x3 := blk_cell hzu 3 (.string ⟨#[]⟩) rfl
    have v0 := frozen_of_row _ _ 0 _ _ hzu
    have v1 := frozen_of_row _ _ 1 _ _ hzu
    have v2 := frozen_of_row _ _ 2 _ _ hzu
    have v3 := frozen_of_row _ _ 3 _ _ hzu
    have HZB := Lib.hid hzb
    have HZU := Lib.hid hzu
    clear hzb hzu
    go_simp
    first | exact ⟨⟨su4_at HZB.out _ _ _ _, su4_off HZU.out (by omega) _ _ _ _, su4_ext HS.out.1.2.2 (by omega) _ _ _ _⟩, su4_off HS.out.2.1 (by omega) _ _ _ _, su4_off HS.out.2.2 (by omega) _ _ _ _⟩ | exact ⟨_, rfl, ⟨su4_at HZB.out _ _ _ _, su4_off HZU.out (by omega) _ _ _ _, su4_ext HS.out.1.2.2 (by omega) _ _ _ _⟩, su4_off HS.out.2.1 (by omega) _ _ _ _, su4_off HS.out.2.2 (by omega) _ _ _ _⟩
  refine g_turn (SP w #[.int .i64 m, .int .i64 ba, .int .i64 la, .string bo] #[.int .i64 g, .int .i64 m', .int .i64 ba, .string bo] #[.int .i64 g, .int .i64 m', .int .i64 ba, .string bo] #[.int .i64 m, .int .i64 0, .int .i64 0, .string ⟨#[]⟩]) (k := 5) (by kernel_rfl) (fun _ _ h _ => h.2) (fun v hv => ?_)
  refine at_skip rfl (by kernel_rfl) ?_ ?_
  · have HV := Lib.hid hv
    have hzu := hv.1.2.1
    clear hv K0 K1 K2 K3 K4 HG
    have x0 := blk_cell hzu 0 (.int .i64 0) rfl
    have x1 := blk_cell hzu 1 (.int .i64 0) rfl
    have x2 := blk_cell hzu 2 (.int .i64 0) rfl
    have x3 := blk_cell hzu 3 (.string ⟨#[]⟩) rfl
    have v0 := frozen_of_row _ _ 0 _ _ hzu
    have v1 := frozen_of_row _ _ 1 _ _ hzu
    have v2 := frozen_of_row _ _ 2 _ _ hzu
    have v3 := frozen_of_row _ _ 3 _ _ hzu
    clear hzu
    go_simp
    first | exact ⟨⟨su4_off HV.out.1.1 (by omega) _ _ _ _, su4_at HV.out.1.2.1 _ _ _ _, su4_ext HV.out.1.2.2 (by omega) _ _ _ _⟩, su4_off HV.out.2.1 (by omega) _ _ _ _, su4_off HV.out.2.2 (by omega) _ _ _ _⟩ | exact ⟨_, rfl, ⟨su4_off HV.out.1.1 (by omega) _ _ _ _, su4_at HV.out.1.2.1 _ _ _ _, su4_ext HV.out.1.2.2 (by omega) _ _ _ _⟩, su4_off HV.out.2.1 (by omega) _ _ _ _, su4_off HV.out.2.2 (by omega) _ _ _ _⟩
  replace HG : ∀ (l : Array Bool) v, SP w #[.int .i64 m, .int .i64 ba, .int .i64 la, .string bo] #[.int .i64 g, .int .i64 m', .int .i64 ba, .string bo] #[.int .i64 g, .int .i64 m', .int .i64 ba, .string bo] #[.int .i64 m, .int .i64 0, .int .i64 0, .string ⟨#[]⟩] undef v → l.getD 99 false = false → SC w #[.int .i64 m, .int .i64 ba, .int .i64 la, .string bo] #[.int .i64 g, .int .i64 m', .int .i64 ba, .string bo] v := fun _ _ h _ => h.2
  refine g_free (HG _) (i := 6) (v := ?_) rfl (by kernel_rfl) (by kernel_rfl) (by kernel_rfl) (by kernel_rfl) (fun _ _ _ h => h) (Still.yes (by kernel_rfl) fun w hS => ?_) ?_
  rotate_left 1
  · skip
    go_simp
    refine gives_mk ?_ rfl
    with_reducible rfl
  refine g_done (by kernel_rfl) ?_ _
  intro w6 hw6
  clear K0 K1 K2 K3 K4 HG
  obtain ⟨⟨hB, hU, hx6⟩, _⟩ := hw6
  have t0 := blk_cell hB 0 (.int .i64 g) rfl
  have t1 := blk_cell hB 1 (.int .i64 m') rfl
  have t2 := blk_cell hB 2 (.int .i64 ba) rfl
  have t3 := blk_cell hB 3 (.string bo) rfl
  have u0 := blk_cell hU 0 (.int .i64 m) rfl
  have u1 := blk_cell hU 1 (.int .i64 0) rfl
  have u2 := blk_cell hU 2 (.int .i64 0) rfl
  have u3 := blk_cell hU 3 (.string ⟨#[]⟩) rfl
  clear hB hU
  go_simp
  go_wp2
  refine bodyPost_ret (v := .tuple #[.agg #[.int .i64 g, .int .i64 m', .int .i64 ba, .string bo], .agg #[.int .i64 m, .int .i64 0, .int .i64 0, .string ⟨#[]⟩], .bool true]) (by simp [results, Try.results12, go_sem, t0, t1, t2, t3, u0, u1, u2, u3]) rfl ⟨rfl, hx6⟩

end Go.Proofs.Ytcdfpifhjjiioaa
