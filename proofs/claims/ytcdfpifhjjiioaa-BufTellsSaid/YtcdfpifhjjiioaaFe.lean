/-
  The contract of buf.Seal.
-/
import Derived.Test.YtcdfpifhjjiioaaFb
import Derived.Test.YtcdfpifhjjiioaaRq
set_option linter.unusedVariables false
set_option linter.unusedSimpArgs false
namespace Go.Proofs.Ytcdfpifhjjiioaa
open Go.RowKit

def BSeal (p : Bt × Bu × Bool) (w : World) (r : Ending) (w' : World) : Prop := r = .returned (.tuple #[.agg #[.int .i64 p.1.gen, .int .i64 p.1.stream, .int .i64 p.1.base, .string p.1.body], p.2.1.val, .bool p.2.2]) ∧ Ext w w'
theorem four_new (w : World) (o1 o2 o3 o4 : Obj) : ((((w.alloc o1).alloc o2).alloc o3).alloc o4).heap[w.heap.size]? = some o1 ∧ ((((w.alloc o1).alloc o2).alloc o3).alloc o4).heap[w.heap.size + 1]? = some o2 ∧ ((((w.alloc o1).alloc o2).alloc o3).alloc o4).heap[w.heap.size + 1 + 1]? = some o3 ∧ ((((w.alloc o1).alloc o2).alloc o3).alloc o4).heap[w.heap.size + 1 + 1 + 1]? = some o4 := by
  obtain ⟨h1, h2, h3⟩ := three_new w o1 o2 o3
  refine ⟨blk_alloc h1 _, blk_alloc h2 _, blk_alloc h3 _, ?_⟩
  have := blk_new (((w.alloc o1).alloc o2).alloc o3) o4
  rwa [World.size_alloc, World.size_alloc, World.size_alloc] at this
set_option maxRecDepth 100000 in
set_option maxHeartbeats 1000000 in
theorem bseal_out (m ba la : Int) (bo : ByteArray) (g m' : Int) (hm' : IntKind.i64.wrap (m + 1) = m') (w : World) (ho : bo.size = 0 ∨ (¬ bo.size = 0 ∧ m < 1)) :
    Calls Try.prog 12 #[.agg #[.int .i64 m, .int .i64 ba, .int .i64 la, .string bo], .int .i64 g] w (BSeal (Bt.zero, Bu.zero, false) w) := by
  have hzb := (four_new w (.cells #[.int .i64 m, .int .i64 ba, .int .i64 la, .string bo] 23) (.cells #[.int .i64 0, .int .i64 0, .int .i64 0, .string ⟨#[]⟩] 35) ((.cells #[.int .i64 0, .int .i64 0, .int .i64 0, .string ⟨#[]⟩] 23)) (.cells #[.int .i64 g, .int .i64 m', .int .i64 ba, .string bo] 35)).2.1
  have hzu := (four_new w (.cells #[.int .i64 m, .int .i64 ba, .int .i64 la, .string bo] 23) (.cells #[.int .i64 0, .int .i64 0, .int .i64 0, .string ⟨#[]⟩] 35) ((.cells #[.int .i64 0, .int .i64 0, .int .i64 0, .string ⟨#[]⟩] 23)) (.cells #[.int .i64 g, .int .i64 m', .int .i64 ba, .string bo] 35)).2.2.1
  have z0 := blk_cell hzb 0 (.int .i64 0) rfl
  have z1 := blk_cell hzb 1 (.int .i64 0) rfl
  have z2 := blk_cell hzb 2 (.int .i64 0) rfl
  have z3 := blk_cell hzb 3 (.string ⟨#[]⟩) rfl
  have y0 := frozen_of_row _ _ 0 _ _ hzb
  have y1 := frozen_of_row _ _ 1 _ _ hzb
  have y2 := frozen_of_row _ _ 2 _ _ hzb
  have y3 := frozen_of_row _ _ 3 _ _ hzb
  have x0 := blk_cell hzu 0 (.int .i64 0) rfl
  have x1 := blk_cell hzu 1 (.int .i64 0) rfl
  have x2 := blk_cell hzu 2 (.int .i64 0) rfl
  have x3 := blk_cell hzu 3 (.string ⟨#[]⟩) rfl
  have v0 := frozen_of_row _ _ 0 _ _ hzu
  have v1 := frozen_of_row _ _ 1 _ _ hzu
  have v2 := frozen_of_row _ _ 2 _ _ hzu
  have v3 := frozen_of_row _ _ 3 _ _ hzu
  have HZB := Lib.hid hzb
  have HZU := Lib.hid hzu
  clear hzb hzu
  rcases ho with hb | ⟨hb, h1⟩
  · have hb1 : bo.toList.isEmpty = true := by rw [Ev.str_nil hb]; rfl
    have hb2 := Ev.str_nil hb
    clear hb
    go_enter Try.func12, Try.ntmps12
    go_wp2
    clear z0 z1 z2 z3 y0 y1 y2 y3 x0 x1 x2 x3 v0 v1 v2 v3
    have t0 := blk_cell HZB.out 0 (.int .i64 0) rfl
    have t1 := blk_cell HZB.out 1 (.int .i64 0) rfl
    have t2 := blk_cell HZB.out 2 (.int .i64 0) rfl
    have t3 := blk_cell HZB.out 3 (.string ⟨#[]⟩) rfl
    have u0 := blk_cell HZU.out 0 (.int .i64 0) rfl
    have u1 := blk_cell HZU.out 1 (.int .i64 0) rfl
    have u2 := blk_cell HZU.out 2 (.int .i64 0) rfl
    have u3 := blk_cell HZU.out 3 (.string ⟨#[]⟩) rfl
    refine bodyPost_ret (v := .tuple #[(.agg #[.int .i64 0, .int .i64 0, .int .i64 0, .string ⟨#[]⟩]), (.agg #[.int .i64 0, .int .i64 0, .int .i64 0, .string ⟨#[]⟩]), .bool false]) (by simp [results, Try.results12, go_sem, t0, t1, t2, t3, u0, u1, u2, u3]) rfl ⟨rfl, ?_⟩
    exact ((((Ext.refl w).alloc _).alloc _).alloc _).alloc _
  · have hb1 := (Ev.str_nonempty hb).1
    have hb2 := (Ev.str_nonempty hb).2
    clear hb
    go_enter Try.func12, Try.ntmps12
    go_wp2
    clear z0 z1 z2 z3 y0 y1 y2 y3 x0 x1 x2 x3 v0 v1 v2 v3
    have t0 := blk_cell HZB.out 0 (.int .i64 0) rfl
    have t1 := blk_cell HZB.out 1 (.int .i64 0) rfl
    have t2 := blk_cell HZB.out 2 (.int .i64 0) rfl
    have t3 := blk_cell HZB.out 3 (.string ⟨#[]⟩) rfl
    have u0 := blk_cell HZU.out 0 (.int .i64 0) rfl
    have u1 := blk_cell HZU.out 1 (.int .i64 0) rfl
    have u2 := blk_cell HZU.out 2 (.int .i64 0) rfl
    have u3 := blk_cell HZU.out 3 (.string ⟨#[]⟩) rfl
    refine bodyPost_ret (v := .tuple #[(.agg #[.int .i64 0, .int .i64 0, .int .i64 0, .string ⟨#[]⟩]), (.agg #[.int .i64 0, .int .i64 0, .int .i64 0, .string ⟨#[]⟩]), .bool false]) (by simp [results, Try.results12, go_sem, t0, t1, t2, t3, u0, u1, u2, u3]) rfl ⟨rfl, ?_⟩
    exact ((((Ext.refl w).alloc _).alloc _).alloc _).alloc _

end Go.Proofs.Ytcdfpifhjjiioaa
