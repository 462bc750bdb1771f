/-
  Contracts of package buf: Full; Put where nothing is put.
-/
import Derived.Test.YtcdfpifhjjiioaaFa
import Derived.Test.YtcdfpifhjjiioaaBb
import Derived.Test.YtcdfpifhjjiioaaEo
set_option linter.unusedVariables false
set_option linter.unusedSimpArgs false
namespace Go.Proofs.Ytcdfpifhjjiioaa
open Go.RowKit

theorem bfull_any (m ba la : Int) (bo : ByteArray) (n : Int) (w : World) : Calls Try.prog 14 #[.agg #[.int .i64 m, .int .i64 ba, .int .i64 la, .string bo], .int .i64 n] w fun r w' => r = .returned (.bool (decide (n ≤ (bo.size : Int)))) ∧ Ext w w' := by
  go_enter Try.func14, Try.ntmps14
  go_wp2
  go_ret
  exact ⟨rfl, (Ext.refl w).alloc _⟩
def BPut (p : Bu × Bool) (w : World) (r : Ending) (w' : World) : Prop := r = .returned (.tuple #[p.1.val, .bool p.2]) ∧ Ext w w'
theorem uzero4 {w : World} {g : Nat} (h : w.heap[g]? = some ((.cells #[.int .i64 0, .int .i64 0, .int .i64 0, .string ⟨#[]⟩] 23))) : ((((w.setCell ⟨g, 0, none⟩ (.int .i64 0)).setCell ⟨g, 1, none⟩ (.int .i64 0)).setCell ⟨g, 2, none⟩ (.int .i64 0)).setCell ⟨g, 3, none⟩ (.string ⟨#[]⟩)).heap[g]? = some ((.cells #[.int .i64 0, .int .i64 0, .int .i64 0, .string ⟨#[]⟩] 23)) :=
  blk_set (blk_set (blk_set (blk_set h 0 (.int .i64 0)) 1 (.int .i64 0)) 2 (.int .i64 0)) 3 (.string ⟨#[]⟩)
theorem three_new (w : World) (o1 o2 o3 : Obj) : (((w.alloc o1).alloc o2).alloc o3).heap[w.heap.size]? = some o1 ∧ (((w.alloc o1).alloc o2).alloc o3).heap[w.heap.size + 1]? = some o2 ∧ (((w.alloc o1).alloc o2).alloc o3).heap[w.heap.size + 1 + 1]? = some o3 := by
  refine ⟨blk_alloc (blk_alloc (blk_new w o1) _) _, ?_, ?_⟩
  · have := blk_alloc (blk_new (w.alloc o1) o2) o3
    rwa [World.size_alloc] at this
  · have := blk_new ((w.alloc o1).alloc o2) o3
    rwa [World.size_alloc, World.size_alloc] at this
set_option maxRecDepth 100000 in
set_option maxHeartbeats 1000000 in
theorem bput_no (m ba la : Int) (bo : ByteArray) (t : Int) (k d : Int) (xs : List Int) (tx : ByteArray) (A : Option Addr) (c : Nat) (w : World) (h : Ev.ok t = false) :
    Calls Try.prog 10 #[.agg #[.int .i64 m, .int .i64 ba, .int .i64 la, .string bo], .int .i64 t, .agg #[.int .i64 k, .int .i64 d, .slice A xs.length c, .string tx]] w (BPut (Bu.zero, false) w) := by
  have h0 : ¬ Wi.ok t := fun hh => by rw [Ev.ok_wi.2 hh] at h; cases h
  unfold Wi.ok at h0
  have hzb := (three_new w (.cells #[.int .i64 m, .int .i64 ba, .int .i64 la, .string bo] 23) (.cells #[.int .i64 k, .int .i64 d, .slice A xs.length c, .string tx] 28) ((.cells #[.int .i64 0, .int .i64 0, .int .i64 0, .string ⟨#[]⟩] 23))).2.2
  have z0 := blk_cell hzb 0 (.int .i64 0) rfl
  have z1 := blk_cell hzb 1 (.int .i64 0) rfl
  have z2 := blk_cell hzb 2 (.int .i64 0) rfl
  have z3 := blk_cell hzb 3 (.string ⟨#[]⟩) rfl
  have y0 := frozen_of_row _ _ 0 _ _ hzb
  have y1 := frozen_of_row _ _ 1 _ _ hzb
  have y2 := frozen_of_row _ _ 2 _ _ hzb
  have y3 := frozen_of_row _ _ 3 _ _ hzb
  have HZB := Lib.hid hzb
  clear hzb
  clear h
  rcases (by omega : t < 0 ∨ (0 ≤ t ∧ 4611686018427387904 ≤ t)) with h1 | ⟨h1, h2⟩
  all_goals
    clear h0
    go_enter Try.func10, Try.ntmps10
    go_wp2
    clear z0 z1 z2 z3 y0 y1 y2 y3
    have t0 := blk_cell HZB.out 0 (.int .i64 0) rfl
    have t1 := blk_cell HZB.out 1 (.int .i64 0) rfl
    have t2 := blk_cell HZB.out 2 (.int .i64 0) rfl
    have t3 := blk_cell HZB.out 3 (.string ⟨#[]⟩) rfl
    refine bodyPost_ret (v := .tuple #[(.agg #[.int .i64 0, .int .i64 0, .int .i64 0, .string ⟨#[]⟩]), .bool false]) (by simp [results, Try.results10, go_sem, t0, t1, t2, t3]) rfl ⟨rfl, ?_⟩
    exact (((Ext.refl w).alloc _).alloc _).alloc _
set_option maxRecDepth 100000 in
set_option maxHeartbeats 1000000 in
theorem bput_early (m ba la : Int) (bo : ByteArray) (t : Int) (k d : Int) (xs : List Int) (tx : ByteArray) (A : Option Addr) (c : Nat) (w : World) (h0 : 0 ≤ t) (h1 : t < 4611686018427387904) (hb : ¬ bo.size = 0) (hl : t < la) :
    Calls Try.prog 10 #[.agg #[.int .i64 m, .int .i64 ba, .int .i64 la, .string bo], .int .i64 t, .agg #[.int .i64 k, .int .i64 d, .slice A xs.length c, .string tx]] w (BPut (Bu.zero, false) w) := by
  have hb1 := (Ev.str_nonempty hb).1
  have hb2 := (Ev.str_nonempty hb).2
  have hzb := (three_new w (.cells #[.int .i64 m, .int .i64 ba, .int .i64 la, .string bo] 23) (.cells #[.int .i64 k, .int .i64 d, .slice A xs.length c, .string tx] 28) ((.cells #[.int .i64 0, .int .i64 0, .int .i64 0, .string ⟨#[]⟩] 23))).2.2
  have z0 := blk_cell hzb 0 (.int .i64 0) rfl
  have z1 := blk_cell hzb 1 (.int .i64 0) rfl
  have z2 := blk_cell hzb 2 (.int .i64 0) rfl
  have z3 := blk_cell hzb 3 (.string ⟨#[]⟩) rfl
  have y0 := frozen_of_row _ _ 0 _ _ hzb
  have y1 := frozen_of_row _ _ 1 _ _ hzb
  have y2 := frozen_of_row _ _ 2 _ _ hzb
  have y3 := frozen_of_row _ _ 3 _ _ hzb
  have HZB := Lib.hid hzb
  clear hzb
  go_enter Try.func10, Try.ntmps10
  go_wp2
  clear z0 z1 z2 z3 y0 y1 y2 y3
  have t0 := blk_cell HZB.out 0 (.int .i64 0) rfl
  have t1 := blk_cell HZB.out 1 (.int .i64 0) rfl
  have t2 := blk_cell HZB.out 2 (.int .i64 0) rfl
  have t3 := blk_cell HZB.out 3 (.string ⟨#[]⟩) rfl
  refine bodyPost_ret (v := .tuple #[(.agg #[.int .i64 0, .int .i64 0, .int .i64 0, .string ⟨#[]⟩]), .bool false]) (by simp [results, Try.results10, go_sem, t0, t1, t2, t3]) rfl ⟨rfl, ?_⟩
  exact (((Ext.refl w).alloc _).alloc _).alloc _

end Go.Proofs.Ytcdfpifhjjiioaa
