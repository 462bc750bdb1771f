/-
  The contract of ring.May.
-/
import Derived.Test.YtdpmogbibmgolaaNb
set_option linter.unusedVariables false
set_option linter.unusedSimpArgs false
namespace Go.Proofs.Ytdpmogbibmgolaa
open Go.RowKit Go.Shelf
attribute [local go_sem] Oper.semAt_some

set_option maxRecDepth 100000 in
set_option maxHeartbeats 1000000 in
theorem rmay_out (b0 b1 b2 b3 b4 b5 b6 b7 hd nn : Int) (w : World) (h : hd < 0 ∨ (0 ≤ hd ∧ (8 ≤ hd ∨ (hd < 8 ∧ (nn < 0 ∨ (0 ≤ nn ∧ 8 < nn)))))) :
    Calls Try.prog 12 #[.agg #[.int .i64 b0, .int .i64 b1, .int .i64 b2, .int .i64 b3, .int .i64 b4, .int .i64 b5, .int .i64 b6, .int .i64 b7, .int .i64 hd, .int .i64 nn]] w fun e w' => e = .returned (.bool false) ∧ Ext w w' := by
  have hzb := blk_new (w.alloc (.cells #[.int .i64 b0, .int .i64 b1, .int .i64 b2, .int .i64 b3, .int .i64 b4, .int .i64 b5, .int .i64 b6, .int .i64 b7, .int .i64 hd, .int .i64 nn] 24)) (.cells #[.bool false] 4)
  rw [World.size_alloc] at hzb
  have z0 := blk_cell hzb 0 (.bool false) rfl
  have y0 := frozen_of_row _ _ 0 _ _ hzb
  clear hzb
  rcases h with h | ⟨h1, h | ⟨h2, h | ⟨h3, h⟩⟩⟩
  all_goals
    go_enter Try.func12, Try.ntmps12
    go_wp2
    refine bodyPost_ret (v := .bool false) (by simp [results, Try.results12, go_sem]) rfl ⟨rfl, ?_⟩
    exact ((Ext.refl w).alloc _).alloc _

end Go.Proofs.Ytdpmogbibmgolaa
