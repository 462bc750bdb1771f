/-
  The contract of layer 8's own helper 'one'.
-/
import Derived.Test.YthkogcgdikgkaaaMk
set_option linter.unusedVariables false
set_option linter.unusedSimpArgs false
namespace Go.Proofs.Ythkogcgdikgkaaa
open Go.RowKit Go.Maps
set_option maxRecDepth 100000 in
set_option maxHeartbeats 1000000 in
theorem snone_any (w : World) : Calls Try.prog 18 #[] w fun e w' => e = .returned (.agg #[.int .i64 5, .slice (some ⟨w.heap.size + 1, 0, none⟩) 1 1, .slice (some ⟨w.heap.size + 1 + 1, 0, none⟩) 1 1]) ∧ w' = (((w.alloc (.cells #[.int .i64 5, .slice (some ⟨w.heap.size + 1, 0, none⟩) 1 1, .slice (some ⟨w.heap.size + 1 + 1, 0, none⟩) 1 1] 25)).alloc (.cells #[.int .i64 1, .int .i64 2] 46)).alloc (.cells #[.int .i64 1, .int .i64 2, .int .i64 1, .int .i64 3] 36)) := by
  go_enter Try.func18, Try.ntmps18
  go_wp2
  refine bodyPost_ret (v := (.agg #[.int .i64 5, .slice (some ⟨w.heap.size + 1, 0, none⟩) 1 1, .slice (some ⟨w.heap.size + 1 + 1, 0, none⟩) 1 1])) (by simp [results, Try.results18, go_sem]) rfl ⟨rfl, rfl⟩
theorem snone_blks (w : World) : ((((w.alloc (.cells #[.int .i64 5, .slice (some ⟨w.heap.size + 1, 0, none⟩) 1 1, .slice (some ⟨w.heap.size + 1 + 1, 0, none⟩) 1 1] 25)).alloc (.cells #[.int .i64 1, .int .i64 2] 46)).alloc (.cells #[.int .i64 1, .int .i64 2, .int .i64 1, .int .i64 3] 36))).heap[w.heap.size + 1]? = some (.cells #[.int .i64 1, .int .i64 2] 46 (0, 0)) ∧ ((((w.alloc (.cells #[.int .i64 5, .slice (some ⟨w.heap.size + 1, 0, none⟩) 1 1, .slice (some ⟨w.heap.size + 1 + 1, 0, none⟩) 1 1] 25)).alloc (.cells #[.int .i64 1, .int .i64 2] 46)).alloc (.cells #[.int .i64 1, .int .i64 2, .int .i64 1, .int .i64 3] 36))).heap[w.heap.size + 1 + 1]? = some (.cells #[.int .i64 1, .int .i64 2, .int .i64 1, .int .i64 3] 36 (0, 0)) ∧ Ext w (((w.alloc (.cells #[.int .i64 5, .slice (some ⟨w.heap.size + 1, 0, none⟩) 1 1, .slice (some ⟨w.heap.size + 1 + 1, 0, none⟩) 1 1] 25)).alloc (.cells #[.int .i64 1, .int .i64 2] 46)).alloc (.cells #[.int .i64 1, .int .i64 2, .int .i64 1, .int .i64 3] 36)) := by
  refine ⟨blk_alloc ?_ _, ?_, (((Ext.refl w).alloc _).alloc _).alloc _⟩
  · have := blk_new (w.alloc (.cells #[.int .i64 5, .slice (some ⟨w.heap.size + 1, 0, none⟩) 1 1, .slice (some ⟨w.heap.size + 1 + 1, 0, none⟩) 1 1] 25)) (.cells #[.int .i64 1, .int .i64 2] 46)
    rwa [World.size_alloc] at this
  · have := blk_new ((w.alloc (.cells #[.int .i64 5, .slice (some ⟨w.heap.size + 1, 0, none⟩) 1 1, .slice (some ⟨w.heap.size + 1 + 1, 0, none⟩) 1 1] 25)).alloc (.cells #[.int .i64 1, .int .i64 2] 46)) (.cells #[.int .i64 1, .int .i64 2, .int .i64 1, .int .i64 3] 36)
    rwa [World.size_alloc, World.size_alloc] at this
theorem sn_of_blks {w : World} {x y : Nat} {t a b c d e f : Int} {tp tg : TypeId} (h1 : w.heap[x]? = some (.cells #[.int .i64 a, .int .i64 b] tp (0, 0))) (h2 : w.heap[y]? = some (.cells #[.int .i64 c, .int .i64 d, .int .i64 e, .int .i64 f] tg (0, 0))) :
    SnAt w (.agg #[.int .i64 t, .slice (some ⟨x, 0, none⟩) 1 1, .slice (some ⟨y, 0, none⟩) 1 1]) ⟨t, [(a, b)], [(c, d, e, f)]⟩ := by
  refine ⟨_, _, _, _, rfl, ⟨_, _, rfl, by simp, fun _ => ⟨x, 0, rfl, blk_lt h1, fun j p hj i u hu => ?_⟩⟩, ⟨_, _, rfl, by simp, fun _ => ⟨y, 0, rfl, blk_lt h2, fun j p hj i u hu => ?_⟩⟩⟩
  · match j, hj with
    | 0, hj =>
      simp only [List.getElem?_cons_zero, Option.some.injEq] at hj
      subst hj
      refine blk_cell h1 _ _ ?_
      rw [List.getElem?_toArray]
      simpa [snPCells, snGCells] using hu
  · match j, hj with
    | 0, hj =>
      simp only [List.getElem?_cons_zero, Option.some.injEq] at hj
      subst hj
      refine blk_cell h2 _ _ ?_
      rw [List.getElem?_toArray]
      simpa [snPCells, snGCells] using hu

end Go.Proofs.Ythkogcgdikgkaaa
