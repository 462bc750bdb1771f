/-
  Several texts in one: Sn, So.
-/
import Derived.Test.YtogcfndhcphpaaaA17
/-
  The document's answers for layer 11: Next and Due.
-/
set_option linter.unusedVariables false
set_option linter.unusedSimpArgs false
namespace Go.Proofs.Ytogcfndhcphpaaa
open Go.RowKit
end Go.Proofs.Ytogcfndhcphpaaa
/-
  The document's answer for layer 11: Put.
-/
set_option linter.unusedVariables false
set_option linter.unusedSimpArgs false
namespace Go.Proofs.Ytogcfndhcphpaaa
open Go.RowKit

/-- Where the document lays a timer: ahead of the first one that it stands ahead of. -/
def Sl.pos (l : List (Int × Int)) (t : Int × Int) : Nat := (l.takeWhile fun q => !decide (Sl.lt t q)).length
/-- What is laid behind so many rounds. -/
def Sl.part (l : List (Int × Int)) (t : Int × Int) (k : Nat) : List (Int × Int) := if k ≤ Sl.pos l t then l.take k else l.take (Sl.pos l t) ++ [t] ++ (l.take k).drop (Sl.pos l t)
/-- What holds at each round's head. -/
def PutAt (xs : List (Int × Int)) (t0 t1 : Int) (w : World) (m : List (Int × Int)) (u : Value) (wr : World) : Prop := OwnTs wr (w.heap.size + 1) u m ∧ Ext (w.alloc (.cells #[.int .i64 t0, .int .i64 t1] 76)) wr
theorem PutAt.ext {xs : List (Int × Int)} {t0 t1 : Int} {w : World} {m : List (Int × Int)} {u : Value} {wr w' : World} (h : PutAt xs t0 t1 w m u wr) (hx : Ext wr w') : PutAt xs t0 t1 w m u w' := ⟨OwnRows.ext h.1 hx, h.2.trans hx⟩
theorem PutAt.add {xs : List (Int × Int)} {t0 t1 : Int} {w : World} {m : List (Int × Int)} {u : Value} {wr : World} (p0 p1 : Int) (h : PutAt xs t0 t1 w m u wr) (hl : m.length ≤ 100000) :
    ∃ u' w', (Builtin.append_ #[30, 30] 30 #[u, .slice (some ⟨wr.heap.size, 0, none⟩) 1 1]).run Try.prog (wr.alloc (.cells #[.int .i64 p0, .int .i64 p1] 76)) = .ok u' w' ∧ PutAt xs t0 t1 w (m ++ [(p0, p1)]) u' w' := by
  obtain ⟨j0, J0, J1, J2, J3⟩ := info_parts Try.infoTimer
  have hs := h.2.size
  rw [World.size_alloc] at hs
  obtain ⟨u', w', hr, ho, hg, _⟩ := OwnRows.append2 (P := Try.prog) 30 Try.underlying30 J0 J1 J2 J3 rfl (by decide) pairL_len pairL_one (OwnRows.alloc h.1 (.cells #[.int .i64 p0, .int .i64 p1] 76)) (ys := [(p0, p1)]) (pairs_one wr p0 p1).rows (by unfold maxLen; simp; omega) (by simp; omega) (by simp; omega)
  exact ⟨u', w', hr, ho, Below.grown (h.2.alloc _) hg (by rw [World.size_alloc, World.size_alloc]; omega) fun k hk => by rw [World.size_alloc]; exact (OwnRows.lt h.1 k hk).1⟩
end Go.Proofs.Ytogcfndhcphpaaa
