/-
  Arguments that are structs of a row of eight numbers and two numbers, opened.
-/
import Derived.Test.YtdpmogbibmgolaaLs
import Derived.Lib.SmallJoins
set_option linter.unusedVariables false
set_option linter.unusedSimpArgs false
namespace Go.Proofs.Ytdpmogbibmgolaa
open Go.ChangeShapes Go.WideShapes Go.Deep Go.RowKit
section
variable {H : Type} {enc : TypeId × Value → H} {P : Program} {w : World} {base : Nat} {held : Bool}
theorem okWide_struct {fs : Array Field} {r : Reach} {b0 : Nat} {t : TypeId} {v : Value} (ht : P.underlying t = some (.struct fs)) (h : Value.okWide P w r b0 t v) : ∃ cs, v = .agg cs ∧ cs.size = P.cellsOf t := by
  simp only [Value.okWide, ht] at h
  obtain ⟨cs, h1, h2, _⟩ := h
  exact ⟨cs, h1, h2⟩
theorem array10 {α : Type} {cs : Array α} (h : cs.size = 10) : ∃ c0 c1 c2 c3 c4 c5 c6 c7 c8 c9, cs = #[c0, c1, c2, c3, c4, c5, c6, c7, c8, c9] := by
  obtain ⟨l⟩ := cs
  match l, h with
  | [c0, c1, c2, c3, c4, c5, c6, c7, c8, c9], _ => exact ⟨c0, c1, c2, c3, c4, c5, c6, c7, c8, c9, rfl⟩
theorem ring_cells {t e : TypeId} {f0 f1 f2 : Field} {n : Nat} {c0 c1 c2 c3 c4 c5 c6 c7 c8 c9 : Value} {x : DataW H × List MemPlace} (hs : P.underlying t = some (.struct #[f0, f1, f2]))
    (o : f0.offset = 0 ∧ f1.offset = 8 ∧ f2.offset = 9) (hc : P.cellsOf f0.type = 8 ∧ P.cellsOf f1.type = 1 ∧ P.cellsOf f2.type = 1) (ta : P.underlying f0.type = some (.array 8 e)) (te : P.underlying e = some (.int .i64)) (hce : P.cellsOf e = 1)
    (t1 : P.underlying f1.type = some (.int .i64)) (t2 : P.underlying f2.type = some (.int .i64)) (h : DataW.trod enc P w base (fun _ => true) held n t [c0, c1, c2, c3, c4, c5, c6, c7, c8, c9] = some x) :
    ∃ b0 b1 b2 b3 b4 b5 b6 b7 hd nn : Int, [c0, c1, c2, c3, c4, c5, c6, c7, c8, c9] = [b0, b1, b2, b3, b4, b5, b6, b7, hd, nn].map (Value.int .i64) ∧ ∀ z ∈ [b0, b1, b2, b3, b4, b5, b6, b7, hd, nn], (Lit.int .i64 z).wf = true := by
  obtain ⟨xs, m, _, _, _, hl, hf⟩ := DataW.trod_struct hs h
  match xs, hl with
  | [y0, y1, y2], _ =>
    have h0 := hf 0 f0 rfl
    have h1 := hf 1 f1 rfl
    have h2 := hf 2 f2 rfl
    rw [o.1, hc.1] at h0
    rw [o.2.1, hc.2.1] at h1
    rw [o.2.2, hc.2.2] at h2
    obtain ⟨x8, e8, _, w8⟩ := DataW.trod_int t1 h1
    obtain ⟨x9, e9, _, w9⟩ := DataW.trod_int t2 h2
    obtain ⟨ys, m', _, _, _, hl', hel⟩ := DataW.trod_array ta h0
    have at8 : ∀ i (hi : i < 8), ∃ z : Int, ([c0, c1, c2, c3, c4, c5, c6, c7, c8, c9] : List Value)[i]? = some (.int .i64 z) ∧ (Lit.int .i64 z).wf = true := fun i hi => by
      have hi1 := hel i hi
      rw [hce, Nat.mul_one] at hi1
      have hy : ys[i]? = some (ys[i]'(by omega)) := List.getElem?_eq_getElem (by omega)
      rw [hy] at hi1
      obtain ⟨z, ez, _, wz⟩ := DataW.trod_int te hi1
      refine ⟨z, ?_, wz⟩
      have e2 := congrArg (·[0]?) ez
      simp only [List.getElem?_take, List.getElem?_drop, List.getElem?_cons_zero] at e2
      have e3 : i < 8 ∧ [c0, c1, c2, c3, c4, c5, c6, c7, c8, c9][i]? = some (Value.int IntKind.i64 z) := by simpa using e2
      exact e3.2
    obtain ⟨z0, e0, w0⟩ := at8 0 (by omega)
    obtain ⟨z1, e1, w1⟩ := at8 1 (by omega)
    obtain ⟨z2, e2, w2⟩ := at8 2 (by omega)
    obtain ⟨z3, e3, w3⟩ := at8 3 (by omega)
    obtain ⟨z4, e4, w4⟩ := at8 4 (by omega)
    obtain ⟨z5, e5, w5⟩ := at8 5 (by omega)
    obtain ⟨z6, e6, w6⟩ := at8 6 (by omega)
    obtain ⟨z7, e7, w7⟩ := at8 7 (by omega)
    simp at e0 e1 e2 e3 e4 e5 e6 e7 e8 e9
    subst e0 e1 e2 e3 e4 e5 e6 e7 e8 e9
    refine ⟨z0, z1, z2, z3, z4, z5, z6, z7, x8, x9, rfl, fun z hz => ?_⟩
    simp only [List.mem_cons, List.not_mem_nil, or_false] at hz
    rcases hz with rfl | rfl | rfl | rfl | rfl | rfl | rfl | rfl | rfl | rfl <;> assumption
theorem open_ring {r : Reach} {b : Nat} {t e : TypeId} {f0 f1 f2 : Field} {v : Value} {d : DataW H} {p : List MemPlace} (hs : P.underlying t = some (.struct #[f0, f1, f2])) (hC : P.cellsOf t = 10)
    (o : f0.offset = 0 ∧ f1.offset = 8 ∧ f2.offset = 9) (hc : P.cellsOf f0.type = 8 ∧ P.cellsOf f1.type = 1 ∧ P.cellsOf f2.type = 1) (ta : P.underlying f0.type = some (.array 8 e)) (te : P.underlying e = some (.int .i64)) (hce : P.cellsOf e = 1)
    (t1 : P.underlying f1.type = some (.int .i64)) (t2 : P.underlying f2.type = some (.int .i64))
    (hv : Value.okWide P w r b t v) (h : DataW.Trod enc P w base (fun _ => true) held t v d p) :
    ∃ b0 b1 b2 b3 b4 b5 b6 b7 hd nn : Int, v = .agg #[.int .i64 b0, .int .i64 b1, .int .i64 b2, .int .i64 b3, .int .i64 b4, .int .i64 b5, .int .i64 b6, .int .i64 b7, .int .i64 hd, .int .i64 nn] ∧ ∀ z ∈ [b0, b1, b2, b3, b4, b5, b6, b7, hd, nn], (Lit.int .i64 z).wf = true := by
  obtain ⟨cs, rfl, hsz⟩ := okWide_struct hs hv
  obtain ⟨c0, c1, c2, c3, c4, c5, c6, c7, c8, c9, rfl⟩ := array10 (hsz.trans hC)
  obtain ⟨fuel, hf⟩ := h
  obtain ⟨b0, b1, b2, b3, b4, b5, b6, b7, hd, nn, he, hw⟩ := ring_cells (n := fuel) hs o hc ta te hce t1 t2 hf
  simp only [List.map_cons, List.map_nil, List.cons.injEq, and_true] at he
  obtain ⟨rfl, rfl, rfl, rfl, rfl, rfl, rfl, rfl, rfl, rfl⟩ := he
  exact ⟨b0, b1, b2, b3, b4, b5, b6, b7, hd, nn, rfl, hw⟩
end
end Go.Proofs.Ytdpmogbibmgolaa
