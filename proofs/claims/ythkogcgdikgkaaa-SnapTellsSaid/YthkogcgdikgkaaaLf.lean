/-
  Arguments that are snaps, opened.
-/
import Derived.Test.YthkogcgdikgkaaaLr
import Derived.Test.YthkogcgdikgkaaaMd
set_option linter.unusedVariables false
set_option linter.unusedSimpArgs false
namespace Go.Proofs.Ythkogcgdikgkaaa
open Go.ChangeShapes Go.WideShapes Go.Deep Go.RowKit Go.Maps
section
variable {H : Type} {enc : TypeId × Value → H} {P : Program} {w : World} {base : Nat} {held : Bool}
def wf64 (a : Int) : Prop := (Lit.int .i64 a).wf = true
/-- What is known of a snap that came in. -/
def SnIn (s : Sn) : Prop := wf64 s.time ∧ s.ps.length ≤ maxLen ∧ s.gs.length ≤ maxLen ∧ (∀ p ∈ s.ps, wf64 p.1 ∧ wf64 p.2) ∧ ∀ g ∈ s.gs, wf64 g.1 ∧ wf64 g.2.1 ∧ wf64 g.2.2.1 ∧ wf64 g.2.2.2
theorem open_snap {r : Reach} {b0 : Nat} {t ep eg : TypeId} {f0 f1 f2 p0 p1 g0 g1 g2 g3 : Field} {v : Value} {d : DataW H} {p : List MemPlace} (hs : P.underlying t = some (.struct #[f0, f1, f2])) (hone : oneCellFields P #[f0, f1, f2] = true) (hC : P.cellsOf t = 3)
    (t0 : P.underlying f0.type = some (.int .i64)) (t1 : P.underlying f1.type = some (.slice ep)) (t2 : P.underlying f2.type = some (.slice eg))
    (hp : P.underlying ep = some (.struct #[p0, p1])) (hpo : oneCellFields P #[p0, p1] = true) (hpC : P.cellsOf ep = 2) (tp : P.underlying p0.type = some (.int .i64) ∧ P.underlying p1.type = some (.int .i64))
    (hg : P.underlying eg = some (.struct #[g0, g1, g2, g3])) (hgo : oneCellFields P #[g0, g1, g2, g3] = true) (hgC : P.cellsOf eg = 4) (tg : P.underlying g0.type = some (.int .i64) ∧ P.underlying g1.type = some (.int .i64) ∧ P.underlying g2.type = some (.int .i64) ∧ P.underlying g3.type = some (.int .i64))
    (hv : Value.okWide P w r b0 t v) (h : DataW.Trod enc P w base (fun _ => true) held t v d p) : ∃ s : Sn, SnAt w v s ∧ SnIn s := by
  obtain ⟨v0, v1, v2, y0, y1, y2, n, rfl, _, _, h0, h1, h2⟩ := Go.Joins.open_agg3 hs hone hC hv h
  obtain ⟨a, rfl, wa⟩ := cells_int t0 h0
  obtain ⟨A, l, c, rfl⟩ := cells_slice t1 h1
  obtain ⟨B, m, d, rfl⟩ := cells_slice t2 h2
  obtain ⟨m1, ps, rfl, hps, wps⟩ := open_recs (R := fun _ cs x => cs = snPCells x) (G := fun p => wf64 p.1 ∧ wf64 p.2) (0, 0) t1 hpC (by decide) (fun n cs y hy => cells_pair hp hpo hpC tp.1 tp.2 hy) h1
  obtain ⟨m2, gs, rfl, hgs, wgs⟩ := open_recs (R := fun _ cs x => cs = snGCells x) (G := fun g => wf64 g.1 ∧ wf64 g.2.1 ∧ wf64 g.2.2.1 ∧ wf64 g.2.2.2) (0, 0, 0, 0) t2 hgC (by decide) (fun n cs y hy => cells_four hg hgo hgC tg.1 tg.2.1 tg.2.2.1 tg.2.2.2 hy) h2
  exact ⟨⟨a, ps, gs⟩, ⟨A, c, B, d, rfl, hps.rows, hgs.rows⟩, wa, m1, m2, wps, wgs⟩
end
end Go.Proofs.Ythkogcgdikgkaaa
