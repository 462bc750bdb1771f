/-
  Arguments that are batches, opened.
-/
import Derived.Test.YtcdfpifhjjiioaaBa
import Derived.Test.YtcdfpifhjjiioaaLs
import Derived.Lib.SmallJoins
set_option linter.unusedVariables false
set_option linter.unusedSimpArgs false
namespace Go.Proofs.Ytcdfpifhjjiioaa
open Go.ChangeShapes Go.WideShapes Go.Deep Go.RowKit
section
variable {H : Type} {enc : TypeId × Value → H} {P : Program} {w : World} {base : Nat} {held : Bool}
/-- What is known of a batch that came in. -/
def BtIn (b : Bt) : Prop := b.body.size ≤ maxLen ∧ (Lit.int .i64 b.gen).wf = true ∧ (Lit.int .i64 b.stream).wf = true ∧ (Lit.int .i64 b.base).wf = true
def Bt.val (b : Bt) : Value := .agg #[.int .i64 b.gen, .int .i64 b.stream, .int .i64 b.base, .string b.body]
theorem batch_of_trods {f0 f1 f2 f3 : TypeId} {v0 v1 v2 v3 : Value} {y0 y1 y2 y3 : DataW H × List MemPlace} (t0 : P.underlying f0 = some (.int .i64)) (t1 : P.underlying f1 = some (.int .i64)) (t2 : P.underlying f2 = some (.int .i64)) (t3 : P.underlying f3 = some .string)
    {n0 n1 n2 n3 : Nat} (h0 : DataW.trod enc P w base (fun _ => true) held n0 f0 [v0] = some y0) (h1 : DataW.trod enc P w base (fun _ => true) held n1 f1 [v1] = some y1) (h2 : DataW.trod enc P w base (fun _ => true) held n2 f2 [v2] = some y2) (h3 : DataW.trod enc P w base (fun _ => true) held n3 f3 [v3] = some y3) :
    ∃ b : Bt, BtIn b ∧ v0 = .int .i64 b.gen ∧ v1 = .int .i64 b.stream ∧ v2 = .int .i64 b.base ∧ v3 = .string b.body := by
  obtain ⟨x0, e0, _, w0⟩ := DataW.trod_int t0 h0
  obtain ⟨x1, e1, _, w1⟩ := DataW.trod_int t1 h1
  obtain ⟨x2, e2, _, w2⟩ := DataW.trod_int t2 h2
  obtain ⟨s, e3, _, hs⟩ := DataW.trod_string t3 h3
  simp at e0 e1 e2 e3
  subst e0 e1 e2 e3
  exact ⟨⟨x0, x1, x2, s⟩, ⟨hs, w0, w1, w2⟩, rfl, rfl, rfl, rfl⟩
theorem open_batch {r : Reach} {b0 : Nat} {t : TypeId} {f0 f1 f2 f3 : Field} {v : Value} {d : DataW H} {p : List MemPlace} (hs : P.underlying t = some (.struct #[f0, f1, f2, f3])) (hone : oneCellFields P #[f0, f1, f2, f3] = true) (hC : P.cellsOf t = 4)
    (t0 : P.underlying f0.type = some (.int .i64)) (t1 : P.underlying f1.type = some (.int .i64)) (t2 : P.underlying f2.type = some (.int .i64)) (t3 : P.underlying f3.type = some .string)
    (hv : Value.okWide P w r b0 t v) (h : DataW.Trod enc P w base (fun _ => true) held t v d p) : ∃ b : Bt, v = b.val ∧ BtIn b := by
  obtain ⟨v0, v1, v2, v3, y0, y1, y2, y3, n, rfl, _, _, h0, h1, h2, h3⟩ := Go.Joins.open_agg4 hs hone hC hv h
  obtain ⟨b, hin, rfl, rfl, rfl, rfl⟩ := batch_of_trods (n0 := n) t0 t1 t2 t3 h0 h1 h2 h3
  exact ⟨b, rfl, hin⟩
theorem okWide_array {n : Nat} {e : TypeId} {r : Reach} {b0 : Nat} {t : TypeId} {v : Value} (ht : P.underlying t = some (.array n e)) (h : Value.okWide P w r b0 t v) : ∃ cs, v = .agg cs ∧ cs.size = P.cellsOf t := by
  simp only [Value.okWide, ht] at h
  obtain ⟨cs, h1, h2, _⟩ := h
  exact ⟨cs, h1, h2⟩
theorem array8 {α : Type} {cs : Array α} (h : cs.size = 8) : ∃ c0 c1 c2 c3 c4 c5 c6 c7, cs = #[c0, c1, c2, c3, c4, c5, c6, c7] := by
  obtain ⟨l⟩ := cs
  match l, h with
  | [c0, c1, c2, c3, c4, c5, c6, c7], _ => exact ⟨c0, c1, c2, c3, c4, c5, c6, c7, rfl⟩
theorem batch_cells {t : TypeId} {f0 f1 f2 f3 : Field} {n : Nat} {c0 c1 c2 c3 : Value} {x : DataW H × List MemPlace} (hs : P.underlying t = some (.struct #[f0, f1, f2, f3]))
    (o : f0.offset = 0 ∧ f1.offset = 1 ∧ f2.offset = 2 ∧ f3.offset = 3) (hc : P.cellsOf f0.type = 1 ∧ P.cellsOf f1.type = 1 ∧ P.cellsOf f2.type = 1 ∧ P.cellsOf f3.type = 1)
    (t0 : P.underlying f0.type = some (.int .i64)) (t1 : P.underlying f1.type = some (.int .i64)) (t2 : P.underlying f2.type = some (.int .i64)) (t3 : P.underlying f3.type = some .string)
    (h : DataW.trod enc P w base (fun _ => true) held n t [c0, c1, c2, c3] = some x) : ∃ b : Bt, BtIn b ∧ c0 = .int .i64 b.gen ∧ c1 = .int .i64 b.stream ∧ c2 = .int .i64 b.base ∧ c3 = .string b.body := by
  obtain ⟨y0, y1, y2, y3, m, _, _, h0, h1, h2, h3⟩ := Go.Joins.trod_struct4 hs h
  rw [o.1, hc.1] at h0
  rw [o.2.1, hc.2.1] at h1
  rw [o.2.2.1, hc.2.2.1] at h2
  rw [o.2.2.2, hc.2.2.2] at h3
  exact batch_of_trods (n0 := m) t0 t1 t2 t3 h0 h1 h2 h3
theorem open_batch2 {r : Reach} {b0 : Nat} {t e : TypeId} {f0 f1 f2 f3 : Field} {v : Value} {d : DataW H} {p : List MemPlace} (ht : P.underlying t = some (.array 2 e)) (hCt : P.cellsOf t = 8) (hs : P.underlying e = some (.struct #[f0, f1, f2, f3])) (hC : P.cellsOf e = 4)
    (o : f0.offset = 0 ∧ f1.offset = 1 ∧ f2.offset = 2 ∧ f3.offset = 3) (hc : P.cellsOf f0.type = 1 ∧ P.cellsOf f1.type = 1 ∧ P.cellsOf f2.type = 1 ∧ P.cellsOf f3.type = 1)
    (t0 : P.underlying f0.type = some (.int .i64)) (t1 : P.underlying f1.type = some (.int .i64)) (t2 : P.underlying f2.type = some (.int .i64)) (t3 : P.underlying f3.type = some .string)
    (hv : Value.okWide P w r b0 t v) (h : DataW.Trod enc P w base (fun _ => true) held t v d p) :
    ∃ a b : Bt, v = .agg #[.int .i64 a.gen, .int .i64 a.stream, .int .i64 a.base, .string a.body, .int .i64 b.gen, .int .i64 b.stream, .int .i64 b.base, .string b.body] ∧ BtIn a ∧ BtIn b := by
  obtain ⟨cs, rfl, hsz⟩ := okWide_array ht hv
  obtain ⟨c0, c1, c2, c3, c4, c5, c6, c7, rfl⟩ := array8 (hsz.trans hCt)
  obtain ⟨fuel, hf⟩ := h
  obtain ⟨xs, m, _, _, _, hl, hel⟩ := DataW.trod_array ht hf
  have h0 := hel 0 (by decide)
  have h1 := hel 1 (by decide)
  match xs, hl with
  | [x0, x1], _ =>
    rw [hC] at h0 h1
    simp only [Value.cells] at h0 h1
    obtain ⟨a, ha, rfl, rfl, rfl, rfl⟩ := batch_cells (n := m) (x := x0) hs o hc t0 t1 t2 t3 h0
    obtain ⟨b, hb, rfl, rfl, rfl, rfl⟩ := batch_cells (n := m) (x := x1) hs o hc t0 t1 t2 t3 h1
    exact ⟨a, b, rfl, ha, hb⟩
end
end Go.Proofs.Ytcdfpifhjjiioaa
