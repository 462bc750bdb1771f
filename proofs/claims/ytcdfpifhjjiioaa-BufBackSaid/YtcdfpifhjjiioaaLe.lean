/-
  Arguments that are events, and slices of events, opened.
-/
import Derived.Test.YtcdfpifhjjiioaaEo
import Derived.Test.YtcdfpifhjjiioaaLs
import Derived.Lib.SmallJoins
set_option linter.unusedVariables false
set_option linter.unusedSimpArgs false
namespace Go.Proofs.Ytcdfpifhjjiioaa
open Go.ChangeShapes Go.WideShapes Go.Deep Go.RowKit
section
variable {H : Type} {enc : TypeId × Value → H} {P : Program} {w : World} {base : Nat} {held : Bool}
theorem ints_of_trod {t e : TypeId} {fuel : Nat} {v : Value} {x : DataW H × List MemPlace} (ht : P.underlying t = some (.slice e)) (he : P.underlying e = some (.int .i64)) (hC : P.cellsOf e = 1)
    (h : DataW.trod enc P w base (fun _ => true) held fuel t [v] = some x) : ∃ A n c xs, v = .slice A n c ∧ n ≤ maxLen ∧ xs.length = n ∧ IntsAt w (.slice A n c) xs ∧ ∀ y ∈ xs, (Lit.int .i64 y).wf = true := by
  have row : ∃ A n c zs, v = .slice A n c ∧ n ≤ maxLen ∧ IsRow .i64 w A n c zs := by
    rcases open_ints ht he hC h with ⟨hcs, _⟩ | ⟨a, l, c, zs, hcs, _, hl, hm, hz, _, hcell, hwz⟩
    · simp at hcs
      exact ⟨none, 0, 0, [], hcs, by simp [maxLen], .inl ⟨rfl, rfl, rfl, rfl⟩⟩
    · simp at hcs
      exact ⟨some a, l, c, zs, hcs, by omega, .inr ⟨a, rfl, hl, hm, by simpa using hz, hcell, hwz⟩⟩
  obtain ⟨A, n, c, zs, rfl, hn, hr⟩ := row
  obtain ⟨h1, h2, h3⟩ := ints_of_row hr
  exact ⟨A, n, c, _, rfl, hn, h2, h1, h3⟩
/-- What is known of an event that came in. -/
def EvIn (e : Ev) : Prop := e.args.length ≤ maxLen ∧ e.text.size ≤ maxLen ∧ (Lit.int .i64 e.kind).wf = true ∧ (Lit.int .i64 e.dt).wf = true ∧ ∀ y ∈ e.args, (Lit.int .i64 y).wf = true
theorem event_of_trods {f0 f1 f2 f3 : TypeId} {e : TypeId} {n : Nat} {v0 v1 v2 v3 : Value} {y0 y1 y2 y3 : DataW H × List MemPlace} (t0 : P.underlying f0 = some (.int .i64)) (t1 : P.underlying f1 = some (.int .i64)) (t2 : P.underlying f2 = some (.slice e)) (te : P.underlying e = some (.int .i64)) (hC : P.cellsOf e = 1) (t3 : P.underlying f3 = some .string)
    {n0 n1 n2 n3 : Nat} (h0 : DataW.trod enc P w base (fun _ => true) held n0 f0 [v0] = some y0) (h1 : DataW.trod enc P w base (fun _ => true) held n1 f1 [v1] = some y1) (h2 : DataW.trod enc P w base (fun _ => true) held n2 f2 [v2] = some y2) (h3 : DataW.trod enc P w base (fun _ => true) held n3 f3 [v3] = some y3) :
    ∃ ev : Ev, EvIn ev ∧ v0 = .int .i64 ev.kind ∧ v1 = .int .i64 ev.dt ∧ v3 = .string ev.text ∧ ∃ A c, v2 = .slice A ev.args.length c ∧ IntsAt w (.slice A ev.args.length c) ev.args := by
  obtain ⟨k, e0, _, w0⟩ := DataW.trod_int t0 h0
  obtain ⟨d, e1, _, w1⟩ := DataW.trod_int t1 h1
  obtain ⟨A, m, c, xs, rfl, hm, hl, hI, hx⟩ := ints_of_trod t2 te hC h2
  obtain ⟨s, e3, _, hs⟩ := DataW.trod_string t3 h3
  simp at e0 e1 e3
  subst e0 e1 e3 hl
  exact ⟨⟨k, d, xs, s⟩, ⟨hm, hs, w0, w1, hx⟩, rfl, rfl, rfl, A, c, rfl, hI⟩
theorem open_event {r : Reach} {b0 : Nat} {t e : TypeId} {f0 f1 f2 f3 : Field} {v : Value} {d : DataW H} {p : List MemPlace} (hs : P.underlying t = some (.struct #[f0, f1, f2, f3])) (hone : oneCellFields P #[f0, f1, f2, f3] = true) (hC : P.cellsOf t = 4)
    (t0 : P.underlying f0.type = some (.int .i64)) (t1 : P.underlying f1.type = some (.int .i64)) (t2 : P.underlying f2.type = some (.slice e)) (te : P.underlying e = some (.int .i64)) (hCe : P.cellsOf e = 1) (t3 : P.underlying f3.type = some .string)
    (hv : Value.okWide P w r b0 t v) (h : DataW.Trod enc P w base (fun _ => true) held t v d p) : ∃ ev : Ev, EvAt w v ev ∧ EvIn ev := by
  obtain ⟨v0, v1, v2, v3, y0, y1, y2, y3, n, rfl, _, _, h0, h1, h2, h3⟩ := Go.Joins.open_agg4 hs hone hC hv h
  obtain ⟨ev, hin, rfl, rfl, rfl, A, c, rfl, hI⟩ := event_of_trods (n := n) t0 t1 t2 te hCe t3 h0 h1 h2 h3
  exact ⟨ev, ⟨A, c, rfl, hI⟩, hin⟩
/-- The same, with how much memory the text takes. -/
theorem event_weight {t : TypeId} {f0 f1 f2 f3 : Field} {r : Reach} {b0 : Nat} {v : Value} {d : DataW H} {p : List MemPlace} (hs : P.underlying t = some (.struct #[f0, f1, f2, f3])) (hone : oneCellFields P #[f0, f1, f2, f3] = true) (hC : P.cellsOf t = 4) (t3 : P.underlying f3.type = some .string)
    (hv : Value.okWide P w r b0 t v) (h : DataW.Trod enc P w base (fun _ => true) held t v d p) (hw : (DataW.weights P t d).all (· ≤ reachBytes) = true) : ∀ ev : Ev, EvAt w v ev → ev.text.size ≤ 140737488351232 := by
  obtain ⟨v0, v1, v2, v3, y0, y1, y2, y3, n, rfl, rfl, _, h0, h1, h2, h3⟩ := Go.Joins.open_agg4 hs hone hC hv h
  obtain ⟨s, e3, e4, _⟩ := DataW.trod_string t3 h3
  simp at e3
  subst e3
  subst e4
  intro ev hev
  obtain ⟨A, c, hv', _⟩ := hev
  simp only [Value.agg.injEq] at hv'
  have h3' : Value.string s = .string ev.text := by
    have := congrArg (fun a : Array Value => a[3]?) hv'
    simpa using this
  injection h3' with h3'
  subst h3'
  simp only [DataW.weights, hs, DataW.weightsEach, List.map_cons, List.map_nil, List.all_append, Bool.and_eq_true] at hw
  have := hw.2.2.2.1
  simp [reachBytes] at this
  exact of_decide_eq_true this
theorem open_events {t et e : TypeId} {f0 f1 f2 f3 : Field} {fuel len cap : Nat} {A : Option Addr} {x : DataW H × List MemPlace} (ht : P.underlying t = some (.slice et)) (hs : P.underlying et = some (.struct #[f0, f1, f2, f3])) (hone : oneCellFields P #[f0, f1, f2, f3] = true) (hC : P.cellsOf et = 4)
    (t0 : P.underlying f0.type = some (.int .i64)) (t1 : P.underlying f1.type = some (.int .i64)) (t2 : P.underlying f2.type = some (.slice e)) (te : P.underlying e = some (.int .i64)) (hCe : P.cellsOf e = 1) (t3 : P.underlying f3.type = some .string)
    (h : DataW.trod enc P w base (fun _ => true) held fuel t [.slice A len cap] = some x) : len ≤ maxLen ∧ ∃ l : List Ev, l.length = len ∧ EvsAt w (.slice A len cap) l ∧ ∀ ev ∈ l, EvIn ev := by
  rcases open_slice_fields ht hs hone hC h with ⟨h0, _⟩ | ⟨a, l, c, m, D, Pl, hcs, _, hl, hm, hmm, _, hi⟩
  · simp at h0
    obtain ⟨rfl, rfl, rfl⟩ := h0
    exact ⟨by simp [maxLen], [], rfl, ⟨none, 0, rfl, fun h => by simp at h⟩, by simp⟩
  · simp at hcs
    obtain ⟨rfl, rfl, rfl⟩ := hcs
    have hmc : m = cap := by simpa using hmm
    subst hmc
    have key : ∀ i, i < len → ∃ ev : Ev, EvIn ev ∧ ∃ A' c', w.cell? (a.add (i * 4)) = some (.int .i64 ev.kind) ∧ w.cell? (a.add (i * 4 + 1)) = some (.int .i64 ev.dt) ∧ w.cell? (a.add (i * 4 + 2)) = some (.slice A' ev.args.length c') ∧ w.cell? (a.add (i * 4 + 3)) = some (.string ev.text) ∧ IntsAt w (.slice A' ev.args.length c') ev.args := fun i hi' => by
      obtain ⟨ys, n, _, _, _, hf⟩ := hi i (by omega)
      obtain ⟨v0, y0, c0, _, h0⟩ := hf 0 f0 rfl
      obtain ⟨v1, y1, c1, _, h1⟩ := hf 1 f1 rfl
      obtain ⟨v2, y2, c2, _, h2⟩ := hf 2 f2 rfl
      obtain ⟨v3, y3, c3, _, h3⟩ := hf 3 f3 rfl
      obtain ⟨ev, hin, rfl, rfl, rfl, A', c', rfl, hI⟩ := event_of_trods (n := n) t0 t1 t2 te hCe t3 h0 h1 h2 h3
      exact ⟨ev, hin, A', c', by simpa using c0, by simpa using c1, by simpa using c2, by simpa using c3, hI⟩
    refine ⟨by omega, (List.range len).map fun i => if h : i < len then (key i h).choose else Ev.zero, by simp, ⟨some a, m, by simp, fun h0 => ?_⟩, ?_⟩
    · obtain ⟨b, o, spot⟩ := a
      have hl0 : 0 < len := by simpa using h0
      have hspot : spot = none := by
        obtain ⟨_, _, _, _, hc0, _⟩ := key 0 hl0
        simpa [Addr.add] using World.cell?_spot hc0
      subst hspot
      refine ⟨b, o, rfl, ?_, fun j ev hj => ?_⟩
      · obtain ⟨_, _, _, _, hc0, _⟩ := key 0 hl0
        rw [Addr.add_lit] at hc0
        exact block_lt_of_cell hc0
      · rw [List.getElem?_map] at hj
        have hjl : j < len := by
          rcases Nat.lt_or_ge j len with h | h
          · exact h
          · rw [List.getElem?_eq_none (by simpa using h)] at hj; simp at hj
        rw [List.getElem?_range hjl] at hj
        simp only [Option.map_some, Option.some.injEq, hjl, dif_pos] at hj
        obtain ⟨_, A', c', q0, q1, q2, q3, qI⟩ := (key j hjl).choose_spec
        rw [hj] at q0 q1 q2 q3 qI
        rw [Addr.add_lit] at q0 q1 q2 q3
        refine ⟨A', c', q0, ?_, ?_, ?_, qI⟩
        · rw [← Nat.add_assoc] at q1; exact q1
        · rw [← Nat.add_assoc] at q2; exact q2
        · rw [← Nat.add_assoc] at q3; exact q3
    · intro ev hev
      obtain ⟨i, hi', rfl⟩ := List.mem_map.1 hev
      have hil := List.mem_range.1 hi'
      rw [dif_pos hil]
      exact (key i hil).choose_spec.1
end
end Go.Proofs.Ytcdfpifhjjiioaa
