/-
  Arguments that are tables, and structs of a text, frames and a number, opened.
-/
import Derived.Test.YthkalaohaholaaaLr
import Derived.Test.YthkalaohaholaaaIo
set_option linter.unusedVariables false
set_option linter.unusedSimpArgs false
namespace Go.Proofs.Ythkalaohaholaaa
open Go.ChangeShapes Go.WideShapes Go.Deep Go.RowKit Go.Maps
theorem i64in_of {a : Int} (h : (Lit.int .i64 a).wf = true) : i64in a := by
  simp [Lit.wf, IntKind.min, IntKind.max, IntKind.signed, IntKind.bits] at h
  unfold i64in
  omega
section
variable {H : Type} {enc : TypeId × Value → H} {P : Program} {w : World} {base : Nat} {held : Bool}
theorem cells_two {ta ti : TypeId} {n : Nat} {cs : List Value} {y : DataW H × List MemPlace} (ha : P.underlying ta = some (.array 2 ti)) (hi : P.underlying ti = some (.int .i64)) (c2 : P.cellsOf ta = 2) (c1 : P.cellsOf ti = 1) (h : DataW.trod enc P w base (fun _ => true) held n ta cs = some y) :
    ∃ p : Int × Int, cs = frL p ∧ FrIn p := by
  obtain ⟨xs, m, _, _, hl, hxl, hel⟩ := DataW.trod_array ha h
  rw [c2] at hl
  match cs, hl with
  | [u0, u1], _ =>
    have e0 := hel 0 (by omega)
    have e1 := hel 1 (by omega)
    rw [c1, List.getElem?_eq_getElem (show 0 < xs.length by omega)] at e0
    rw [c1, List.getElem?_eq_getElem (show 1 < xs.length by omega)] at e1
    obtain ⟨a, rfl, wa⟩ := cells_int hi (show DataW.trod enc P w base (fun _ => true) held m ti [u0] = _ from e0)
    obtain ⟨b, rfl, wb⟩ := cells_int hi (show DataW.trod enc P w base (fun _ => true) held m ti [u1] = _ from e1)
    exact ⟨(a, b), rfl, i64in_of wa, i64in_of wb⟩
theorem cells_text {t : TypeId} {n : Nat} {v : Value} {y : DataW H × List MemPlace} (t0 : P.underlying t = some .string) (h : DataW.trod enc P w base (fun _ => true) held n t [v] = some y) : ∃ s : ByteArray, v = .string s ∧ s.size ≤ maxLen := by
  obtain ⟨s, e, _, hs⟩ := DataW.trod_string t0 h
  simp at e
  exact ⟨s, e, hs⟩
theorem cells_frame {e : TypeId} {f0 f1 : Field} {n : Nat} {cs : List Value} {y : DataW H × List MemPlace} (he : P.underlying e = some (.struct #[f0, f1])) (hone : oneCellFields P #[f0, f1] = true) (hC : P.cellsOf e = 2)
    (t0 : P.underlying f0.type = some .string) (t1 : P.underlying f1.type = some (.int .i64)) (h : DataW.trod enc P w base (fun _ => true) held n e cs = some y) : ∃ p : ByteArray × Int, cs = fcL p ∧ FcIn p := by
  obtain ⟨hl, hf⟩ := cells_fields he hone hC h
  obtain ⟨v0, _, _, c0, h0⟩ := hf 0 f0 rfl
  obtain ⟨v1, _, _, c1, h1⟩ := hf 1 f1 rfl
  obtain ⟨s, rfl, ws⟩ := cells_text t0 h0
  obtain ⟨a, rfl, wa⟩ := cells_int t1 h1
  match cs, hl, c0, c1 with
  | [u0, u1], _, c0, c1 =>
    simp only [List.getElem?_cons_zero, List.getElem?_cons_succ, Option.some.injEq] at c0 c1
    subst c0 c1
    exact ⟨(s, a), rfl, ws, i64in_of wa⟩
/-- One of the inner slices. -/
theorem cells_nest {t ta ti : TypeId} {n : Nat} {cs : List Value} {y : DataW H × List MemPlace} (ht : P.underlying t = some (.slice ta)) (ha : P.underlying ta = some (.array 2 ti)) (hi : P.underlying ti = some (.int .i64)) (c2 : P.cellsOf ta = 2) (c1 : P.cellsOf ti = 1) (h : DataW.trod enc P w base (fun _ => true) held n t cs = some y) :
    ∃ l : List (Int × Int), (∃ u, cs = [u] ∧ RowsAt 2 frL w u l) ∧ (l.length ≤ maxLen ∧ ∀ f ∈ l, FrIn f) := by
  obtain ⟨u, rfl⟩ : ∃ u, cs = [u] := by
    rcases open_slice ht h with ⟨h0, _⟩ | ⟨a, l, c, mm, n, D, Pl, hcs, _⟩
    · exact ⟨_, h0⟩
    · exact ⟨_, hcs⟩
  obtain ⟨A, len, cap, rfl⟩ := cells_slice ht h
  obtain ⟨hlen, l, rfl, hr, hg⟩ := open_recs (R := fun _ cs x => cs = frL x) (G := FrIn) (0, 0) ht c2 (by decide) (fun n cs y hy => cells_two ha hi c2 c1 hy) h
  exact ⟨l, ⟨_, rfl, hr.rows⟩, hlen, hg⟩
/-- What is known of a table that came in. -/
structure TbIn (t : Tb) : Prop where
  ss : t.ss.length ≤ maxLen
  ks : t.ks.length ≤ maxLen
  text : ∀ s ∈ t.ss, s.size ≤ maxLen
  len : ∀ l ∈ t.ks, l.length ≤ maxLen
  nums : ∀ l ∈ t.ks, ∀ f ∈ l, FrIn f
theorem open_table {r : Reach} {b0 : Nat} {t es el ta ti : TypeId} {f0 f1 : Field} {v : Value} {d : DataW H} {p : List MemPlace} (hs : P.underlying t = some (.struct #[f0, f1])) (hone : oneCellFields P #[f0, f1] = true) (hC : P.cellsOf t = 2)
    (t0 : P.underlying f0.type = some (.slice es)) (t1 : P.underlying f1.type = some (.slice el)) (te : P.underlying es = some .string) (ce : P.cellsOf es = 1) (tl : P.underlying el = some (.slice ta)) (cl : P.cellsOf el = 1)
    (ha : P.underlying ta = some (.array 2 ti)) (hi : P.underlying ti = some (.int .i64)) (c2 : P.cellsOf ta = 2) (c1 : P.cellsOf ti = 1)
    (hv : Value.okWide P w r b0 t v) (h : DataW.Trod enc P w base (fun _ => true) held t v d p) : ∃ x : Tb, TabAt w v x ∧ TbIn x := by
  obtain ⟨v0, v1, y0, y1, n, rfl, _, _, h0, h1⟩ := Go.Joins.open_agg2 hs hone hC hv h
  obtain ⟨A, len, cap, rfl⟩ := cells_slice t0 h0
  obtain ⟨B, m, d, rfl⟩ := cells_slice t1 h1
  obtain ⟨m1, ss, rfl, hss, wss⟩ := open_recs (R := fun _ cs x => cs = strL x) (G := fun s => s.size ≤ maxLen) ByteArray.empty t0 ce (by decide) (fun n cs y hy => by
    obtain ⟨s, e, _, hs⟩ := DataW.trod_string te hy
    exact ⟨s, e, hs⟩) h0
  obtain ⟨m2, ks, rfl, hks, wks⟩ := open_recs (R := fun w cs x => ∃ u, cs = [u] ∧ RowsAt 2 frL w u x) (G := fun l => l.length ≤ maxLen ∧ ∀ f ∈ l, FrIn f) [] t1 cl (by decide) (fun n cs y hy => cells_nest tl ha hi c2 c1 hy) h1
  refine ⟨⟨ss, ks⟩, ⟨_, _, rfl, hss.rows, ?_⟩, m1, m2, wss, fun l hl => (wks l hl).1, fun l hl => (wks l hl).2⟩
  obtain ⟨A', c', hv', hc', hA'⟩ := hks
  have key : ∀ i, i < ks.length → ∃ u, (∃ b o, A' = some ⟨b, o, none⟩ ∧ b < w.heap.size ∧ w.cell? ⟨b, o + i, none⟩ = some u) ∧ ∀ l, ks[i]? = some l → RowsAt 2 frL w u l := fun i hi => by
    obtain ⟨b, o, hb, hlt, hcell⟩ := hA' (by omega)
    obtain ⟨cs, h1, ⟨u, rfl, hr⟩, h3⟩ := hcell i _ (List.getElem?_eq_getElem hi)
    refine ⟨u, ⟨b, o, hb, hlt, by have := h3 0 u rfl; rwa [Nat.mul_one, Nat.add_zero] at this⟩, fun l hl => ?_⟩
    rw [List.getElem?_eq_getElem hi] at hl
    rw [← Option.some.inj hl]
    exact hr
  have hlen : ((List.range ks.length).map fun i => if h : i < ks.length then (key i h).choose else Value.nilIface).length = ks.length := by simp
  refine ⟨(List.range ks.length).map fun i => if h : i < ks.length then (key i h).choose else Value.nilIface, hlen, ⟨A', c', by rw [hlen]; exact hv', by rw [hlen]; exact hc', fun h0 => ?_⟩, fun i u xs hu hxs => ?_⟩
  · rw [hlen] at h0
    obtain ⟨b, o, hb, hlt, hcell⟩ := hA' h0
    refine ⟨b, o, hb, hlt, fun j x hj i u hu => ?_⟩
    have hjl : j < ks.length := by have := (List.getElem?_eq_some_iff.1 hj).1; simpa using this
    have hi0 : i = 0 := by have := (List.getElem?_eq_some_iff.1 hu).1; simp [oneL] at this; exact this
    subst hi0
    simp only [oneL, List.getElem?_cons_zero, Option.some.injEq] at hu
    subst hu
    rw [List.getElem?_map, List.getElem?_range hjl] at hj
    simp only [Option.map_some, Option.some.injEq, hjl, dif_pos] at hj
    obtain ⟨⟨b', o', hb', _, hc⟩, _⟩ := (key j hjl).choose_spec
    rw [hb] at hb'
    simp only [Option.some.injEq, Addr.mk.injEq, and_true] at hb'
    obtain ⟨rfl, rfl⟩ := hb'
    rw [← hj, Nat.mul_one, Nat.add_zero]
    exact hc
  · have hil : i < ks.length := (List.getElem?_eq_some_iff.1 hxs).1
    rw [List.getElem?_map, List.getElem?_range hil] at hu
    simp only [Option.map_some, Option.some.injEq, hil, dif_pos] at hu
    rw [← hu]
    exact (key i hil).choose_spec.2 xs hxs
/-- A text, frames, a number. -/
def AskAt (w : World) (v : Value) (s : ByteArray) (l : List (ByteArray × Int)) (n : Int) : Prop := ∃ A c, v = .agg #[.string s, .slice A l.length c, .int .i64 n] ∧ RowsAt 2 fcL w (.slice A l.length c) l
structure AskIn (s : ByteArray) (l : List (ByteArray × Int)) (n : Int) : Prop where
  text : s.size ≤ maxLen
  len : l.length ≤ maxLen
  frames : ∀ f ∈ l, FcIn f
  num : i64in n
theorem open_ask {r : Reach} {b0 : Nat} {t ef : TypeId} {f0 f1 f2 g0 g1 : Field} {v : Value} {d : DataW H} {p : List MemPlace} (hs : P.underlying t = some (.struct #[f0, f1, f2])) (hone : oneCellFields P #[f0, f1, f2] = true) (hC : P.cellsOf t = 3)
    (t0 : P.underlying f0.type = some .string) (t1 : P.underlying f1.type = some (.slice ef)) (t2 : P.underlying f2.type = some (.int .i64))
    (he : P.underlying ef = some (.struct #[g0, g1])) (heo : oneCellFields P #[g0, g1] = true) (heC : P.cellsOf ef = 2) (tg0 : P.underlying g0.type = some .string) (tg1 : P.underlying g1.type = some (.int .i64))
    (hv : Value.okWide P w r b0 t v) (h : DataW.Trod enc P w base (fun _ => true) held t v d p) : ∃ s l n, AskAt w v s l n ∧ AskIn s l n := by
  obtain ⟨v0, v1, v2, y0, y1, y2, n, rfl, _, _, h0, h1, h2⟩ := Go.Joins.open_agg3 hs hone hC hv h
  obtain ⟨s, rfl, ws⟩ := cells_text t0 h0
  obtain ⟨A, len, cap, rfl⟩ := cells_slice t1 h1
  obtain ⟨a, rfl, wa⟩ := cells_int t2 h2
  obtain ⟨m1, l, rfl, hl, wl⟩ := open_recs (R := fun _ cs x => cs = fcL x) (G := FcIn) (ByteArray.empty, 0) t1 heC (by decide) (fun n cs y hy => cells_frame he heo heC tg0 tg1 hy) h1
  exact ⟨s, l, a, ⟨A, cap, rfl, hl.rows⟩, ws, m1, wl, i64in_of wa⟩
end
end Go.Proofs.Ythkalaohaholaaa
