/-
  Several texts in one: Ld, Li.
-/
import Derived.Test.YtbcclhahpcbadaaK19
import Derived.Lib.SmallJoins
import Derived.Test.YtbcclhahpcbadaaK23
import Derived.Test.YtbcclhahpcbadaaK08
import Derived.Test.YtbcclhahpcbadaaK18
import Derived.SizedLaws
/-
  Arguments that are structs of a row of eight numbers and two numbers, opened.
-/
set_option linter.unusedVariables false
set_option linter.unusedSimpArgs false
namespace Go.Proofs.Ytbcclhahpcbadaa
open Go.ChangeShapes Go.WideShapes Go.Deep Go.RowKit
section
variable {H : Type} {enc : TypeId × Value → H} {P : Program} {w : World} {base : Nat} {held : Bool}
theorem okWide_struct {fs : Array Field} {r : Reach} {b0 : Nat} {t : TypeId} {v : Value} (ht : P.underlying t = some (.struct fs)) (h : Value.okWide P w r b0 t v) : ∃ cs, v = .agg cs ∧ cs.size = P.cellsOf t := by
  simp only [Value.okWide, ht] at h
  obtain ⟨cs, h1, h2, _⟩ := h
  exact ⟨cs, h1, h2⟩
theorem array10 {α : Type} {cs : Array α} (h : cs.size = 10) : ∃ c0 c1 c2 c3 c4 c5 c6 c7 c8 c9, cs = #[c0, c1, c2, c3, c4, c5, c6, c7, c8, c9] := by
  obtain ⟨l⟩ := cs
  match l, h with
  | [c0, c1, c2, c3, c4, c5, c6, c7, c8, c9], _ => exact ⟨c0, c1, c2, c3, c4, c5, c6, c7, c8, c9, rfl⟩
theorem ring_cells {t e : TypeId} {f0 f1 f2 : Field} {n : Nat} {c0 c1 c2 c3 c4 c5 c6 c7 c8 c9 : Value} {x : DataW H × List MemPlace} (hs : P.underlying t = some (.struct #[f0, f1, f2]))
    (o : f0.offset = 0 ∧ f1.offset = 8 ∧ f2.offset = 9) (hc : P.cellsOf f0.type = 8 ∧ P.cellsOf f1.type = 1 ∧ P.cellsOf f2.type = 1) (ta : P.underlying f0.type = some (.array 8 e)) (te : P.underlying e = some (.int .i64)) (hce : P.cellsOf e = 1)
    (t1 : P.underlying f1.type = some (.int .i64)) (t2 : P.underlying f2.type = some (.int .i64)) (h : DataW.trod enc P w base (fun _ => true) held n t [c0, c1, c2, c3, c4, c5, c6, c7, c8, c9] = some x) :
    ∃ b0 b1 b2 b3 b4 b5 b6 b7 hd nn : Int, [c0, c1, c2, c3, c4, c5, c6, c7, c8, c9] = [b0, b1, b2, b3, b4, b5, b6, b7, hd, nn].map (Value.int .i64) ∧ ∀ z ∈ [b0, b1, b2, b3, b4, b5, b6, b7, hd, nn], (Lit.int .i64 z).wf = true := by
  obtain ⟨xs, m, _, _, _, hl, hf⟩ := DataW.trod_struct hs h
  match xs, hl with
  | [y0, y1, y2], _ =>
    have h0 := hf 0 f0 rfl
    have h1 := hf 1 f1 rfl
    have h2 := hf 2 f2 rfl
    rw [o.1, hc.1] at h0
    rw [o.2.1, hc.2.1] at h1
    rw [o.2.2, hc.2.2] at h2
    obtain ⟨x8, e8, _, w8⟩ := DataW.trod_int t1 h1
    obtain ⟨x9, e9, _, w9⟩ := DataW.trod_int t2 h2
    obtain ⟨ys, m', _, _, _, hl', hel⟩ := DataW.trod_array ta h0
    have at8 : ∀ i (hi : i < 8), ∃ z : Int, ([c0, c1, c2, c3, c4, c5, c6, c7, c8, c9] : List Value)[i]? = some (.int .i64 z) ∧ (Lit.int .i64 z).wf = true := fun i hi => by
      have hi1 := hel i hi
      rw [hce, Nat.mul_one] at hi1
      have hy : ys[i]? = some (ys[i]'(by omega)) := List.getElem?_eq_getElem (by omega)
      rw [hy] at hi1
      obtain ⟨z, ez, _, wz⟩ := DataW.trod_int te hi1
      refine ⟨z, ?_, wz⟩
      have e2 := congrArg (·[0]?) ez
      simp only [List.getElem?_take, List.getElem?_drop, List.getElem?_cons_zero] at e2
      have e3 : i < 8 ∧ [c0, c1, c2, c3, c4, c5, c6, c7, c8, c9][i]? = some (Value.int IntKind.i64 z) := by simpa using e2
      exact e3.2
    obtain ⟨z0, e0, w0⟩ := at8 0 (by omega)
    obtain ⟨z1, e1, w1⟩ := at8 1 (by omega)
    obtain ⟨z2, e2, w2⟩ := at8 2 (by omega)
    obtain ⟨z3, e3, w3⟩ := at8 3 (by omega)
    obtain ⟨z4, e4, w4⟩ := at8 4 (by omega)
    obtain ⟨z5, e5, w5⟩ := at8 5 (by omega)
    obtain ⟨z6, e6, w6⟩ := at8 6 (by omega)
    obtain ⟨z7, e7, w7⟩ := at8 7 (by omega)
    simp at e0 e1 e2 e3 e4 e5 e6 e7 e8 e9
    subst e0 e1 e2 e3 e4 e5 e6 e7 e8 e9
    refine ⟨z0, z1, z2, z3, z4, z5, z6, z7, x8, x9, rfl, fun z hz => ?_⟩
    simp only [List.mem_cons, List.not_mem_nil, or_false] at hz
    rcases hz with rfl | rfl | rfl | rfl | rfl | rfl | rfl | rfl | rfl | rfl <;> assumption
theorem open_ring {r : Reach} {b : Nat} {t e : TypeId} {f0 f1 f2 : Field} {v : Value} {d : DataW H} {p : List MemPlace} (hs : P.underlying t = some (.struct #[f0, f1, f2])) (hC : P.cellsOf t = 10)
    (o : f0.offset = 0 ∧ f1.offset = 8 ∧ f2.offset = 9) (hc : P.cellsOf f0.type = 8 ∧ P.cellsOf f1.type = 1 ∧ P.cellsOf f2.type = 1) (ta : P.underlying f0.type = some (.array 8 e)) (te : P.underlying e = some (.int .i64)) (hce : P.cellsOf e = 1)
    (t1 : P.underlying f1.type = some (.int .i64)) (t2 : P.underlying f2.type = some (.int .i64))
    (hv : Value.okWide P w r b t v) (h : DataW.Trod enc P w base (fun _ => true) held t v d p) :
    ∃ b0 b1 b2 b3 b4 b5 b6 b7 hd nn : Int, v = .agg #[.int .i64 b0, .int .i64 b1, .int .i64 b2, .int .i64 b3, .int .i64 b4, .int .i64 b5, .int .i64 b6, .int .i64 b7, .int .i64 hd, .int .i64 nn] ∧ ∀ z ∈ [b0, b1, b2, b3, b4, b5, b6, b7, hd, nn], (Lit.int .i64 z).wf = true := by
  obtain ⟨cs, rfl, hsz⟩ := okWide_struct hs hv
  obtain ⟨c0, c1, c2, c3, c4, c5, c6, c7, c8, c9, rfl⟩ := array10 (hsz.trans hC)
  obtain ⟨fuel, hf⟩ := h
  obtain ⟨b0, b1, b2, b3, b4, b5, b6, b7, hd, nn, he, hw⟩ := ring_cells (n := fuel) hs o hc ta te hce t1 t2 hf
  simp only [List.map_cons, List.map_nil, List.cons.injEq, and_true] at he
  obtain ⟨rfl, rfl, rfl, rfl, rfl, rfl, rfl, rfl, rfl, rfl⟩ := he
  exact ⟨b0, b1, b2, b3, b4, b5, b6, b7, hd, nn, rfl, hw⟩
end
end Go.Proofs.Ytbcclhahpcbadaa
/-
  Arguments that are programs and states, opened.
-/
set_option linter.unusedVariables false
set_option linter.unusedSimpArgs false
namespace Go.Proofs.Ytbcclhahpcbadaa
open Go.ChangeShapes Go.WideShapes Go.Deep Go.RowKit

section
variable {H : Type} {enc : TypeId × Value → H} {P : Program} {w : World} {base : Nat} {held : Bool}
theorem RecsAt.nest {α : Type} {m : Nat} {f : α → List Value} {v : Value} {ks : List (List α)} (hks : RecsAt 1 (fun w cs x => ∃ u, cs = [u] ∧ RowsAt m f w u x) w v ks) : NestAt m f w v ks := by
  obtain ⟨A', c', hv', hc', hA'⟩ := hks
  have key : ∀ i, i < ks.length → ∃ u, (∃ b o, A' = some ⟨b, o, none⟩ ∧ b < w.heap.size ∧ w.cell? ⟨b, o + i, none⟩ = some u) ∧ ∀ l, ks[i]? = some l → RowsAt m f w u l := fun i hi => by
    obtain ⟨b, o, hb, hlt, hcell⟩ := hA' (by omega)
    obtain ⟨cs, h1, ⟨u, rfl, hr⟩, h3⟩ := hcell i _ (List.getElem?_eq_getElem hi)
    refine ⟨u, ⟨b, o, hb, hlt, by have := h3 0 u rfl; rwa [Nat.mul_one, Nat.add_zero] at this⟩, fun l hl => ?_⟩
    rw [List.getElem?_eq_getElem hi] at hl
    rw [← Option.some.inj hl]
    exact hr
  have hlen : ((List.range ks.length).map fun i => if h : i < ks.length then (key i h).choose else Value.nilIface).length = ks.length := by simp
  refine ⟨(List.range ks.length).map fun i => if h : i < ks.length then (key i h).choose else Value.nilIface, hlen, ⟨A', c', by rw [hlen]; exact hv', by rw [hlen]; exact hc', fun h0 => ?_⟩, fun i u xs hu hxs => ?_⟩
  · rw [hlen] at h0
    obtain ⟨b, o, hb, hlt, hcell⟩ := hA' h0
    refine ⟨b, o, hb, hlt, fun j x hj i u hu => ?_⟩
    have hjl : j < ks.length := by have := (List.getElem?_eq_some_iff.1 hj).1; simpa using this
    have hi0 : i = 0 := by have := (List.getElem?_eq_some_iff.1 hu).1; simp [oneL] at this; exact this
    subst hi0
    simp only [oneL, List.getElem?_cons_zero, Option.some.injEq] at hu
    subst hu
    rw [List.getElem?_map, List.getElem?_range hjl] at hj
    simp only [Option.map_some, Option.some.injEq, hjl, dif_pos] at hj
    obtain ⟨⟨b', o', hb', _, hc⟩, _⟩ := (key j hjl).choose_spec
    rw [hb] at hb'
    simp only [Option.some.injEq, Addr.mk.injEq, and_true] at hb'
    obtain ⟨rfl, rfl⟩ := hb'
    rw [← hj, Nat.mul_one, Nat.add_zero]
    exact hc
  · have hil : i < ks.length := (List.getElem?_eq_some_iff.1 hxs).1
    rw [List.getElem?_map, List.getElem?_range hil] at hu
    simp only [Option.map_some, Option.some.injEq, hil, dif_pos] at hu
    rw [← hu]
    exact (key i hil).choose_spec.2 xs hxs
/-- How long a slice of a sized argument is. -/
theorem slice_weight {t e : TypeId} {fuel len cap : Nat} {A : Option Addr} {y : DataW H × List MemPlace} (ht : P.underlying t = some (.slice e)) (h : DataW.trod enc P w base (fun _ => true) held fuel t [.slice A len cap] = some y) (hw : (DataW.weights P t y.1).all (· ≤ reachBytes) = true) (hb : 8 ≤ P.bytesOf e) : len ≤ 140737488355328 := by
  rcases open_slice ht h with ⟨h0, _⟩ | ⟨a, l, c, mm, n, D, Pl, hcs, _, hl, hm, hmm, hx, hi⟩
  · simp at h0
    omega
  · simp at hcs
    obtain ⟨rfl, rfl, rfl⟩ := hcs
    rw [hx] at hw
    simp only [DataW.weights, ht, List.all_cons, Bool.and_eq_true, decide_eq_true_eq, List.length_map, List.length_range] at hw
    have h1 := hw.1
    unfold reachBytes at h1
    have h2 : len * 8 ≤ (len + (mm - len)) * P.bytesOf e := Nat.mul_le_mul (by omega) hb
    omega
end
section
variable {H : Type} {enc : TypeId × Value → H} {w : World} {base : Nat} {held : Bool}
theorem cells_code {n : Nat} {cs : List Value} {y : DataW H × List MemPlace} (h : DataW.trod enc Try.prog w base (fun _ => true) held n 61 cs = some y) :
    ∃ l : List (Int × Int), (∃ u, cs = [u] ∧ RowsAt 2 pairL w u l) ∧ l.length ≤ maxLen := by
  obtain ⟨u, rfl⟩ : ∃ u, cs = [u] := by
    rcases open_slice Try.underlying61 h with ⟨h0, _⟩ | ⟨a, l, c, mm, n, D, Pl, hcs, _⟩
    · exact ⟨_, h0⟩
    · exact ⟨_, hcs⟩
  obtain ⟨A, len, cap, rfl⟩ := cells_slice Try.underlying61 h
  obtain ⟨hlen, l, rfl, hr, _⟩ := open_recs (m := 2) (R := fun _ cs x => cs = pairL x) (G := fun _ => True) (0, 0) Try.underlying61 (by kernel_rfl) (by decide) (fun n cs y hy => by
    obtain ⟨p, e, _⟩ := cells_pair Try.underlying63 (by kernel_rfl) (by kernel_rfl) Try.underlying3 Try.underlying3 hy
    exact ⟨p, e, trivial⟩) h
  exact ⟨l, ⟨_, rfl, hr.rows⟩, hlen⟩
theorem prog_of_trod {n : Nat} {v : Value} {y : DataW H × List MemPlace} (h : DataW.trod enc Try.prog w base (fun _ => true) held n 23 [v] = some y) :
    ∃ p, NestAt 2 pairL w v p ∧ p.length ≤ maxLen ∧ ∀ l ∈ p, l.length ≤ maxLen := by
  obtain ⟨A, len, cap, rfl⟩ := cells_slice Try.underlying23 h
  obtain ⟨hlen, p, rfl, hr, hg⟩ := open_recs (m := 1) (R := fun w cs x => ∃ u, cs = [u] ∧ RowsAt 2 pairL w u x) (G := fun l => l.length ≤ maxLen) [] Try.underlying23 (by kernel_rfl) (by decide) (fun n cs y hy => cells_code hy) h
  exact ⟨p, hr.nest, hlen, hg⟩
theorem cells_g {n : Nat} {cs : List Value} {y : DataW H × List MemPlace} (h : DataW.trod enc Try.prog w base (fun _ => true) held n 50 cs = some y) : ∃ g : Gr, cs = gL g ∧ True := by
  obtain ⟨hl, hf⟩ := cells_fields Try.underlying50 (by kernel_rfl) (by kernel_rfl) h
  obtain ⟨v0, _, _, c0, h0⟩ := hf 0 _ rfl
  obtain ⟨v1, _, _, c1, h1⟩ := hf 1 _ rfl
  obtain ⟨v2, _, _, c2, h2⟩ := hf 2 _ rfl
  obtain ⟨v3, _, _, c3, h3⟩ := hf 3 _ rfl
  obtain ⟨v4, _, _, c4, h4⟩ := hf 4 _ rfl
  obtain ⟨a0, rfl, _⟩ := cells_int Try.underlying3 h0
  obtain ⟨a1, rfl, _⟩ := cells_int Try.underlying3 h1
  obtain ⟨a2, rfl, _⟩ := cells_int Try.underlying3 h2
  obtain ⟨a3, rfl, _⟩ := cells_int Try.underlying3 h3
  obtain ⟨a4, rfl, _⟩ := cells_int Try.underlying3 h4
  match cs, hl, c0, c1, c2, c3, c4 with
  | [u0, u1, u2, u3, u4], _, c0, c1, c2, c3, c4 =>
    simp only [List.getElem?_cons_zero, List.getElem?_cons_succ, Option.some.injEq] at c0 c1 c2 c3 c4
    subst c0 c1 c2 c3 c4
    exact ⟨⟨a0, a1, a2, a3, a4⟩, rfl, trivial⟩
set_option maxRecDepth 100000 in
theorem cells_p {n : Nat} {cs : List Value} {y : DataW H × List MemPlace} (h : DataW.trod enc Try.prog w base (fun _ => true) held n 59 cs = some y) : ∃ p : Pr, cs = pL p ∧ p.ring.buf.length = 8 := by
  obtain ⟨xs, m, _, _, hl, hxl, hf⟩ := DataW.trod_struct Try.underlying59 h
  have hl13 : cs.length = 13 := hl.trans (by kernel_rfl)
  match xs, hxl with
  | [y0, y1, y2, y3], _ =>
    have h0 := hf 0 _ rfl
    have h1 := hf 1 _ rfl
    have h2 := hf 2 _ rfl
    have h3 := hf 3 _ rfl
    match cs, hl13 with
    | [c0, c1, c2, c3, c4, c5, c6, c7, c8, c9, c10, c11, c12], _ =>
      obtain ⟨a0, e0, _⟩ := DataW.trod_int Try.underlying3 (show DataW.trod enc Try.prog w base (fun _ => true) held m 3 [c0] = some y0 from h0)
      obtain ⟨a1, e1, _⟩ := DataW.trod_int Try.underlying3 (show DataW.trod enc Try.prog w base (fun _ => true) held m 3 [c1] = some y1 from h1)
      obtain ⟨a3, e3, _⟩ := DataW.trod_int Try.underlying3 (show DataW.trod enc Try.prog w base (fun _ => true) held m 3 [c12] = some y3 from h3)
      obtain ⟨b0, b1, b2, b3, b4, b5, b6, b7, hd, nn, he, _⟩ := ring_cells Try.underlying57 ⟨rfl, rfl, rfl⟩ ⟨by kernel_rfl, by kernel_rfl, by kernel_rfl⟩ Try.underlying55 Try.underlying3 (by kernel_rfl) Try.underlying3 Try.underlying3 (show DataW.trod enc Try.prog w base (fun _ => true) held m 57 [c2, c3, c4, c5, c6, c7, c8, c9, c10, c11] = some y2 from h2)
      simp at e0 e1 e3
      simp only [List.map_cons, List.map_nil, List.cons.injEq, and_true] at he
      obtain ⟨rfl, rfl, rfl, rfl, rfl, rfl, rfl, rfl, rfl, rfl⟩ := he
      subst e0 e1 e3
      exact ⟨⟨a0, a1, ⟨[b0, b1, b2, b3, b4, b5, b6, b7], hd, nn⟩, a3⟩, rfl, rfl⟩
set_option maxRecDepth 100000 in
theorem ints_sized {n : Nat} {v : Value} {y : DataW H × List MemPlace} (h : DataW.trod enc Try.prog w base (fun _ => true) held n 27 [v] = some y) (hw : (DataW.weights Try.prog 27 y.1).all (· ≤ reachBytes) = true) :
    ∃ A c l, v = .slice A l.length c ∧ IntsAt w (.slice A l.length c) l ∧ l.length ≤ 140737488355328 := by
  obtain ⟨A, len, cap, rfl⟩ := cells_slice Try.underlying27 h
  obtain ⟨hlen, l, rfl, hr, hg⟩ := open_recs (m := 1) (R := fun _ cs x => cs = numL x) (G := fun _ => True) 0 Try.underlying27 (by kernel_rfl) (by decide) (fun n cs y hy => by
    obtain ⟨a, e, _⟩ := DataW.trod_int Try.underlying3 hy
    exact ⟨a, e, trivial⟩) h
  refine ⟨A, cap, l, rfl, ?_, slice_weight Try.underlying27 h hw (Nat.le_of_ble_eq_true (by kernel_rfl))⟩
  obtain ⟨A', c', hv, _, hA⟩ := hr.rows
  refine ⟨A', c', hv, fun h0 => ?_⟩
  obtain ⟨b, o, hb, hlt, hc⟩ := hA h0
  exact ⟨b, o, hb, hlt, fun j x hj => by have := hc j x hj 0 _ rfl; rwa [Nat.mul_one, Nat.add_zero] at this⟩
theorem wf_i64ok {a : Int} (h : (Lit.int .i64 a).wf = true) : i64ok a := by
  simp [Lit.wf, IntKind.min, IntKind.max, IntKind.signed, IntKind.bits] at h
  unfold i64ok
  omega
theorem array16 {α : Type} {cs : Array α} (h : cs.size = 16) : ∃ c0 c1 c2 c3 c4 c5 c6 c7 c8 c9 c10 c11 c12 c13 c14 c15, cs = #[c0, c1, c2, c3, c4, c5, c6, c7, c8, c9, c10, c11, c12, c13, c14, c15] := by
  obtain ⟨l⟩ := cs
  match l, h with
  | [c0, c1, c2, c3, c4, c5, c6, c7, c8, c9, c10, c11, c12, c13, c14, c15], _ => exact ⟨c0, c1, c2, c3, c4, c5, c6, c7, c8, c9, c10, c11, c12, c13, c14, c15, rfl⟩
set_option maxRecDepth 100000 in
theorem open_state {r : Reach} {b : Nat} {v : Value} {d : DataW H} {p : List MemPlace} (hv : Value.okWide Try.prog w r b 32 v) (h : DataW.Trod enc Try.prog w base (fun _ => true) held 32 v d p)
    (hw : (DataW.weights Try.prog 32 d).all (· ≤ reachBytes) = true) : ∃ hh s, v = stV hh s ∧ StOk w hh s ∧ StIn s := by
  obtain ⟨cs, rfl, hsz⟩ := okWide_struct Try.underlying32 hv
  obtain ⟨c0, c1, c2, c3, c4, c5, c6, c7, c8, c9, c10, c11, c12, c13, c14, c15, rfl⟩ := array16 (hsz.trans (by kernel_rfl))
  obtain ⟨fuel, hf⟩ := h
  obtain ⟨xs, m, _, hd, _, hxl, hfd⟩ := DataW.trod_struct Try.underlying32 hf
  match xs, hxl with
  | [y0, y1, y2, y3, y4, y5, y6, y7, y8, y9], _ =>
    have h0 : DataW.trod enc Try.prog w base (fun _ => true) held m 23 [c0] = some y0 := hfd 0 _ rfl
    have h1 : DataW.trod enc Try.prog w base (fun _ => true) held m 24 [c1] = some y1 := hfd 1 _ rfl
    have h2 : DataW.trod enc Try.prog w base (fun _ => true) held m 25 [c2] = some y2 := hfd 2 _ rfl
    have h3 : DataW.trod enc Try.prog w base (fun _ => true) held m 26 [c3] = some y3 := hfd 3 _ rfl
    have h4 : DataW.trod enc Try.prog w base (fun _ => true) held m 27 [c4] = some y4 := hfd 4 _ rfl
    have h5 : DataW.trod enc Try.prog w base (fun _ => true) held m 28 [c5, c6, c7, c8] = some y5 := hfd 5 _ rfl
    have h6 : DataW.trod enc Try.prog w base (fun _ => true) held m 29 [c9, c10, c11, c12] = some y6 := hfd 6 _ rfl
    have h7 : DataW.trod enc Try.prog w base (fun _ => true) held m 30 [c13] = some y7 := hfd 7 _ rfl
    have h8 : DataW.trod enc Try.prog w base (fun _ => true) held m 3 [c14] = some y8 := hfd 8 _ rfl
    have h9 : DataW.trod enc Try.prog w base (fun _ => true) held m 3 [c15] = some y9 := hfd 9 _ rfl
    simp only [Prod.mk.injEq] at hd
    rw [hd.1] at hw
    simp only [DataW.weights, Try.underlying32, DataW.weightsEach, List.map_cons, List.map_nil, List.all_append, Bool.and_eq_true] at hw
    obtain ⟨w0, w1, w2, w3, w4, w5, w6, w7, w8, w9, _⟩ := hw
    obtain ⟨pr, hp, hp1, hp2⟩ := prog_of_trod h0
    obtain ⟨A1, n1, k1, rfl⟩ := cells_slice Try.underlying24 h1
    have g1 := slice_weight Try.underlying24 h1 w1 (Nat.le_of_ble_eq_true (by kernel_rfl))
    obtain ⟨_, gs, rfl, hg, _⟩ := open_recs (m := 5) (R := fun _ cs x => cs = gL x) (G := fun _ => True) St.nilG Try.underlying24 (by kernel_rfl) (by decide) (fun n cs y hy => cells_g hy) h1
    obtain ⟨A2, n2, k2, rfl⟩ := cells_slice Try.underlying25 h2
    have g2 := slice_weight Try.underlying25 h2 w2 (Nat.le_of_ble_eq_true (by kernel_rfl))
    obtain ⟨_, ps, rfl, hps, hpb⟩ := open_recs (m := 13) (R := fun _ cs x => cs = pL x) (G := fun p => p.ring.buf.length = 8) St.nilP Try.underlying25 (by kernel_rfl) (by decide) (fun n cs y hy => cells_p hy) h2
    obtain ⟨A3, n3, k3, rfl⟩ := cells_slice Try.underlying26 h3
    have g3 := slice_weight Try.underlying26 h3 w3 (Nat.le_of_ble_eq_true (by kernel_rfl))
    obtain ⟨_, ms, rfl, hms, _⟩ := open_recs (m := 2) (R := fun _ cs x => cs = pairL x) (G := fun _ => True) (0, 0) Try.underlying26 (by kernel_rfl) (by decide) (fun n cs y hy => by
      obtain ⟨p, e, _⟩ := cells_pair Try.underlying77 (by kernel_rfl) (by kernel_rfl) Try.underlying3 Try.underlying3 hy
      exact ⟨p, e, trivial⟩) h3
    obtain ⟨A4, k4, gl, rfl, hgl, g4⟩ := ints_sized h4 w4
    obtain ⟨zs, m5, _, hz5, _, hzl, hz⟩ := DataW.trod_array Try.underlying28 h5
    have ci : Try.prog.cellsOf 3 = 1 := by kernel_rfl
    have cn : Try.prog.cellsOf 27 = 1 := by kernel_rfl
    match zs, hzl with
    | [z0, z1, z2, z3], _ =>
      have i0 := hz 0 (by omega)
      have i1 := hz 1 (by omega)
      have i2 := hz 2 (by omega)
      have i3 := hz 3 (by omega)
      simp only [ci] at i0 i1 i2 i3
      obtain ⟨a0, e0, _⟩ := DataW.trod_int Try.underlying3 (show DataW.trod enc Try.prog w base (fun _ => true) held m5 3 [c5] = some z0 from i0)
      obtain ⟨a1, e1, _⟩ := DataW.trod_int Try.underlying3 (show DataW.trod enc Try.prog w base (fun _ => true) held m5 3 [c6] = some z1 from i1)
      obtain ⟨a2, e2, _⟩ := DataW.trod_int Try.underlying3 (show DataW.trod enc Try.prog w base (fun _ => true) held m5 3 [c7] = some z2 from i2)
      obtain ⟨a3, e3, _⟩ := DataW.trod_int Try.underlying3 (show DataW.trod enc Try.prog w base (fun _ => true) held m5 3 [c8] = some z3 from i3)
      simp only [List.cons.injEq, and_true] at e0 e1 e2 e3
      subst e0 e1 e2 e3
      obtain ⟨qs, m6, _, hq6, _, hql, hq⟩ := DataW.trod_array Try.underlying29 h6
      match qs, hql with
      | [q0, q1, q2, q3], _ =>
        have j0 := hq 0 (by omega)
        have j1 := hq 1 (by omega)
        have j2 := hq 2 (by omega)
        have j3 := hq 3 (by omega)
        simp only [cn] at j0 j1 j2 j3
        rw [hq6] at w6
        simp only [DataW.weights, Try.underlying29, DataW.weightsAll, List.map_cons, List.map_nil, List.all_append, Bool.and_eq_true] at w6
        obtain ⟨v0, v1, v2, v3, _⟩ := w6
        obtain ⟨B0, l0, x0, rfl, hx0, b0⟩ := ints_sized (show DataW.trod enc Try.prog w base (fun _ => true) held m6 27 [c9] = some q0 from j0) v0
        obtain ⟨B1, l1, x1, rfl, hx1, b1⟩ := ints_sized (show DataW.trod enc Try.prog w base (fun _ => true) held m6 27 [c10] = some q1 from j1) v1
        obtain ⟨B2, l2, x2, rfl, hx2, b2⟩ := ints_sized (show DataW.trod enc Try.prog w base (fun _ => true) held m6 27 [c11] = some q2 from j2) v2
        obtain ⟨B3, l3, x3, rfl, hx3, b3⟩ := ints_sized (show DataW.trod enc Try.prog w base (fun _ => true) held m6 27 [c12] = some q3 from j3) v3
        obtain ⟨A7, n7, k7, rfl⟩ := cells_slice Try.underlying30 h7
        have g7 := slice_weight Try.underlying30 h7 w7 (Nat.le_of_ble_eq_true (by kernel_rfl))
        obtain ⟨_, ts, rfl, hts, htn⟩ := open_recs (m := 2) (R := fun _ cs x => cs = pairL x) (G := fun p => i64ok p.1 ∧ i64ok p.2) (0, 0) Try.underlying30 (by kernel_rfl) (by decide) (fun n cs y hy => by
          obtain ⟨p, e, wa, wb⟩ := cells_pair Try.underlying81 (by kernel_rfl) (by kernel_rfl) Try.underlying3 Try.underlying3 hy
          exact ⟨p, e, wf_i64ok wa, wf_i64ok wb⟩) h7
        obtain ⟨ck, e8, _⟩ := DataW.trod_int Try.underlying3 h8
        obtain ⟨pc, e9, _⟩ := DataW.trod_int Try.underlying3 h9
        simp only [List.cons.injEq, and_true] at e8 e9
        subst e8 e9
        obtain ⟨A0, k0, rfl, _⟩ := hp.form
        exact ⟨⟨A0, k0, A1, k1, A2, k2, A3, k3, A4, k4, B0, l0, B1, l1, B2, l2, B3, l3, A7, k7⟩, ⟨pr, gs, ps, ms, gl, a0, a1, a2, a3, x0, x1, x2, x3, ts, ck, pc⟩, rfl, ⟨hp, hg.rows, hps.rows, hms.rows, hgl, hx0, hx1, hx2, hx3, hts.rows.pairs, hpb⟩, ⟨⟨by unfold maxLen at hp1; omega, fun l hl => by have := hp2 l hl; unfold maxLen at this; omega⟩, g1, g2, g3, g4, ⟨b0, b1, b2, b3⟩, g7, htn⟩⟩
set_option maxRecDepth 100000 in
theorem open_prog {r : Reach} {b : Nat} {v : Value} {d : DataW H} {p : List MemPlace} (hv : Value.okWide Try.prog w r b 23 v) (h : DataW.Trod enc Try.prog w base (fun _ => true) held 23 v d p) :
    ∃ q, NestAt 2 pairL w v q ∧ q.length ≤ maxLen ∧ ∀ l ∈ q, l.length ≤ maxLen := by
  obtain ⟨a, n, c, rfl⟩ := okWide_slice Try.underlying23 hv
  obtain ⟨fuel, hf⟩ := h
  exact prog_of_trod (n := fuel) (by simpa [Value.cells] using hf)
set_option maxRecDepth 100000 in
theorem open_ask12 {r : Reach} {b : Nat} {v : Value} {d : DataW H} {p : List MemPlace} (hv : Value.okWide Try.prog w r b 34 v) (h : DataW.Trod enc Try.prog w base (fun _ => true) held 34 v d p) :
    ∃ u q g n, v = .agg #[u, .int .i64 g, .int .i64 n] ∧ NestAt 2 pairL w u q ∧ q.length ≤ maxLen ∧ ∀ l ∈ q, l.length ≤ maxLen := by
  obtain ⟨v0, v1, v2, y0, y1, y2, n, rfl, _, _, h0, h1, h2⟩ := Go.Joins.open_agg3 Try.underlying34 (by kernel_rfl) (by kernel_rfl) hv h
  obtain ⟨q, hq⟩ := prog_of_trod h0
  obtain ⟨a, rfl, _⟩ := cells_int Try.underlying3 h1
  obtain ⟨c, rfl, _⟩ := cells_int Try.underlying3 h2
  exact ⟨v0, q, a, c, rfl, hq⟩
end
end Go.Proofs.Ytbcclhahpcbadaa
