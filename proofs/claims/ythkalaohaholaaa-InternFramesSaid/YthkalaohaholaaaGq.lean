/-
  What a drawn region makes: maps, boxes of so many cells. No function of the program is named.
-/
import Derived.Test.YthkalaohaholaaaGe
import Derived.Test.YthkalaohaholaaaGo
import Derived.Test.YthkalaohaholaaaGp
set_option linter.unusedVariables false
set_option linter.unusedSimpArgs false
namespace Go.Proofs.Ythkalaohaholaaa
open Go.RowKit Go.Maps

/-- A map that a region made. -/
def MapR (w0 w : World) (u : GV) : Prop := ∃ g, u.v = .map (some g) ∧ w0.heap.size ≤ g ∧ (u.s ≤ g ∧ g < u.t) ∧ w.heap[g]? = some (.map #[] 0)
theorem MapR.ext {w0 w w' : World} {u : GV} (h : MapR w0 w u) (hx : Ext w w') : MapR w0 w' u := by
  obtain ⟨g, h1, h2, h3, h4⟩ := h
  exact ⟨g, h1, h2, h3, hx.blk h4⟩
theorem MapR.far {w0 w w' : World} {u : GV} {n : Nat} {gs : List GV} (h : MapR w0 w u) (hc : ChgIn w0 n gs w w') (ha : ∀ g ∈ gs, g.apart u) : MapR w0 w' u := by
  obtain ⟨g, h1, h2, h3, h4⟩ := h
  refine ⟨g, h1, h2, h3, (hc.same g (blk_lt h4) fun x hx => ?_).trans h4⟩
  have := ha x hx
  unfold GV.apart at this
  omega
theorem MapR.made {w0 w : World} (h : Ext w0 w) : MapR w0 (w.alloc (.map #[] 0)) ⟨.map (some w.heap.size), w.heap.size, (w.alloc (.map #[] 0)).heap.size⟩ := ⟨_, rfl, h.size, ⟨Nat.le_refl _, by simp⟩, blk_new w _⟩
theorem MapQ.of_blk {κ β : Type} {P : Program} {k : TypeId} {K : KeyKind P k κ} {M : MapKind β} {w : World} {b : Nat} {z : β} (h : w.heap[b]? = some (.map #[] 0)) : MapQ K M z w b 0 fun _ => z := by
  obtain ⟨D, ⟨es, cl, h1, r⟩, h2⟩ := MapQ.made (K := K) (M := M) (z := z) w
  rw [blk_new] at h1
  cases h1
  exact ⟨D, ⟨#[], 0, h, r⟩, h2⟩
theorem MapQ.but {κ β : Type} {P : Program} {k : TypeId} {K : KeyKind P k κ} {M : MapKind β} {w w' : World} {b n : Nat} {f : κ → β} {z : β} {S : Nat → Prop} (h : MapQ K M z w b n f) (hb : But S w w') (hn : ¬ S b) : MapQ K M z w' b n f := by
  obtain ⟨D, ⟨es, cl, h1, r⟩, h2⟩ := h
  exact ⟨D, ⟨es, cl, hb.blk h1 hn, r⟩, h2⟩
/-- A box of n cells that a region made. -/
def BoxN (T : TypeId) (n : Nat) (w0 w : World) (u : GV) : Prop := ∃ g cs, cs.size = n ∧ u.v = .pointer (some ⟨g, 0, none⟩) ∧ w0.heap.size ≤ g ∧ (u.s ≤ g ∧ g < u.t) ∧ w.heap[g]? = some (.cells cs T (0, 0))
theorem BoxN.ext {T : TypeId} {n : Nat} {w0 w w' : World} {u : GV} (h : BoxN T n w0 w u) (hx : Ext w w') : BoxN T n w0 w' u := by
  obtain ⟨g, cs, h0, h1, h2, h3, h4⟩ := h
  exact ⟨g, cs, h0, h1, h2, h3, hx.blk h4⟩
theorem BoxN.chg {T : TypeId} {m : Nat} {w0 w w' : World} {u : GV} {n : Nat} {gs : List GV} (h : BoxN T m w0 w u) (hc : ChgIn w0 n gs w w') : BoxN T m w0 w' u := by
  obtain ⟨g, cs, h0, h1, h2, h3, h4⟩ := h
  obtain ⟨ds, k1, k2, _⟩ := hc.part g _ _ h4
  exact ⟨g, ds, k2.trans h0, h1, h2, h3, k1⟩
theorem BoxN.made {T : TypeId} {w0 w : World} (h : Ext w0 w) (cs : Array Value) : BoxN T cs.size w0 (w.alloc (.cells cs T)) ⟨.pointer (some ⟨w.heap.size, 0, none⟩), w.heap.size, (w.alloc (.cells cs T)).heap.size⟩ := ⟨_, cs, rfl, rfl, h.size, ⟨Nat.le_refl _, by simp⟩, blk_new w _⟩
/-- Such a box, its cells told. -/
def HasN (T : TypeId) (w0 w : World) (u : GV) (cs : Array Value) : Prop := ∃ g, u.v = .pointer (some ⟨g, 0, none⟩) ∧ w0.heap.size ≤ g ∧ w.heap[g]? = some (.cells cs T (0, 0))
theorem HasN.ext {T : TypeId} {w0 w w' : World} {u : GV} {cs : Array Value} (h : HasN T w0 w u cs) (hx : Ext w w') : HasN T w0 w' u cs := by
  obtain ⟨g, h1, h2, h3⟩ := h
  exact ⟨g, h1, h2, hx.blk h3⟩
theorem upd4 (g : Nat) (w : World) (d0 d1 d2 d3 : Value) : Upd g w ((((w.setCell ⟨g, 0, none⟩ d0).setCell ⟨g, 1, none⟩ d1).setCell ⟨g, 2, none⟩ d2).setCell ⟨g, 3, none⟩ d3) := ((((Upd.refl g w).set 0 d0).set 1 d1).set 2 d2).set 3 d3
theorem set4_at {w : World} {g : Nat} {T : TypeId} {cs : Array Value} (hs : cs.size = 4) (h : w.heap[g]? = some (.cells cs T (0, 0))) (d0 d1 d2 d3 : Value) : ((((w.setCell ⟨g, 0, none⟩ d0).setCell ⟨g, 1, none⟩ d1).setCell ⟨g, 2, none⟩ d2).setCell ⟨g, 3, none⟩ d3).heap[g]? = some (.cells #[d0, d1, d2, d3] T (0, 0)) := by
  have := blk_set (blk_set (blk_set (blk_set h 0 d0) 1 d1) 2 d2) 3 d3
  rw [this]
  obtain ⟨l⟩ := cs
  match l, hs with
  | [c0, c1, c2, c3], _ => rfl
theorem ChgIn.set4 {w0 w : World} {g : Nat} {u : GV} {T : TypeId} {cs : Array Value} (hs : cs.size = 4) (h0 : Ext w0 w) (hg : w0.heap.size ≤ g) (hi : u.s ≤ g ∧ g < u.t) (hb : w.heap[g]? = some (.cells cs T (0, 0))) (d0 d1 d2 d3 : Value) :
    ChgIn w0 0 [u] w ((((w.setCell ⟨g, 0, none⟩ d0).setCell ⟨g, 1, none⟩ d1).setCell ⟨g, 2, none⟩ d2).setCell ⟨g, 3, none⟩ d3) := by
  have hu := upd4 g w d0 d1 d2 d3
  refine ⟨h0, h0.upd hu hg, hu.sz, fun b hb' hgs => hu.block b hb' fun he => ?_, fun b ds ty hbc => ?_⟩
  · injection he with he
    subst he
    have := hgs u (by simp)
    omega
  · by_cases hbg : b = g
    · subst hbg
      rw [hb] at hbc
      cases hbc
      exact ⟨_, set4_at hs hb _ _ _ _, by rw [hs]; rfl, rfl⟩
    · exact ⟨ds, hu.blk hbc hbg, rfl, rfl⟩
theorem cells4 {w : World} {g : Nat} {T : TypeId} {d0 d1 d2 d3 : Value} (h : w.heap[g]? = some (.cells #[d0, d1, d2, d3] T (0, 0))) : w.cell? ⟨g, 0, none⟩ = some d0 ∧ w.cell? ⟨g, 1, none⟩ = some d1 ∧ w.cell? ⟨g, 2, none⟩ = some d2 ∧ w.cell? ⟨g, 3, none⟩ = some d3 :=
  ⟨blk_cell h 0 _ rfl, blk_cell h 1 _ rfl, blk_cell h 2 _ rfl, blk_cell h 3 _ rfl⟩
theorem cellsOf4 {w : World} {g : Nat} {T : TypeId} {cs : Array Value} (hs : cs.size = 4) (h : w.heap[g]? = some (.cells cs T (0, 0))) : ∃ d0 d1 d2 d3, w.cell? ⟨g, 0, none⟩ = some d0 ∧ w.cell? ⟨g, 1, none⟩ = some d1 ∧ w.cell? ⟨g, 2, none⟩ = some d2 ∧ w.cell? ⟨g, 3, none⟩ = some d3 := by
  obtain ⟨l⟩ := cs
  match l, hs with
  | [c0, c1, c2, c3], _ => exact ⟨_, _, _, _, cells4 h⟩
theorem frozen4 {w : World} {g : Nat} {T : TypeId} {cs : Array Value} (h : w.heap[g]? = some (.cells cs T (0, 0))) : w.frozen? ⟨g, 0, none⟩ = false ∧ w.frozen? ⟨g, 1, none⟩ = false ∧ w.frozen? ⟨g, 2, none⟩ = false ∧ w.frozen? ⟨g, 3, none⟩ = false :=
  ⟨frozen_of_row _ _ 0 _ _ h, frozen_of_row _ _ 1 _ _ h, frozen_of_row _ _ 2 _ _ h, frozen_of_row _ _ 3 _ _ h⟩

theorem givesM_skipq {P : Program} {R : Value → World → Prop} {w : World} (h : R undef w) : GivesM P R (.ok .skip w) := ⟨h⟩
/-- A store into a map, where its run is known. -/
theorem mapUpdate_run {P : Program} {ops : Array Oper} {rest : List Oper} {o : Oper} {a : Act} {w w' : World} {Q : Exit → Act → World → Prop} (hg : o.guard = none) (m x v : Operand) (t : TypeId) (hop : o.op = Op.mapUpdate t m x v)
    (mv key val : Value) (hm : a.eval m = mv) (hx : a.eval x = key) (hv : a.eval v = val) (hr : (Instr.mapUpdate t mv key val).run P w = .ok () w') (h : wpList P ops Q rest (a.put o.dst undef) w') : wpList P ops Q (o :: rest) a w := by
  refine wpList_plain hg fun K' hK' => ?_
  unfold Oper.wp
  simp [execOp, hop, hm, hx, hv, hr, Result.andThen]
  exact hK' _ _ h

end Go.Proofs.Ythkalaohaholaaa
