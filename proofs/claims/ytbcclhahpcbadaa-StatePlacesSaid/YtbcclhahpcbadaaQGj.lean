/-
  Boxes of whole structs that a drawn region makes, and stores into. No function of the program is named.
-/
import Derived.Test.YtbcclhahpcbadaaK07
set_option linter.unusedVariables false
set_option linter.unusedSimpArgs false
namespace Go.Proofs.Ytbcclhahpcbadaa
open Go.RowKit

/-- A box of n cells that a region made. -/
def BoxW (T : TypeId) (n : Nat) (w0 w : World) (u : GV) : Prop := ∃ g cs, List.length cs = n ∧ u.v = .pointer (some ⟨g, 0, none⟩) ∧ w0.heap.size ≤ g ∧ (u.s ≤ g ∧ g < u.t) ∧ w.heap[g]? = some (.cells cs.toArray T (0, 0))
theorem BoxW.ext {T : TypeId} {n : Nat} {w0 w w' : World} {u : GV} (h : BoxW T n w0 w u) (hx : Ext w w') : BoxW T n w0 w' u := by
  obtain ⟨g, cs, h0, h1, h2, h3, h4⟩ := h
  exact ⟨g, cs, h0, h1, h2, h3, hx.blk h4⟩
theorem BoxW.chg {T : TypeId} {m : Nat} {w0 w w' : World} {u : GV} {n : Nat} {gs : List GV} (h : BoxW T m w0 w u) (hc : ChgIn w0 n gs w w') : BoxW T m w0 w' u := by
  obtain ⟨g, cs, h0, h1, h2, h3, h4⟩ := h
  obtain ⟨ds, k1, k2, _⟩ := hc.part g _ _ h4
  exact ⟨g, ds.toList, by simpa using k2.trans (by simpa using h0), h1, h2, h3, by simpa using k1⟩
theorem BoxW.made {T : TypeId} {w0 w : World} (h : Ext w0 w) (cs : List Value) : BoxW T cs.length w0 (w.alloc (.cells cs.toArray T)) ⟨.pointer (some ⟨w.heap.size, 0, none⟩), w.heap.size, (w.alloc (.cells cs.toArray T)).heap.size⟩ := ⟨_, cs, rfl, rfl, h.size, ⟨Nat.le_refl _, by simp⟩, blk_new w _⟩
/-- Such a box, its cells told. -/
def HasW (T : TypeId) (w0 w : World) (u : GV) (cs : List Value) : Prop := ∃ g, u.v = .pointer (some ⟨g, 0, none⟩) ∧ w0.heap.size ≤ g ∧ (u.s ≤ g ∧ g < u.t) ∧ w.heap[g]? = some (.cells cs.toArray T (0, 0))
theorem HasW.ext {T : TypeId} {w0 w w' : World} {u : GV} {cs : List Value} (h : HasW T w0 w u cs) (hx : Ext w w') : HasW T w0 w' u cs := by
  obtain ⟨g, h1, h2, h3, h4⟩ := h
  exact ⟨g, h1, h2, h3, hx.blk h4⟩
theorem HasW.far {T : TypeId} {w0 w w' : World} {u : GV} {n : Nat} {gs : List GV} {cs : List Value} (h : HasW T w0 w u cs) (hc : ChgIn w0 n gs w w') (ha : ∀ g ∈ gs, g.apart u) : HasW T w0 w' u cs := by
  obtain ⟨g, h1, h2, h3, h4⟩ := h
  refine ⟨g, h1, h2, h3, (hc.same g (blk_lt h4) fun x hx => ?_).trans h4⟩
  have := ha x hx
  unfold GV.apart at this
  omega
theorem ChgIn.row {w0 w : World} {g : Nat} {u : GV} {T : TypeId} {cs ds : List Value} (hl : cs.length = ds.length) (h0 : Ext w0 w) (hg : w0.heap.size ≤ g) (hi : u.s ≤ g ∧ g < u.t) (hb : w.heap[g]? = some (.cells cs.toArray T (0, 0))) : ChgIn w0 0 [u] w (w.setCells g 0 ds) := by
  have hu := setCells_upd g ds w 0
  refine ⟨h0, h0.upd hu hg, hu.sz, fun b hb' hgs => hu.block b hb' fun he => ?_, fun b es ty hbc => ?_⟩
  · injection he with he
    subst he
    have := hgs u (by simp)
    omega
  · by_cases hbg : b = g
    · subst hbg
      rw [hb] at hbc
      cases hbc
      exact ⟨_, setCells_at cs ds hl hb, by simp [hl], rfl⟩
    · exact ⟨es, hu.blk hbc hbg, rfl, rfl⟩
theorem HasW.get {T : TypeId} {w0 w : World} {v : Value} {s t g : Nat} {cs : List Value} (h : HasW T w0 w ⟨v, s, t⟩ cs) (hv : v = .pointer (some ⟨g, 0, none⟩)) : w0.heap.size ≤ g ∧ w.heap[g]? = some (.cells cs.toArray T (0, 0)) := by
  obtain ⟨g', h1, h2, _, h4⟩ := h
  rw [hv] at h1
  simp only [Value.pointer.injEq, Option.some.injEq, Addr.mk.injEq, and_true] at h1
  subst h1
  exact ⟨h2, h4⟩
end Go.Proofs.Ytbcclhahpcbadaa
