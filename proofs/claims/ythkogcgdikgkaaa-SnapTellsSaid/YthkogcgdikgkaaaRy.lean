/-
  Numbers in slices that were the call's own ahead of a drawn region, appended to in it. No function of the program is named.
-/
import Derived.Test.YthkogcgdikgkaaaRz
import Derived.Test.YthkogcgdikgkaaaGd
set_option linter.unusedVariables false
set_option linter.unusedSimpArgs false
namespace Go.Proofs.Ythkogcgdikgkaaa
open Go.RowKit

/-- An array of numbers of a region's own, in a block from M on. -/
def NewInts (M : Nat) (w : World) (v : Value) (xs : List Int) : Prop := ∃ x, v = .slice (some ⟨x, 0, none⟩) xs.length xs.length ∧ M ≤ x ∧ w.heap[x]? = some (.cells (intsV xs).toArray 3 (0, 0))
theorem NewInts.ext {M : Nat} {w w' : World} {v : Value} {xs : List Int} (h : NewInts M w v xs) (hx : Ext w w') : NewInts M w' v xs := by
  obtain ⟨x, h1, h2, h3⟩ := h
  exact ⟨x, h1, h2, hx.blk h3⟩
theorem NewInts.updz {M g : Nat} {w w' : World} {v : Value} {xs : List Int} (h : NewInts M w v xs) (hu : Upd g w w') (hg : g < M) : NewInts M w' v xs := by
  obtain ⟨x, h1, h2, h3⟩ := h
  exact ⟨x, h1, h2, hu.blk h3 (by omega)⟩
theorem NewInts.ints {M : Nat} {w : World} {v : Value} {xs : List Int} (h : NewInts M w v xs) : IntsAt w v xs := by
  obtain ⟨x, rfl, h2, h3⟩ := h
  refine ⟨_, _, rfl, fun _ => ⟨x, 0, rfl, blk_lt h3, fun j y hj => blk_cell h3 _ _ ?_⟩⟩
  rw [Nat.zero_add, List.getElem?_toArray, intsV, List.getElem?_map, hj]
  rfl
theorem NewInts.made {M : Nat} {w : World} (hM : M ≤ w.heap.size) (xs : List Int) : NewInts M (w.alloc (.cells (intsV xs).toArray 3)) (.slice (some ⟨w.heap.size, 0, none⟩) xs.length xs.length) xs := ⟨_, rfl, hM, blk_new w _⟩
theorem OwnInts.low {M B : Nat} {w w' : World} {v : Value} {xs : List Int} (h : OwnInts w B v xs) (hl : LowSame M w w') (hlt : ∀ k, v.ownBlock = some k → k < M) : OwnInts w' B v xs := by
  refine ⟨h.1, ?_⟩
  rcases h.2 with h1 | ⟨g, cap, cur, rfl, hb, hg, rest⟩
  · exact .inl h1
  · exact .inr ⟨g, cap, cur, rfl, hb, (hl g (hlt g rfl)).trans hg, rest⟩
theorem OwnInts.madeL {B : Nat} (w : World) (xs : List Int) (hb : B ≤ w.heap.size) (hm : xs.length ≤ maxLen) : OwnInts (w.alloc (.cells (intsV xs).toArray 3)) B (.slice (some ⟨w.heap.size, 0, none⟩) xs.length xs.length) xs :=
  ⟨by simp [intsV], .inr ⟨w.heap.size, xs.length, (intsV xs).toArray, rfl, hb, heap_alloc_new w _, Nat.le_refl _, hm, by simp [intsV], by rw [← show (intsV xs).length = xs.length * 1 by simp [intsV]]; simp⟩⟩
theorem OwnInts.block {w : World} {B : Nat} {v : Value} {xs : List Int} (h : OwnInts w B v xs) (h0 : 0 < xs.length) : ∃ g c, v = .slice (some ⟨g, 0, none⟩) xs.length c ∧ B ≤ g ∧ g < w.heap.size := by
  rcases h.2 with ⟨_, h1⟩ | ⟨g, cap, cur, rfl, hb, hg, rest⟩
  · omega
  · exact ⟨g, cap, rfl, hb, (Array.getElem?_eq_some_iff.1 hg).1⟩
/-- An append of numbers to a slice that was the call's own ahead of the region. -/
theorem OwnInts.appendZ {w0 w : World} {g c0 : Nat} {l m : List Int} {A : Option Addr} {c n : Nat} (ty : TypeId) (h0 : Ext w0 w) (h : OwnInts w w0.heap.size (.slice (some ⟨g, 0, none⟩) l.length c0) l) (hn : n = m.length) (hv : IntsAt w (.slice A n c) m) (hlen : l.length + m.length ≤ 100000000) :
    ∃ v' w', (Builtin.append_ #[68, 68] ty #[.slice (some ⟨g, 0, none⟩) l.length c0, .slice A n c]).run Try.prog w = .ok v' w' ∧ (∃ A' c', v' = .slice A' (l.length + m.length) c') ∧ OwnInts w' w0.heap.size v' (l ++ m) ∧ Upd g w w' ∧ OwnInts w' w0.heap.size (.slice (some ⟨g, 0, none⟩) l.length c0) l := by
  subst hn
  obtain ⟨v', w', hr, hf, ho, _, hc⟩ := OwnInts.append_chg ty h0 h (gs := [⟨.slice (some ⟨g, 0, none⟩) l.length c0, g, g + 1⟩]) (fun k hk => by
    simp only [Value.ownBlock, Option.some.injEq] at hk
    subst hk
    exact ⟨⟨.slice (some ⟨g, 0, none⟩) l.length c0, g, g + 1⟩, by simp, Nat.le_refl _, Nat.lt_succ_self _⟩) hv hlen
  refine ⟨v', w', hr, hf, ho, ⟨hc.new.os.trans hc.old.os.symm, hc.new.tape.trans hc.old.tape.symm, hc.new.output.trans hc.old.output.symm, hc.size, fun b hb hne => hc.same b hb fun g' hg' => ?_⟩, hc.owns h (by omega)⟩
  simp only [List.mem_cons, List.not_mem_nil, or_false] at hg'
  subst hg'
  simp only
  have : b ≠ g := fun e => hne (by rw [e])
  omega

end Go.Proofs.Ythkogcgdikgkaaa
