/-
  A map of the call's own, from keys of any one kind to values of any one kind, as a function. No function of the program is named.
-/
import Derived.Test.YthkalaohaholaaaGn
import Derived.DeepKeys4
set_option linter.unusedVariables false
set_option linter.unusedSimpArgs false
namespace Go.Proofs.Ythkalaohaholaaa
open Go.RowKit Go.Maps

/-- How a kind of keys lies in a map. -/
structure KeyKind (P : Program) (k : TypeId) (κ : Type) where
  keyed : Keyed P k
  val : κ → Value
  ok : κ → Prop
  key : ∀ x, ok x → ∃ l, keyOf P k (val x) = some l
  inj : ∀ x y, ok x → ok y → val x = val y → x = y
section
variable {κ β : Type} {P : Program} {k : TypeId} {K : KeyKind P k κ} {M : MapKind β} {w w' : World} {b n : Nat} {f : κ → β} {z : β}
/-- Block b holds, for each key x, f x; where nothing was stored, z. -/
def MapQ (K : KeyKind P k κ) (M : MapKind β) (z : β) (w : World) (b n : Nat) (f : κ → β) : Prop := ∃ D, w.ownsMap P k M.elem b n D ∧ IsMap D ∧ ∀ x l, K.ok x → keyOf P k (K.val x) = some l → D.atKey l (M.dat z) = M.dat (f x)
theorem MapQ.ext (h : MapQ K M z w b n f) (hx : Ext w w') : MapQ K M z w' b n f := by
  obtain ⟨D, h1, h2⟩ := h
  exact ⟨D, h1.kept (row := none) hx.grownBy (by simp), h2⟩
theorem MapQ.upd {g : Nat} (h : MapQ K M z w b n f) (hu : Upd g w w') (hne : b ≠ g) : MapQ K M z w' b n f := by
  obtain ⟨D, h1, h2⟩ := h
  exact ⟨D, h1.kept (row := some g) hu (by simpa using hne), h2⟩
theorem MapQ.blk (h : MapQ K M z w b n f) : ∃ es cl, w.heap[b]? = some (.map es cl) := by
  obtain ⟨D, ⟨es, cl, h1, _⟩, _⟩ := h
  exact ⟨es, cl, h1⟩
theorem MapQ.made (w : World) : MapQ K M z (w.alloc (.map #[] 0)) w.heap.size 0 fun _ => z :=
  ⟨.map [], World.ownsMap_made _ _ _ _, ⟨[], rfl⟩, fun x l _ _ => rfl⟩
theorem MapQ.lt (h : MapQ K M z w b n f) : b < w.heap.size := by obtain ⟨D, h1, _⟩ := h; exact h1.lt
theorem MapQ.mono (h : MapQ K M z w b n f) {m : Nat} (hm : n ≤ m) : MapQ K M z w b m f := by obtain ⟨D, h1, h2⟩ := h; exact ⟨D, h1.mono hm, h2⟩
theorem MapQ.look (h : MapQ K M z w b n f) {t e : TypeId} (ht : P.underlying t = some (.map k e)) (hz : (zeroValue e).run P w = .ok (M.val z) w) (x : κ) (hx : K.ok x) :
    (Instr.lookup t (.map (some b)) (K.val x) false).run P w = .ok (M.val (f x)) w := by
  obtain ⟨D, h1, h2, h3⟩ := h
  obtain ⟨l, hl⟩ := K.key x hx
  obtain ⟨v, ps, hr, hv⟩ := h1.lookup K.keyed ht hz (M.enc z) hl
  rw [h3 x l hx hl] at hv
  rw [hr, M.inv hv]
theorem MapQ.store (h : MapQ K M z w b n f) {t e : TypeId} (ht : P.underlying t = some (.map k e)) (hn : n < maxLen) (x : κ) (hx : K.ok x) (p : β) {f' : κ → β} (h1 : f' x = p) (h2 : ∀ y, y ≠ x → f' y = f y) :
    ∃ w', (Instr.mapUpdate t (.map (some b)) (K.val x) (M.val p)).run P w = .ok () w' ∧ MapQ K M z w' b (n + 1) f' ∧ w.grownBy w' (some b) := by
  obtain ⟨D, g1, g2, g3⟩ := h
  obtain ⟨l, hl⟩ := K.key x hx
  obtain ⟨w', hr, ho, hg⟩ := g1.update K.keyed ht hn hl (M.enc p)
  refine ⟨w', hr, ⟨_, ho, ho.isMap, fun y m hy hm => ?_⟩, hg⟩
  by_cases he : y = x
  · subst he
    rw [hl] at hm
    cases hm
    rw [atKey_put_same g2 (K.keyed.key hl), h1]
  · have hne : m ≠ l := fun e => he (K.inj _ _ hy hx (K.keyed.inj hm (e ▸ hl)))
    rw [atKey_put_other hne, g3 y m hy hm, h2 y he]
end
/-- Numbers as values. -/
def intKind : MapKind Int where
  val n := .int .i64 n
  dat n := .lit (.int .i64 n)
  elem v := match v with | .int .i64 n => some (.lit (.int .i64 n), []) | _ => none
  enc _ := rfl
  inv {v p ps} h := by
    split at h
    · simp only [Option.some.injEq, Prod.mk.injEq, DataW.lit.injEq, Lit.int.injEq, true_and] at h
      rw [h.1]
    · cases h

end Go.Proofs.Ythkalaohaholaaa
