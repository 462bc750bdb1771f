/-
  A map of the call's own, from numbers to values of any one kind, as a function. No function of the program is named.
-/
import Derived.Test.YthkalaohaholaaaGm
set_option linter.unusedVariables false
set_option linter.unusedSimpArgs false
namespace Go.Proofs.Ythkalaohaholaaa
open Go.RowKit Go.Maps

/-- How a kind of values lies in a map: what is stored, what is read, and how one is told from the other. -/
structure MapKind (β : Type) where
  val : β → Value
  dat : β → DataW Unit
  elem : Value → Option (DataW Unit × List MemPlace)
  enc : ∀ p, elem (val p) = some (dat p, [])
  inv : ∀ {v p ps}, elem v = some (dat p, ps) → v = val p
section
variable {β : Type} {M : MapKind β} {P : Program} {k : TypeId} {w w' : World} {b n : Nat} {f : Int → β} {z : β}
/-- Block b holds, for each number x, f x; where nothing was stored, z. -/
def MapB (M : MapKind β) (z : β) (P : Program) (k : TypeId) (w : World) (b n : Nat) (f : Int → β) : Prop := ∃ D, w.ownsMap P k M.elem b n D ∧ IsMap D ∧ ∀ x, i64in x → D.atKey (.int .i64 x) (M.dat z) = M.dat (f x)
theorem MapB.ext (h : MapB M z P k w b n f) (hx : Ext w w') : MapB M z P k w' b n f := by
  obtain ⟨D, h1, h2⟩ := h
  exact ⟨D, h1.kept (row := none) hx.grownBy (by simp), h2⟩
theorem MapB.upd {g : Nat} (h : MapB M z P k w b n f) (hu : Upd g w w') (hne : b ≠ g) : MapB M z P k w' b n f := by
  obtain ⟨D, h1, h2⟩ := h
  exact ⟨D, h1.kept (row := some g) hu (by simpa using hne), h2⟩
theorem MapB.made (w : World) : MapB M z P k (w.alloc (.map #[] 0)) w.heap.size 0 fun _ => z :=
  ⟨.map [], World.ownsMap_made _ _ _ _, ⟨[], rfl⟩, fun x _ => rfl⟩
theorem MapB.lt (h : MapB M z P k w b n f) : b < w.heap.size := by obtain ⟨D, h1, _⟩ := h; exact h1.lt
theorem MapB.mono (h : MapB M z P k w b n f) {m : Nat} (hm : n ≤ m) : MapB M z P k w b m f := by obtain ⟨D, h1, h2⟩ := h; exact ⟨D, h1.mono hm, h2⟩
theorem MapB.look (h : MapB M z P k w b n f) {t e : TypeId} (hk : P.underlying k = some (.int .i64)) (ht : P.underlying t = some (.map k e)) (hz : (zeroValue e).run P w = .ok (M.val z) w) (x : Int) (hx : i64in x) :
    (Instr.lookup t (.map (some b)) (.int .i64 x) false).run P w = .ok (M.val (f x)) w := by
  obtain ⟨D, h1, h2, h3⟩ := h
  obtain ⟨v, ps, hr, hv⟩ := h1.lookup (int_keyed hk) ht hz (M.enc z) (keyOf_int_mk hk (i64in_wf hx))
  rw [h3 x hx] at hv
  rw [hr, M.inv hv]
theorem MapB.store (h : MapB M z P k w b n f) {t e : TypeId} (hk : P.underlying k = some (.int .i64)) (ht : P.underlying t = some (.map k e)) (hn : n < maxLen) (x : Int) (hx : i64in x) (p : β) :
    ∃ w', (Instr.mapUpdate t (.map (some b)) (.int .i64 x) (M.val p)).run P w = .ok () w' ∧ MapB M z P k w' b (n + 1) (fun y => if y = x then p else f y) ∧ w.grownBy w' (some b) := by
  obtain ⟨D, h1, h2, h3⟩ := h
  obtain ⟨w', hr, ho, hg⟩ := h1.update (int_keyed hk) ht hn (keyOf_int_mk hk (i64in_wf hx)) (M.enc p)
  refine ⟨w', hr, ⟨_, ho, ho.isMap, fun y hy => ?_⟩, hg⟩
  by_cases he : y = x
  · subst he
    rw [atKey_put_same h2 (by simp [WideAt.IsKeyLit])]
    simp
  · rw [atKey_put_other (by simpa using he), h3 y hy]
    simp [he]
end

end Go.Proofs.Ythkalaohaholaaa
