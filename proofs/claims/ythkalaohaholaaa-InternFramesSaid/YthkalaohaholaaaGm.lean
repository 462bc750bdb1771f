/-
  A map of the call's own, from numbers to pairs of numbers, as a function that is (0, 0) where nothing was stored.
-/
import Derived.Test.YthkalaohaholaaaGa
import Derived.Maps.OwnSet
import Derived.Maps.Views
set_option linter.unusedVariables false
set_option linter.unusedSimpArgs false
namespace Go.Proofs.Ythkalaohaholaaa
open Go.RowKit Go.Maps

def i64in (x : Int) : Prop := -9223372036854775808 ≤ x ∧ x ≤ 9223372036854775807
theorem i64in_wf {x : Int} (h : i64in x) : (Lit.int .i64 x).wf = true := by
  unfold i64in at h
  simp [Lit.wf, IntKind.min, IntKind.max, IntKind.signed, IntKind.bits]
  omega
def pairVal (p : Int × Int) : Value := .agg #[.int .i64 p.1, .int .i64 p.2]
def pairDat (p : Int × Int) : DataW Unit := .agg [.lit (.int .i64 p.1), .lit (.int .i64 p.2)]
/-- How a pair of numbers reads. -/
def pairCells : List Value → Option (DataW Unit × List MemPlace)
  | [.int .i64 a, .int .i64 b] => some (pairDat (a, b), [])
  | _ => none
def pairElem : Value → Option (DataW Unit × List MemPlace)
  | .agg cs => pairCells cs.toList
  | _ => none
theorem pairElem_mk (p : Int × Int) : pairElem (pairVal p) = some (pairDat p, []) := rfl
theorem pairElem_inv {v : Value} {p : Int × Int} {ps : List MemPlace} (h : pairElem v = some (pairDat p, ps)) : v = pairVal p := by
  unfold pairElem at h
  split at h
  · rename_i cs
    obtain ⟨l⟩ := cs
    simp only at h
    unfold pairCells at h
    split at h
    · rename_i a b
      simp only [Option.some.injEq, Prod.mk.injEq] at h
      have h1 := h.1
      unfold pairDat at h1
      simp only [DataW.agg.injEq, List.cons.injEq, DataW.lit.injEq, Lit.int.injEq, true_and, and_true] at h1
      obtain ⟨rfl, rfl⟩ := h1
      rfl
    · cases h
  · cases h
section
variable {P : Program} {k : TypeId} {w w' : World} {b n : Nat} {f : Int → Int × Int}
/-- Block b holds, for each number x, f x. -/
def MapAt (P : Program) (k : TypeId) (w : World) (b n : Nat) (f : Int → Int × Int) : Prop := ∃ D, w.ownsMap P k pairElem b n D ∧ IsMap D ∧ ∀ x, i64in x → D.atKey (.int .i64 x) (pairDat (0, 0)) = pairDat (f x)
theorem MapAt.ext (h : MapAt P k w b n f) (hx : Ext w w') : MapAt P k w' b n f := by
  obtain ⟨D, h1, h2⟩ := h
  exact ⟨D, h1.kept (row := none) hx.grownBy (by simp), h2⟩
theorem MapAt.made (w : World) : MapAt P k (w.alloc (.map #[] 0)) w.heap.size 0 fun _ => (0, 0) :=
  ⟨.map [], World.ownsMap_made _ _ _ _, ⟨[], rfl⟩, fun x _ => rfl⟩
theorem MapAt.lt (h : MapAt P k w b n f) : b < w.heap.size := by obtain ⟨D, h1, _⟩ := h; exact h1.lt
theorem MapAt.mono (h : MapAt P k w b n f) {m : Nat} (hm : n ≤ m) : MapAt P k w b m f := by obtain ⟨D, h1, h2⟩ := h; exact ⟨D, h1.mono hm, h2⟩
theorem MapAt.look (h : MapAt P k w b n f) {t e : TypeId} (hk : P.underlying k = some (.int .i64)) (ht : P.underlying t = some (.map k e)) (hz : (zeroValue e).run P w = .ok (pairVal (0, 0)) w) (x : Int) (hx : i64in x) :
    (Instr.lookup t (.map (some b)) (.int .i64 x) false).run P w = .ok (pairVal (f x)) w := by
  obtain ⟨D, h1, h2, h3⟩ := h
  obtain ⟨v, ps, hr, hv⟩ := h1.lookup (int_keyed hk) ht hz (pairElem_mk (0, 0)) (keyOf_int_mk hk (i64in_wf hx))
  rw [h3 x hx] at hv
  rw [hr, pairElem_inv hv]
theorem MapAt.store (h : MapAt P k w b n f) {t e : TypeId} (hk : P.underlying k = some (.int .i64)) (ht : P.underlying t = some (.map k e)) (hn : n < maxLen) (x : Int) (hx : i64in x) (p : Int × Int) :
    ∃ w', (Instr.mapUpdate t (.map (some b)) (.int .i64 x) (pairVal p)).run P w = .ok () w' ∧ MapAt P k w' b (n + 1) (fun y => if y = x then p else f y) ∧ w.grownBy w' (some b) := by
  obtain ⟨D, h1, h2, h3⟩ := h
  obtain ⟨w', hr, ho, hg⟩ := h1.update (int_keyed hk) ht hn (keyOf_int_mk hk (i64in_wf hx)) (pairElem_mk p)
  refine ⟨w', hr, ⟨_, ho, ho.isMap, fun y hy => ?_⟩, hg⟩
  by_cases he : y = x
  · subst he
    rw [atKey_put_same h2 (by simp [WideAt.IsKeyLit])]
    simp
  · rw [atKey_put_other (by simpa using he), h3 y hy]
    simp [he]
end

end Go.Proofs.Ythkalaohaholaaa
