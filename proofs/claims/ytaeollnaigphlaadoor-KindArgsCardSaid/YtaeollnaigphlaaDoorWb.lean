/-
  Contracts of package wire's writers, and of the strings.Builder that they use.
-/
import Derived.Test.YtaeollnaigphlaaDoorWa
import Derived.Test.YtaeollnaigphlaaDoorSh
set_option linter.unusedVariables false
set_option linter.unusedSimpArgs false
namespace Go.Proofs.YtaeollnaigphlaaDoor
open Go.RowKit

/-- The bytes of numbers, one behind the other, if each has some. -/
def Wi.numsL : List Int → Option (List UInt8)
  | [] => some []
  | x :: r => if 0 ≤ x ∧ x < 4611686018427387904 then (Wi.numsL r).map (Va.put x.toNat ++ ·) else none
def Wi.nums (l : List Int) : ByteArray := match Wi.numsL l with | some b => ⟨b.toArray⟩ | none => ⟨#[]⟩
def Wi.ok (x : Int) : Prop := 0 ≤ x ∧ x < 4611686018427387904
def Wi.cat (l : List Int) : List UInt8 := (l.map fun x => Va.put x.toNat).flatten
theorem Wi.numsL_ok : ∀ l : List Int, (∀ x ∈ l, Wi.ok x) → Wi.numsL l = some (Wi.cat l)
  | [], _ => rfl
  | x :: r, h => by
    have h1 : 0 ≤ x ∧ x < 4611686018427387904 := h x (by simp)
    simp only [Wi.numsL]
    rw [if_pos h1, Wi.numsL_ok r (fun y hy => h y (by simp [hy]))]
    rfl
theorem Wi.numsL_no : ∀ l : List Int, (∃ x ∈ l, ¬ Wi.ok x) → Wi.numsL l = none
  | [], h => by obtain ⟨x, hx, _⟩ := h; simp at hx
  | x :: r, h => by
    simp only [Wi.numsL]
    by_cases h1 : 0 ≤ x ∧ x < 4611686018427387904
    · rw [if_pos h1, Wi.numsL_no r ?_]
      · rfl
      · obtain ⟨y, hy, hn⟩ := h
        rcases List.mem_cons.1 hy with rfl | hy
        · exact absurd h1 hn
        · exact ⟨y, hy, hn⟩
    · rw [if_neg h1]
theorem Wi.cat_snoc (l : List Int) (x : Int) : Wi.cat (l ++ [x]) = Wi.cat l ++ Va.put x.toNat := by simp [Wi.cat]
theorem Wi.cat_len : ∀ l : List Int, (∀ x ∈ l, Wi.ok x) → (Wi.cat l).length ≤ 9 * l.length
  | [], _ => by simp [Wi.cat]
  | x :: r, h => by
    have h1 : 0 ≤ x ∧ x < 4611686018427387904 := h x (by simp)
    have := Wi.cat_len r (fun y hy => h y (by simp [hy]))
    have h9 := Va.puts_nine h1.1 h1.2
    rw [Va.puts_size] at h9
    simp only [Wi.cat, List.map_cons, List.flatten_cons, List.length_append, List.length_cons] at *
    omega

theorem isBuilder_ext {T e : TypeId} {B b : Nat} {bs : List Value} {w w' : World} (h : Lib.IsBuilder T e B b bs w) (hx : Ext w w') (_ : B ≤ w.heap.size) : Lib.IsBuilder T e B b bs w' := by
  have one : ∀ p, Lib.BuilderAt T e B b p bs w → Lib.BuilderAt T e B b p bs w' := fun p h => by
    have hlt := h.lt
    obtain ⟨hB, v, hb, hown, hne⟩ := h
    refine ⟨hB, v, (hx.block b hlt).trans hb, ⟨hown.1, ?_⟩, hne⟩
    rcases hown.2 with h0 | ⟨g, cap, cur, hv, hg, hh, r⟩
    · exact .inl h0
    · exact .inr ⟨g, cap, cur, hv, hg, (hx.block g (Array.getElem?_eq_some_iff.1 hh).1).trans hh, r⟩
  exact h.imp (one _) (one _)

end Go.Proofs.YtaeollnaigphlaaDoor
