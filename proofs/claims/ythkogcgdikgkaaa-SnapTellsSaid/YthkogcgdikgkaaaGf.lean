/-
  Two structs of numbers compared.
-/
import Derived.Test.YthkogcgdikgkaaaGa
import Derived.ChangeKeysEq
set_option linter.unusedVariables false
set_option linter.unusedSimpArgs false
namespace Go.Proofs.Ythkogcgdikgkaaa
open Go.RowKit

section
variable {P : Program} {ti : TypeId}
theorem run_eqFields_ints (hi : P.underlying ti = some (.int .i64)) (hp : P.plainKey ti = true) (d : Nat) (xs ys : Array Value) (f g : Nat → Int) (w : World) : ∀ fs : List Field, (∀ e ∈ fs, e.name ≠ "_" ∧ e.type = ti ∧ xs[e.offset]? = some (.int .i64 (f e.offset)) ∧ ys[e.offset]? = some (.int .i64 (g e.offset))) →
    (Op.eqFields (d + 1) xs ys fs).run P w = .ok (fs.all fun e => f e.offset == g e.offset) w
  | [], _ => by simp [Op.eqFields]
  | e :: fs, h => by
    obtain ⟨hn, ht, h1, h2⟩ := h e (by simp)
    have ih := run_eqFields_ints hi hp d xs ys f g w fs fun j hj => h j (by simp [hj])
    have p1 := run_part_plain (P := P) w (e := ti) hp h1
    have p2 := run_part_plain (P := P) w (e := ti) hp h2
    simp only [Op.eqFields, hn, ne_eq, not_false_eq_true, if_true, ht, Sem.run_bind, p1, p2, Result.andThen_ok, run_equalIn_int w d ti .i64 .i64 (f e.offset) (g e.offset) hi, List.all_cons]
    cases hb : (f e.offset == g e.offset) with
    | false => simp
    | true => simpa using ih
/-- What a struct of n numbers is told by: its fields' names, types and places. -/
def IntStruct (P : Program) (t ti : TypeId) (n : Nat) : Bool := !P.stoodInHeld t && (P.fieldsOf t).toList.all (fun e => e.name != "_" && e.type == ti && decide (e.offset < n)) && (P.fieldsOf t).toList.map (·.offset) == List.range n
theorem run_eqInts {t : TypeId} (hi : P.underlying ti = some (.int .i64)) (hp : P.plainKey ti = true) (ht : P.underlying t = some (.struct (P.fieldsOf t))) (n : Nat) (hs : IntStruct P t ti n = true) (f g : List Int) (hf : f.length = n) (hg : g.length = n) (w : World) :
    (Op.equal t (.agg (f.map (Value.int .i64)).toArray) (.agg (g.map (Value.int .i64)).toArray)).run P w = .ok (decide (f = g)) w := by
  unfold IntStruct at hs
  simp only [Bool.and_eq_true, Bool.not_eq_true', beq_iff_eq] at hs
  obtain ⟨⟨h1, h2⟩, h3⟩ := hs
  show (Op.equalIn (9999 + 1) _ _ _).run _ _ = _
  rw [run_equalIn_struct w 9999 _ _ _ ht h1]
  rw [run_eqFields_ints hi hp 9998 _ _ (fun i => f.getD i 0) (fun i => g.getD i 0) w _ fun e he => by
    have := List.all_eq_true.1 h2 e he
    simp only [Bool.and_eq_true, bne_iff_ne, ne_eq, beq_iff_eq, decide_eq_true_eq] at this
    obtain ⟨⟨a1, a2⟩, a3⟩ := this
    refine ⟨a1, a2, ?_, ?_⟩
    · rw [List.getElem?_toArray, List.getElem?_map, List.getElem?_eq_getElem (by omega)]; simp [List.getD, List.getElem?_eq_getElem (show e.offset < f.length by omega)]
    · rw [List.getElem?_toArray, List.getElem?_map, List.getElem?_eq_getElem (by omega)]; simp [List.getD, List.getElem?_eq_getElem (show e.offset < g.length by omega)]]
  congr 1
  have e1 : ((P.fieldsOf t).toList.all fun e => f.getD e.offset 0 == g.getD e.offset 0) = ((List.range n).all fun i => f.getD i 0 == g.getD i 0) := by rw [← h3, List.all_map]; rfl
  rw [e1, Bool.eq_iff_iff, List.all_eq_true, decide_eq_true_eq]
  constructor
  · intro h
    apply List.ext_getElem (by omega)
    intro i hi1 hi2
    have := h i (List.mem_range.2 (by omega))
    simpa [List.getD, List.getElem?_eq_getElem hi1, List.getElem?_eq_getElem hi2] using this
  · rintro rfl i _
    simp
end

end Go.Proofs.Ythkogcgdikgkaaa
