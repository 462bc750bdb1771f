/-
  The last step of a row: a call that leaves all that was there as it was meets the row's end.
-/
import Derived.Test.YthkalaohaholaaaLa
import Derived.ProofKit
import Derived.OpenShut
set_option linter.unusedVariables false
set_option linter.unusedSimpArgs false
namespace Go.Proofs.Ythkalaohaholaaa
open Go.ChangeShapes Go.WideShapes Go.ChangeAt Go.RowKit

theorem law_post {H : Type} {enc : TypeId × Value → H} {P : Program} {f : Func} {s : ChangeSpec} {ap fr hs ag : Bool} {W V : World} {args : Array Value} {v : Value} {ds gs : List (DataW H)} {pl pa pv : List MemPlace}
    (hW : DataW.Whole enc P f.params.toList s.vars ap W args.toList ds gs pl)
    (hr : ∀ (b : Nat) (sp : Nat → Bool) (hd : Bool), DataW.TrodAll enc P V b sp hd f.resultTypes.toList (v.resultList f.resultTypes.size) (s.fn H (ds ++ gs)).results [])
    (ha : ∀ sp : Nat → Bool, (∀ p ∈ pl, sp p.block = true) → DataW.TrodAll enc P V 0 sp true f.params.toList args.toList (s.fn H (ds ++ gs)).args pa)
    (hv : ∀ sp : Nat → Bool, (∀ p ∈ pl, sp p.block = true) → DataW.TrodVars enc P V sp s.vars (s.fn H (ds ++ gs)).vars pv)
    (hp : pl = pa ++ pv) (hx : Ext W V)
    (ok : ∀ (j : Nat) (t : TypeId) (r : Value), f.resultTypes[j]? = some t → (v.resultList f.resultTypes.size)[j]? = some r → Value.okWide P V .any 0 t r) :
    s.post enc P f ap fr hs ag W args v V := by
  have low : ∀ p ∈ pl, p.block < W.heap.size := fun p h => hW.lt p h
  have low' : ∀ p ∈ pl, (fun b => decide (b < W.heap.size)) p.block = true := fun p h => decide_eq_true (low p h)
  have hin : ∀ p ∈ pl, p ∈ pa ++ pv := fun p h => hp ▸ h
  refine ⟨ds, gs, pl, [], pa, pv, hW, hr _ _ _, ha _ low', hv _ low', World.keptBut_mono (fun p h => ⟨h, ?_⟩) (Below.frame hx (· ∈ pl)), fun _ => ?_⟩
  · simpa using hin p h
  · obtain ⟨_, _, _, _, _, hz, hn⟩ := hW
    refine ⟨ok, _, _, ([] ++ pa) ++ pv, ⟨[] ++ pa, pv, trodAll_append (ha _ (fun _ _ => rfl)) (hr _ _ _), hv _ (fun _ _ => rfl), rfl, ?_, ?_⟩, ?_⟩
    · intro b o h
      have h' : MemPlace.cell b o ∈ pl := by rw [hp]; simpa using h
      exact (Below.frozen hx (low _ h')).trans (hz b o h')
    · intro h
      simpa [hp] using hn h
    · intro p h _
      simpa [hp] using h

/-- A slice of numbers that came in: nil, or a row of cells of which the first are its elements. -/
def IsRow (k : IntKind) (w : World) (a : Option Addr) (len cap : Nat) (zs : List Int) : Prop :=
  (a = none ∧ len = 0 ∧ cap = 0 ∧ zs = []) ∨
  ∃ x, a = some x ∧ len ≤ cap ∧ cap ≤ maxLen ∧ zs.length = cap ∧ (∀ i, i < zs.length → w.cell? (x.add i) = some (.int k (zs.getD i 0))) ∧ ∀ n ∈ zs, (Lit.int k n).wf = true

end Go.Proofs.Ythkalaohaholaaa
