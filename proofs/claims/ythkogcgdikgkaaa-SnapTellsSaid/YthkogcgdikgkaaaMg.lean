/-
  The contract of snap.Encode.
-/
import Derived.Test.YthkogcgdikgkaaaMf
import Derived.Test.YthkogcgdikgkaaaWd
set_option linter.unusedVariables false
set_option linter.unusedSimpArgs false
namespace Go.Proofs.Ythkogcgdikgkaaa
open Go.RowKit Go.Maps

/-- The numbers of a snap, one behind the other. -/
def snPNums (l : List (Int × Int)) : List Int := l.flatMap fun p => [p.1, p.2]
def snGNums (l : List Gs4) : List Int := l.flatMap fun g => [g.1, g.2.1, g.2.2.1, g.2.2.2]
def Sn.nums (s : Sn) : List Int := [s.time, (s.ps.length : Int)] ++ snPNums s.ps ++ [(s.gs.length : Int)] ++ snGNums s.gs
def Sn.enc (s : Sn) : ByteArray := if s.may = true then ⟨(Wi.cat s.nums).toArray⟩ else ⟨#[]⟩
theorem Wi.cat_append (a b : List Int) : Wi.cat (a ++ b) = Wi.cat a ++ Wi.cat b := by simp [Wi.cat]
theorem snPs_ok : ∀ (l : List (Int × Int)) (h h' : Hold), snPs l h = some h' → ∀ p ∈ l, snNum p.1 = true ∧ snNum p.2 = true
  | [], _, _, _, p, hp => by simp at hp
  | x :: l, h, h', hs, p, hp => by
    unfold snPs at hs
    split at hs
    · rename_i hn
      rw [Bool.and_eq_true] at hn
      have hr : ∃ h2, snPs l h2 = some h' := by
        split at hs
        · exact ⟨_, hs⟩
        · split at hs
          · cases hs
          · exact ⟨_, hs⟩
      obtain ⟨h2, hr⟩ := hr
      rcases List.mem_cons.1 hp with rfl | hp
      · exact hn
      · exact snPs_ok l h2 h' hr p hp
    · cases hs
theorem snGs_ok : ∀ (l : List Gs4) (last : Int) (h : Hold), snGs l last h = true → ∀ g ∈ l, snNum g.1 = true ∧ snNum g.2.1 = true ∧ snNum g.2.2.1 = true ∧ snNum g.2.2.2 = true
  | [], _, _, _, g, hg => by simp at hg
  | x :: l, last, h, hs, g, hg => by
    unfold snGs at hs
    split at hs
    · rename_i hn
      simp only [Bool.and_eq_true] at hn
      rcases List.mem_cons.1 hg with rfl | hg
      · exact ⟨hn.1.1.1.1.1, hn.1.1.1.1.2, hn.1.1.1.2, hn.1.1.2⟩
      · exact snGs_ok l _ _ hs g hg
    · cases hs
theorem Sn.may_ok {s : Sn} (h : s.may = true) : snNum s.time = true ∧ s.ps.length ≤ 64 ∧ s.gs.length ≤ 1000 ∧ (∀ p ∈ s.ps, snNum p.1 = true ∧ snNum p.2 = true) ∧ ∀ g ∈ s.gs, snNum g.1 = true ∧ snNum g.2.1 = true ∧ snNum g.2.2.1 = true ∧ snNum g.2.2.2 = true := by
  unfold Sn.may at h
  simp only [Bool.and_eq_true, decide_eq_true_eq] at h
  obtain ⟨⟨⟨h1, h2⟩, h3⟩, h4⟩ := h
  split at h4
  · cases h4
  · rename_i hh he
    exact ⟨h1, h2, h3, snPs_ok _ _ _ he, snGs_ok _ _ _ h4⟩
theorem snNum_ok {x : Int} (h : snNum x = true) : Wi.ok x := (snNum_iff x).1 h
theorem nums_of_ok (l : List Int) (h : ∀ x ∈ l, Wi.ok x) : Wi.nums l = ⟨(Wi.cat l).toArray⟩ := by unfold Wi.nums; rw [Wi.numsL_ok l h]
theorem snPNums_next {l : List (Int × Int)} {k : Nat} (h : k < l.length) : snPNums (l.take (k + 1)) = snPNums (l.take k) ++ [l[k].1, l[k].2] := by
  unfold snPNums; rw [List.take_succ_eq_append_getElem h, List.flatMap_append]; simp
theorem snGNums_next {l : List Gs4} {k : Nat} (h : k < l.length) : snGNums (l.take (k + 1)) = snGNums (l.take k) ++ [l[k].1, l[k].2.1, l[k].2.2.1, l[k].2.2.2] := by
  unfold snGNums; rw [List.take_succ_eq_append_getElem h, List.flatMap_append]; simp
theorem snPNums_len (l : List (Int × Int)) : (snPNums l).length = 2 * l.length := by induction l with | nil => rfl | cons x l ih => unfold snPNums at *; simp [ih]; omega
theorem snGNums_len (l : List Gs4) : (snGNums l).length = 4 * l.length := by induction l with | nil => rfl | cons x l ih => unfold snGNums at *; simp [ih]; omega

end Go.Proofs.Ythkogcgdikgkaaa
