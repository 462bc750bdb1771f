/-
  Which snaps may be, said once more: by counting.
-/
import Derived.Test.YthkogcgdikgkaaaMp
set_option linter.unusedVariables false
set_option linter.unusedSimpArgs false
namespace Go.Proofs.Ythkogcgdikgkaaa
open Go.RowKit Go.Maps

theorem cntP_cons (p : Int × Int) (l : List (Int × Int)) (m : Int) : cntP (p :: l) m = cntP l m + if (p.1 == m) = true then 1 else 0 := by unfold cntP; rw [List.countP_cons]
theorem cntG_cons (g : Gs4) (l : List Gs4) (m : Int) : cntG (g :: l) m = cntG l m + if (g.2.2.1 == m) = true then 1 else 0 := by unfold cntG; rw [List.countP_cons]
/-- What is known of Ms says 0 or 1, each. -/
def Hold.ok (h : Hold) : Prop := ∀ m, ((h m).1 = 0 ∨ (h m).1 = 1) ∧ ((h m).2 = 0 ∨ (h m).2 = 1)
def snPOk (p : Int × Int) : Bool := snNum p.1 && snNum p.2
def snGOk (g : Gs4) : Bool := snNum g.1 && snNum g.2.1 && snNum g.2.2.1 && snNum g.2.2.2
theorem snPs_iff : ∀ (l : List (Int × Int)) (h : Hold), h.ok → (∀ m, (h m).2 = 0) →
    (∀ h', snPs l h = some h' → (∀ p ∈ l, snPOk p = true) ∧ (∀ m, m ≠ 0 → (cntP l m : Int) + (h m).1 ≤ 1) ∧ h'.ok ∧ (∀ m, (h' m).2 = 0) ∧ ∀ m, m ≠ 0 → (h' m).1 = (h m).1 + cntP l m) ∧
    ((∀ p ∈ l, snPOk p = true) → (∀ m, m ≠ 0 → (cntP l m : Int) + (h m).1 ≤ 1) → ∃ h', snPs l h = some h')
  | [], h, hok, h2 => by
    refine ⟨fun h' hh => ?_, fun _ _ => ⟨h, rfl⟩⟩
    simp only [snPs, Option.some.injEq] at hh
    subst hh
    refine ⟨by simp, fun m _ => ?_, hok, h2, fun m _ => by simp [cntP]⟩
    have := (hok m).1
    simp only [cntP, List.countP_nil]
    omega
  | p :: l, h, hok, h2 => by
    by_cases hn : snPOk p = true
    · have hstep : snPs (p :: l) h = if p.1 = 0 then snPs l h else if 0 < (h p.1).1 then none else snPs l (h.put p.1 (1, 0)) := by
        conv => lhs; unfold snPs
        unfold snPOk at hn
        rw [if_pos hn]
      rw [hstep]
      by_cases h0 : p.1 = 0
      · rw [if_pos h0]
        have hc : ∀ m, m ≠ 0 → cntP (p :: l) m = cntP l m := fun m hm => by rw [cntP_cons, if_neg (by simp [h0]; omega)]; rfl
        obtain ⟨ih1, ih2⟩ := snPs_iff l h hok h2
        refine ⟨fun h' hh => ?_, fun a b => ih2 (fun q hq => a q (by simp [hq])) (fun m hm => by rw [← hc m hm]; exact b m hm)⟩
        obtain ⟨a, b, c, d, e⟩ := ih1 h' hh
        exact ⟨fun q hq => by rcases List.mem_cons.1 hq with rfl | hq; exact hn; exact a q hq, fun m hm => by rw [hc m hm]; exact b m hm, c, d, fun m hm => by rw [hc m hm]; exact e m hm⟩
      · rw [if_neg h0]
        by_cases hp : 0 < (h p.1).1
        · rw [if_pos hp]
          refine ⟨fun h' hh => (by cases hh), fun a b => ?_⟩
          have := b p.1 h0
          rw [cntP_cons, if_pos (by simp)] at this
          omega
        · rw [if_neg hp]
          have hz : (h p.1).1 = 0 := by have := (hok p.1).1; omega
          have hok' : Hold.ok (h.put p.1 (1, 0)) := fun m => by
            unfold Hold.put
            split
            · exact ⟨.inr rfl, .inl rfl⟩
            · exact hok m
          have h2' : ∀ m, ((h.put p.1 (1, 0)) m).2 = 0 := fun m => by
            unfold Hold.put
            split
            · rfl
            · exact h2 m
          have hs : ∀ m, ((cntP (p :: l) m : Nat) : Int) + (h m).1 = (cntP l m : Nat) + ((h.put p.1 (1, 0)) m).1 := fun m => by
            rw [cntP_cons]
            unfold Hold.put
            by_cases hm : m = p.1
            · subst hm
              rw [if_pos (by simp), if_pos rfl, hz]
              simp
            · rw [if_neg (by simpa using Ne.symm hm), if_neg hm]
              simp
          obtain ⟨ih1, ih2⟩ := snPs_iff l (h.put p.1 (1, 0)) hok' h2'
          refine ⟨fun h' hh => ?_, fun a b => ih2 (fun q hq => a q (by simp [hq])) (fun m hm => by rw [← hs m]; exact b m hm)⟩
          obtain ⟨a, b, c, d, e⟩ := ih1 h' hh
          refine ⟨fun q hq => by rcases List.mem_cons.1 hq with rfl | hq; exact hn; exact a q hq, fun m hm => by rw [hs m]; exact b m hm, c, d, fun m hm => ?_⟩
          have h1 := e m hm
          have h3 := hs m
          omega
    · have hstep : snPs (p :: l) h = none := by
        conv => lhs; unfold snPs
        unfold snPOk at hn
        rw [if_neg hn]
      rw [hstep]
      exact ⟨fun h' hh => (by cases hh), fun a _ => absurd (a p (by simp)) hn⟩
/-- May a G be, where so many Ps have each M? -/
def snGFit (c : Int → Int) (g : Gs4) : Prop := if g.2.1 = 1 ∨ g.2.1 = 3 then g.2.2.1 = 0 else g.2.2.1 ≠ 0 ∧ ((g.2.1 = 2 ∧ c g.2.2.1 = 1) ∨ (g.2.1 = 4 ∧ c g.2.2.1 = 0))
theorem snGs_iff : ∀ (l : List Gs4) (last : Int) (h : Hold), h.ok →
    (snGs l last h = true ↔ (∀ g ∈ l, snGOk g = true) ∧ (last :: l.map (·.1)).Pairwise (· < ·) ∧ (∀ g ∈ l, snGFit (fun m => (h m).1) g) ∧ ∀ m, m ≠ 0 → (cntG l m : Int) + (h m).2 ≤ 1)
  | [], last, h, hok => by
    simp only [snGs, true_iff]
    refine ⟨by simp, by simp, by simp, fun m _ => ?_⟩
    have := (hok m).2
    simp only [cntG, List.countP_nil]
    omega
  | g :: l, last, h, hok => by
    have hstep : snGs (g :: l) last h = true ↔ snGOk g = true ∧ last < g.1 ∧ (snHold g h).1 = true ∧ snGs l g.1 (snHold g h).2 = true := by
      conv => lhs; unfold snGs
      unfold snGOk
      split
      · rename_i hh
        simp only [Bool.and_eq_true, decide_eq_true_eq] at hh ⊢
        exact ⟨fun hr => ⟨hh.1.1, hh.1.2, hh.2, hr⟩, fun hr => hr.2.2.2⟩
      · rename_i hh
        simp only [Bool.and_eq_true, decide_eq_true_eq] at hh ⊢
        exact ⟨fun hr => (by cases hr), fun hr => absurd ⟨⟨hr.1, hr.2.1⟩, hr.2.2.1⟩ hh⟩
    rw [hstep]
    have hpw : (last :: (g :: l).map (·.1)).Pairwise (· < ·) ↔ last < g.1 ∧ (g.1 :: l.map (·.1)).Pairwise (· < ·) := by
      rw [List.map_cons, List.pairwise_cons]
      constructor
      · rintro ⟨a, b⟩
        exact ⟨a g.1 (by simp), b⟩
      · rintro ⟨a, b⟩
        refine ⟨fun x hx => ?_, b⟩
        rcases List.mem_cons.1 hx with rfl | hx
        · exact a
        · exact Int.lt_trans a ((List.pairwise_cons.1 b).1 x hx)
    by_cases hst : g.2.1 = 1 ∨ g.2.1 = 3
    · have hh : snHold g h = (decide (g.2.2.1 = 0), h) := by unfold snHold; rw [if_pos hst]
      rw [hh, snGs_iff l g.1 h hok, hpw]
      simp only [decide_eq_true_eq]
      have hfit : snGFit (fun m => (h m).1) g ↔ g.2.2.1 = 0 := by unfold snGFit; rw [if_pos hst]
      constructor
      · rintro ⟨a, b, c, d, e, f, k⟩
        refine ⟨fun x hx => by rcases List.mem_cons.1 hx with rfl | hx; exact a; exact d x hx, ⟨b, e⟩, fun x hx => by rcases List.mem_cons.1 hx with rfl | hx; exact hfit.2 c; exact f x hx, fun m hm => ?_⟩
        rw [cntG_cons, if_neg (by simp [c]; omega)]
        exact k m hm
      · rintro ⟨a, ⟨b, e⟩, f, k⟩
        have c := hfit.1 (f g (by simp))
        refine ⟨a g (by simp), b, c, fun x hx => a x (by simp [hx]), e, fun x hx => f x (by simp [hx]), fun m hm => ?_⟩
        have := k m hm
        rw [cntG_cons, if_neg (by simp [c]; omega)] at this
        exact this
    · by_cases h0 : g.2.2.1 = 0 ∨ 0 < (h g.2.2.1).2
      · have hh : snHold g h = (false, h) := by unfold snHold; rw [if_neg hst, if_pos h0]
        rw [hh]
        constructor
        · rintro ⟨_, _, c, _⟩; cases c
        · rintro ⟨_, _, f, k⟩
          exfalso
          have hf := f g (by simp)
          unfold snGFit at hf
          rw [if_neg hst] at hf
          rcases h0 with h0 | h0
          · exact hf.1 h0
          · have := k _ hf.1
            rw [cntG_cons, if_pos (by simp)] at this
            omega
      · have hz : (h g.2.2.1).2 = 0 := by have := (hok g.2.2.1).2; omega
        have hm0 : g.2.2.1 ≠ 0 := fun hc => h0 (.inl hc)
        have hh : snHold g h = ((decide (g.2.1 = 2) && decide ((h g.2.2.1).1 = 1)) || (decide (g.2.1 = 4) && decide ((h g.2.2.1).1 = 0)), h.put g.2.2.1 ((h g.2.2.1).1, 1)) := by unfold snHold; rw [if_neg hst, if_neg h0]
        have hfit : snGFit (fun m => (h m).1) g ↔ ((decide (g.2.1 = 2) && decide ((h g.2.2.1).1 = 1)) || (decide (g.2.1 = 4) && decide ((h g.2.2.1).1 = 0))) = true := by
          unfold snGFit
          rw [if_neg hst]
          simp only [Bool.or_eq_true, Bool.and_eq_true, decide_eq_true_eq]
          exact ⟨fun x => x.2, fun x => ⟨hm0, x⟩⟩
        have hok' : Hold.ok (h.put g.2.2.1 ((h g.2.2.1).1, 1)) := fun m => by
          unfold Hold.put
          split
          · exact ⟨(hok _).1, .inr rfl⟩
          · exact hok m
        have hfst : (fun m => ((h.put g.2.2.1 ((h g.2.2.1).1, 1)) m).1) = fun m => (h m).1 := by
          funext m
          unfold Hold.put
          split
          · rename_i hm; rw [hm]
          · rfl
        have hs : ∀ m, ((cntG (g :: l) m : Nat) : Int) + (h m).2 = (cntG l m : Nat) + ((h.put g.2.2.1 ((h g.2.2.1).1, 1)) m).2 := fun m => by
          rw [cntG_cons]
          unfold Hold.put
          by_cases hm : m = g.2.2.1
          · subst hm
            rw [if_pos (by simp), if_pos rfl, hz]
            simp
          · rw [if_neg (by simpa using Ne.symm hm), if_neg hm]
            simp
        rw [hh, snGs_iff l g.1 _ hok', hpw, hfst]
        simp only
        rw [← hfit]
        constructor
        · rintro ⟨a, b, c, d, e, f, k⟩
          exact ⟨fun x hx => by rcases List.mem_cons.1 hx with rfl | hx; exact a; exact d x hx, ⟨b, e⟩, fun x hx => by rcases List.mem_cons.1 hx with rfl | hx; exact c; exact f x hx, fun m hm => by rw [hs m]; exact k m hm⟩
        · rintro ⟨a, ⟨b, e⟩, f, k⟩
          exact ⟨a g (by simp), b, f g (by simp), fun x hx => a x (by simp [hx]), e, fun x hx => f x (by simp [hx]), fun m hm => by rw [← hs m]; exact k m hm⟩
theorem snGFit_congr {c c' : Int → Int} {g : Gs4} (h : g.2.2.1 ≠ 0 → c g.2.2.1 = c' g.2.2.1) (hf : snGFit c g) : snGFit c' g := by
  unfold snGFit at *
  split
  · rename_i hh; rwa [if_pos hh] at hf
  · rename_i hh
    rw [if_neg hh] at hf
    rw [← h hf.1]
    exact hf
/-- Which snaps may be. -/
theorem Sn.may_iff (s : Sn) : s.may = true ↔ snNum s.time = true ∧ s.ps.length ≤ 64 ∧ s.gs.length ≤ 1000 ∧ (∀ p ∈ s.ps, snPOk p = true) ∧ (∀ m, m ≠ 0 → cntP s.ps m ≤ 1) ∧ (∀ g ∈ s.gs, snGOk g = true) ∧ ((0 : Int) :: s.gs.map (·.1)).Pairwise (· < ·) ∧
    (∀ g ∈ s.gs, snGFit (fun m => (cntP s.ps m : Int)) g) ∧ ∀ m, m ≠ 0 → cntG s.gs m ≤ 1 := by
  have hok0 : Hold.ok (fun _ => (0, 0)) := fun m => ⟨.inl rfl, .inl rfl⟩
  obtain ⟨hp1, hp2⟩ := snPs_iff s.ps (fun _ => (0, 0)) hok0 (fun _ => rfl)
  unfold Sn.may
  simp only [Bool.and_eq_true, decide_eq_true_eq]
  constructor
  · rintro ⟨⟨⟨a, b⟩, c⟩, d⟩
    split at d
    · cases d
    · rename_i h' he
      obtain ⟨e1, e2, e3, e4, e5⟩ := hp1 h' he
      obtain ⟨g1, g2, g3, g4⟩ := (snGs_iff s.gs 0 h' e3).1 d
      refine ⟨a, b, c, e1, fun m hm => ?_, g1, g2, fun g hg => snGFit_congr (fun hm => ?_) (g3 g hg), fun m hm => ?_⟩
      · have := e2 m hm; simp only at this; omega
      · have := e5 _ hm; simp only at this; omega
      · have := g4 m hm; rw [e4 m] at this; omega
  · rintro ⟨a, b, c, e1, e2, g1, g2, g3, g4⟩
    obtain ⟨h', he⟩ := hp2 e1 (fun m hm => by have := e2 m hm; simp only; omega)
    obtain ⟨_, _, e3, e4, e5⟩ := hp1 h' he
    refine ⟨⟨⟨a, b⟩, c⟩, ?_⟩
    rw [he]
    refine (snGs_iff s.gs 0 h' e3).2 ⟨g1, g2, fun g hg => snGFit_congr (fun hm => ?_) (g3 g hg), fun m hm => ?_⟩
    · have := e5 _ hm; simp only at this; omega
    · have := g4 m hm; rw [e4 m]; omega

end Go.Proofs.Ythkogcgdikgkaaa
