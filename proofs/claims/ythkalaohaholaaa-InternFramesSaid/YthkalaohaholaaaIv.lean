/-
  What laying in tells, as plain mathematics.
-/
import Derived.Test.YthkalaohaholaaaIa
set_option linter.unusedVariables false
set_option linter.unusedSimpArgs false
namespace Go.Proofs.Ythkalaohaholaaa
namespace Tb

theorem idx_pre {α : Type} [DecidableEq α] {l r : List α} {x : α} (h : l <+: r) (hx : x ∈ l) : idx r x = idx l x := by
  obtain ⟨q, rfl⟩ := h
  exact idx_app hx
theorem text_pre (ss : List ByteArray) (s : ByteArray) : ss <+: (text ss s).1 := by
  unfold text
  split
  · exact List.prefix_refl _
  · split
    · exact List.prefix_append _ _
    · exact List.prefix_refl _
theorem text_more (ss : List ByteArray) (s : ByteArray) : (text ss s).1.length ≤ ss.length + 1 := by
  unfold text
  split
  · simp
  · split <;> simp
theorem may_mk {ss ss' : List ByteArray} {ks : List (List (Int × Int))} (h : may ⟨ss, ks⟩ = true) (h1 : okS ss' = true) (h2 : ss'.length ≤ 10000) (h3 : ss.length ≤ ss'.length) : may ⟨ss', ks⟩ = true := by
  obtain ⟨a, b, c, d, e, f⟩ := may_iff.1 h
  unfold may okK
  simp only [Bool.and_eq_true, decide_eq_true_eq, List.all_eq_true]
  exact ⟨⟨⟨h2, b⟩, h1⟩, fun l hl => mayK_mono h3 (e l hl), f⟩
theorem may_ok {t : Tb} (h : t.may = true) : okS t.ss = true := by
  unfold may at h
  simp only [Bool.and_eq_true] at h
  exact h.1.2
theorem string_spec {t : Tb} {s : ByteArray} (hm : t.may = true) (hl : t.ss.length < 10000) (hs : s.size ≤ 1000) :
    (t.string s).1.may = true ∧ (t.string s).1.ks = t.ks ∧ t.ss <+: (t.string s).1.ss ∧ (t.string s).1.ss.length ≤ t.ss.length + 1 ∧ (s = ⟨#[]⟩ → t.string s = (t, 0)) ∧ (s ≠ ⟨#[]⟩ → s ∈ (t.string s).1.ss ∧ (t.string s).2 = idx (t.string s).1.ss s) := by
  by_cases he : s = ⟨#[]⟩
  · have h : t.string s = (t, 0) := by unfold string; rw [if_pos hm, if_pos he]
    rw [h]
    exact ⟨hm, rfl, List.prefix_refl _, by simp, fun _ => rfl, fun h => absurd he h⟩
  · have hms : mayS s = true := by unfold mayS; exact decide_eq_true ⟨size_zero he, hs⟩
    have hne : (text t.ss s).2 ≠ 0 := by
      unfold text
      split
      · rename_i h1; have := idx_pos.2 h1; simp only; omega
      · rw [if_pos ⟨hms, by omega⟩]; simp only; omega
    have h : t.string s = (⟨(text t.ss s).1, t.ks⟩, (text t.ss s).2) := by unfold string; rw [if_pos hm, if_neg he, if_neg hne]
    obtain ⟨h1, h2, h3, h4⟩ := text_ok (s := s) (may_ok hm) (may_iff.1 hm).1
    rw [h]
    exact ⟨may_mk hm h1 h2 h3, rfl, h4, text_more _ _, fun h => absurd h he, fun _ => text_idx hne⟩
theorem fold_spec : ∀ (l : List (ByteArray × Int)) (s0 : List ByteArray) (f0 : List (Int × Int)) (ss' : List ByteArray) (fs : List (Int × Int)), okS s0 = true → s0.length ≤ 10000 → l.foldl layStep (some (s0, f0)) = some (ss', fs) →
    okS ss' = true ∧ ss'.length ≤ 10000 ∧ s0.length ≤ ss'.length ∧ s0 <+: ss' ∧ (∀ f ∈ l, f.1 ∈ ss') ∧ fs = f0 ++ l.map fun f => (idx ss' f.1, f.2)
  | [], s0, f0, ss', fs, hok, hl, h => by
    simp only [List.foldl_nil, Option.some.injEq, Prod.mk.injEq] at h
    obtain ⟨rfl, rfl⟩ := h
    exact ⟨hok, hl, Nat.le_refl _, List.prefix_refl _, by simp, by simp⟩
  | f :: l, s0, f0, ss', fs, hok, hl, h => by
    rw [List.foldl_cons] at h
    by_cases h0 : (text s0 f.1).2 = 0
    · have e : layStep (some (s0, f0)) f = Option.none := by simp [layStep, h0]
      rw [e, lay_none] at h
      cases h
    · have e : layStep (some (s0, f0)) f = some ((text s0 f.1).1, f0 ++ [((text s0 f.1).2, f.2)]) := by simp [layStep, h0]
      rw [e] at h
      obtain ⟨a', b', c', d'⟩ := text_ok (s := f.1) hok hl
      obtain ⟨m1, m2⟩ := text_idx h0
      obtain ⟨a, b, c, d, e, g⟩ := fold_spec l _ _ ss' fs a' b' h
      refine ⟨a, b, by omega, d'.trans d, fun x hx => ?_, ?_⟩
      · rcases List.mem_cons.1 hx with rfl | hx
        · exact d.subset m1
        · exact e x hx
      · rw [g, List.map_cons, List.append_assoc, m2, idx_pre d m1]
        rfl
theorem lay_spec {ss : List ByteArray} (hok : okS ss = true) (hl : ss.length ≤ 10000) (l : List (ByteArray × Int)) (ss' : List ByteArray) (fs : List (Int × Int)) (h : lay ss l = some (ss', fs)) : okS ss' = true ∧ ss'.length ≤ 10000 ∧ ss.length ≤ ss'.length ∧ ss <+: ss' ∧ (∀ f ∈ l, f.1 ∈ ss') ∧ fs = l.map fun f => (idx ss' f.1, f.2) := by
  have := fold_spec l ss [] ss' fs hok hl h
  simpa using this
theorem stk_spec {t : Tb} {l : List (ByteArray × Int)} (h : (t.stk l).2 ≠ 0) : t.may = true ∧ l ≠ [] ∧ ∃ fs, lay t.ss l = some ((t.stk l).1.ss, fs) ∧ t.ss <+: (t.stk l).1.ss ∧ (∀ f ∈ l, f.1 ∈ (t.stk l).1.ss) ∧ (fs = l.map fun f => (idx (t.stk l).1.ss f.1, f.2)) ∧ (t.stk l).2 = idx (t.stk l).1.ks fs ∧ fs ∈ (t.stk l).1.ks ∧ t.ks <+: (t.stk l).1.ks ∧ (t.stk l).1.may = true ∧ (t.stk l).1.ks.length ≤ t.ks.length + 1 := by
  unfold stk at *
  split at h
  · rename_i hc
    rw [if_pos hc]
    split at h
    · exact absurd rfl h
    · rename_i hl
      rw [if_neg hl]
      split at h
      · exact absurd rfl h
      · rename_i ss fs hlay
        obtain ⟨a, b, c, d, e, g⟩ := lay_spec (may_ok hc.1) (may_iff.1 hc.1).1 l ss fs hlay
        have hm2 : may ⟨ss, t.ks⟩ = true := may_mk (ss := t.ss) hc.1 a b c
        refine ⟨hc.1, hl, fs, ?_⟩
        split at h
        · rename_i hk
          simp only [if_pos hk]
          split at h
          · rename_i hin
            simp only [if_pos hin]
            exact ⟨hlay, d, e, g, (by first | trivial | rfl), hin, List.prefix_refl _, hm2, by simp⟩
          · rename_i hin
            simp only [if_neg hin]
            split at h
            · exact absurd rfl h
            · rename_i hf
              simp only [if_neg hf]
              refine ⟨hlay, d, e, g, by rw [idx_snoc hin, if_pos rfl], by simp, List.prefix_append _ _, ?_, by simp⟩
              obtain ⟨x1, x2, x3, x4, x5, x6⟩ := may_iff.1 hm2
              unfold may
              simp only [Bool.and_eq_true, decide_eq_true_eq, List.length_append, List.length_singleton]
              refine ⟨⟨⟨x1, by simp only at x2; omega⟩, a⟩, ?_⟩
              rw [okK_snoc, hk, decide_eq_true hin]
              unfold okK
              simp only [Bool.and_eq_true, decide_eq_true_eq, List.all_eq_true]
              exact ⟨⟨⟨x5, x6⟩, trivial⟩, trivial⟩
        · exact absurd rfl h
  · exact absurd rfl h
theorem stk_zero {t : Tb} {l : List (ByteArray × Int)} (h : (t.stk l).2 = 0) : t.stk l = (none, 0) ∨ (l = [] ∧ t.stk l = (t, 0)) := by
  unfold stk at *
  split at h
  · rename_i hc
    rw [if_pos hc]
    split at h
    · rename_i hl
      rw [if_pos hl]
      exact .inr ⟨hl, rfl⟩
    · rename_i hl
      rw [if_neg hl]
      left
      split at h
      · rename_i hlay
        first | rw [hlay] | rfl
      · rename_i ss fs hlay
        split at h
        · rename_i hk
          split at h
          · rename_i hin
            have := idx_pos.2 hin
            simp only at h
            omega
          · split at h
            · rename_i hin hf
              simp only [hlay, if_pos hk, if_neg hin, if_pos hf]
            · simp only at h; omega
        · rename_i hk
          simp only [hlay, if_neg hk]
  · rename_i hc
    rw [if_neg hc]
    exact .inl rfl
theorem stk_len {t : Tb} {l : List (ByteArray × Int)} (h1 : t.ss.length ≤ 10000) (h2 : t.ks.length ≤ 10000) : (t.stk l).1.ss.length ≤ 10000 ∧ (t.stk l).1.ks.length ≤ 10000 := by
  by_cases h : (t.stk l).2 = 0
  · rcases stk_zero h with h | ⟨_, h⟩
    · rw [h]; simp [none]
    · rw [h]; exact ⟨h1, h2⟩
  · obtain ⟨_, _, fs, _, _, _, _, _, _, _, hm, _⟩ := stk_spec h
    exact ⟨(may_iff.1 hm).1, (may_iff.1 hm).2.1⟩
/-- Unlike texts have unlike numbers. -/
theorem string_apart {t : Tb} {x y : ByteArray} (hm : t.may = true) (hl : t.ss.length < 9999) (hx : x.size ≤ 1000) (hy : y.size ≤ 1000) : (t.string x).2 = ((t.string x).1.string y).2 ↔ x = y := by
  obtain ⟨a, b, c, d, e, g⟩ := string_spec hm (by omega) hx
  obtain ⟨a', b', c', d', e', g'⟩ := string_spec (s := y) a (by omega) hy
  by_cases hx0 : x = ⟨#[]⟩
  · have h2 : (t.string x).2 = 0 := by rw [e hx0]
    rw [h2]
    by_cases hy0 : y = ⟨#[]⟩
    · have h3 := e' hy0
      rw [h3]; simp [hx0, hy0]
    · obtain ⟨p, q⟩ := g' hy0
      have := idx_pos.2 p
      constructor
      · intro h; omega
      · rintro rfl; exact absurd hx0 hy0
  · obtain ⟨p, q⟩ := g hx0
    have hpos := idx_pos.2 p
    by_cases hy0 : y = ⟨#[]⟩
    · have h3 := e' hy0
      rw [h3]
      constructor
      · intro h; simp only at h; omega
      · rintro rfl; exact absurd hy0 hx0
    · obtain ⟨p', q'⟩ := g' hy0
      rw [q, q', ← idx_pre c' p]
      exact ⟨fun h => idx_inj (c'.subset p) h, fun h => by rw [h]⟩
theorem stk_apart {t : Tb} {x y : List (ByteArray × Int)} (hx : (t.stk x).2 ≠ 0) (hy : ((t.stk x).1.stk y).2 ≠ 0) : (t.stk x).2 = ((t.stk x).1.stk y).2 ↔ x = y := by
  obtain ⟨_, _, fs, _, p1, m1, rfl, n1, i1, q1, _⟩ := stk_spec hx
  obtain ⟨_, _, gs, _, p2, m2, rfl, n2, i2, q2, _⟩ := stk_spec hy
  rw [n1, n2, ← idx_pre q2 i1]
  have e1 : (x.map fun f => (idx (t.stk x).1.ss f.1, f.2)) = x.map fun f => (idx ((t.stk x).1.stk y).1.ss f.1, f.2) := List.map_congr_left fun f hf => by rw [idx_pre p2 (m1 f hf)]
  constructor
  · intro h
    have h2 := idx_inj (q2.subset i1) h
    rw [e1] at h2
    have inj : ∀ a b : List (ByteArray × Int), (∀ f ∈ a, f.1 ∈ ((t.stk x).1.stk y).1.ss) → (a.map fun f => (idx ((t.stk x).1.stk y).1.ss f.1, f.2)) = (b.map fun f => (idx ((t.stk x).1.stk y).1.ss f.1, f.2)) → a = b := by
      intro a
      induction a with
      | nil => intro b _ h; simpa using h.symm
      | cons f a ih =>
        intro b hm h
        cases b with
        | nil => simp at h
        | cons g b =>
          simp only [List.map_cons, List.cons.injEq, Prod.mk.injEq] at h
          rw [ih b (fun z hz => hm z (by simp [hz])) h.2, Prod.ext (idx_inj (hm f (by simp)) h.1.1) h.1.2]
    exact inj x y (fun f hf => p2.subset (m1 f hf)) h2
  · rintro rfl
    rw [e1]
end Tb

end Go.Proofs.Ythkalaohaholaaa
