/-
  Timers put in any order, and who is due, as plain mathematics.
-/
import Derived.Test.YtonnpmgnbmbooaaSj
set_option linter.unusedVariables false
set_option linter.unusedSimpArgs false
namespace Go.Proofs.Ytonnpmgnbmbooaa
open Go.RowKit

theorem Sl.mem_ins {l : List (Int × Int)} {t p : Int × Int} : p ∈ Sl.ins l t ↔ p ∈ l ∨ p = t := by
  refine ⟨Sl.ins_mem, fun h => ?_⟩
  unfold Sl.ins
  simp only [List.mem_append, List.mem_singleton]
  rcases h with h | h
  · rw [← List.take_append_drop (Sl.at l t) l] at h
    rcases List.mem_append.1 h with h | h
    · exact .inl (.inl h)
    · exact .inr h
  · exact .inl (.inr h)
/-- Lists that may be and hold the same timers are the same. -/
theorem Sl.same : ∀ (x y : List (Int × Int)), Sl.May x → Sl.May y → (∀ p, p ∈ x ↔ p ∈ y) → x = y
  | [], [], _, _, _ => rfl
  | [], q :: y, _, _, h => by have := (h q).2 (by simp); simp at this
  | p :: x, [], _, _, h => by have := (h p).1 (by simp); simp at this
  | p :: x, q :: y, hx, hy, h => by
    have hp := List.pairwise_cons.1 hx.2.1
    have hq := List.pairwise_cons.1 hy.2.1
    have e : p = q := by
      rcases List.mem_cons.1 ((h p).1 (by simp)) with h1 | h1
      · exact h1
      · rcases List.mem_cons.1 ((h q).2 (by simp)) with h2 | h2
        · exact h2.symm
        · exact absurd (Sl.lt_trans (hp.1 q h2) (hq.1 p h1)) (Sl.lt_irrefl p)
    subst e
    congr 1
    refine Sl.same x y (hx.sub (List.sublist_cons_self _ _)) (hy.sub (List.sublist_cons_self _ _)) fun r => ⟨fun hr => ?_, fun hr => ?_⟩
    · rcases List.mem_cons.1 ((h r).1 (List.mem_cons_of_mem _ hr)) with h1 | h1
      · subst h1; exact absurd (hp.1 r hr) (Sl.lt_irrefl r)
      · exact h1
    · rcases List.mem_cons.1 ((h r).2 (List.mem_cons_of_mem _ hr)) with h1 | h1
      · subst h1; exact absurd (hq.1 r hr) (Sl.lt_irrefl r)
      · exact h1
theorem Sl.many_ge {l : List (Int × Int)} {now : Int} {k : Nat} (hk : k ≤ l.length) (h : ∀ j q, j < k → l[j]? = some q → q.1 ≤ now) : k ≤ Sl.many l now := by
  have : ∀ j, j ≤ k → j ≤ Sl.many l now := by
    intro j
    induction j with
    | zero => intro _; omega
    | succ j ih =>
      intro hj
      have hq := List.getElem?_eq_getElem (l := l) (i := j) (by omega)
      exact Sl.many_next (ih (by omega)) hq (h j _ (by omega) hq)
  exact this k (Nat.le_refl _)
theorem Sl.many_mono (l : List (Int × Int)) {a b : Int} (h : a ≤ b) : Sl.many l a ≤ Sl.many l b :=
  Sl.many_ge (Sl.many_le l a) fun j q hj hq => by have := Sl.many_lt l a j q hj hq; omega
theorem Sl.many_drop (l : List (Int × Int)) {a b : Int} (h : a ≤ b) : Sl.many (l.drop (Sl.many l a)) b = Sl.many l b - Sl.many l a := by
  have hm := Sl.many_mono l h
  have hl := Sl.many_le l b
  refine (Sl.many_eq (k := Sl.many l b - Sl.many l a) (Sl.many_ge (by rw [List.length_drop]; omega) fun j q hj hq => ?_) fun q hq => ?_).symm
  · rw [List.getElem?_drop] at hq
    exact Sl.many_lt l b _ q (by omega) hq
  · rw [List.getElem?_drop, show Sl.many l a + (Sl.many l b - Sl.many l a) = Sl.many l b by omega] at hq
    exact Sl.many_stop l b q hq
theorem Sl.due_two (l : List (Int × Int)) {a b : Int} (h : a ≤ b) : Sl.due l a ++ Sl.due (Sl.left l a) b = Sl.due l b ∧ Sl.left (Sl.left l a) b = Sl.left l b := by
  have hm := Sl.many_mono l h
  unfold Sl.left Sl.due
  rw [Sl.many_drop l h]
  refine ⟨?_, ?_⟩
  · rw [← List.map_append]
    congr 1
    have := List.take_append_drop (Sl.many l a) (l.take (Sl.many l b))
    rw [List.take_take, Nat.min_eq_left hm, List.drop_take] at this
    exact this
  · rw [List.drop_drop, show Sl.many l a + (Sl.many l b - Sl.many l a) = Sl.many l b by omega]
theorem Sl.due_len (l : List (Int × Int)) (b : Int) : (Sl.due l b).length + (Sl.left l b).length = l.length := by
  have := Sl.many_le l b
  unfold Sl.due Sl.left
  rw [List.length_map, List.length_take, List.length_drop]
  omega
theorem Sl.left_late {l : List (Int × Int)} (hm : Sl.May l) (b : Int) : ∀ p ∈ Sl.left l b, b < p.1 := by
  intro p hp
  unfold Sl.left at hp
  have hs := hm.2.1.sublist (List.drop_sublist (Sl.many l b) l)
  have h0 := Sl.many_stop l b
  rw [show l[Sl.many l b]? = (l.drop (Sl.many l b))[0]? by rw [List.getElem?_drop]; simp] at h0
  cases hd : l.drop (Sl.many l b) with
  | nil => rw [hd] at hp; simp at hp
  | cons q r =>
    rw [hd] at hp hs h0
    have h1 := h0 q rfl
    rcases List.mem_cons.1 hp with rfl | hp
    · omega
    · have := (List.pairwise_cons.1 hs).1 p hp
      unfold Sl.lt at this
      omega
theorem Sl.left_may {l : List (Int × Int)} (hm : Sl.May l) (b : Int) : Sl.May (Sl.left l b) := hm.sub (List.drop_sublist _ _)

end Go.Proofs.Ytonnpmgnbmbooaa
