/-
  Rings as queues: plain mathematics.
-/
import Derived.Test.YtdpmogbibmgolaaNk
set_option linter.unusedVariables false
set_option linter.unusedSimpArgs false
namespace Go.Proofs.Ytdpmogbibmgolaa
open Go.RowKit
/-- A ring that may be, and what it holds. -/
def Ri.Holds (r : Ri) (l : List Int) : Prop :=
  ∃ hd nn : Nat, r.head = hd ∧ r.n = nn ∧ hd < 8 ∧ nn ≤ 8 ∧ r.buf.length = 8 ∧ (∀ j < 8, if (j + 8 - hd) % 8 < nn then 0 < r.buf[j]?.getD 0 else r.buf[j]?.getD 0 = 0) ∧ l = (List.range nn).map fun i => r.buf[(hd + i) % 8]?.getD 0
theorem Ri.may_nat {hd nn : Nat} (h : hd < 8) (hn : nn ≤ 8) {bs : List Int} :
    Ri.may ⟨bs, hd, nn⟩ = true ↔ ∀ j < 8, if (j + 8 - hd) % 8 < nn then 0 < bs[j]?.getD 0 else bs[j]?.getD 0 = 0 := by
  have hi : Ri.inside ⟨bs, hd, nn⟩ = true := (Ri.inside_iff _).2 (by simp only; omega)
  unfold Ri.may
  rw [hi, Bool.true_and, List.all_eq_true]
  simp only [List.mem_range, Ri.okAt, Int.toNat_natCast]
  constructor
  · intro k j hj
    have := k j hj
    split
    · rename_i hc; rw [if_pos hc] at this; exact of_decide_eq_true this
    · rename_i hc; rw [if_neg hc] at this; exact of_decide_eq_true this
  · intro k j hj
    have := k j hj
    split
    · rename_i hc; rw [if_pos hc] at this; exact decide_eq_true this
    · rename_i hc; rw [if_neg hc] at this; exact decide_eq_true this
theorem Ri.may_of {r : Ri} {l : List Int} (h : r.Holds l) : r.may = true := by
  obtain ⟨hd, nn, h1, h2, h3, h4, h5, h6, rfl⟩ := h
  obtain ⟨bs, a, b⟩ := r
  simp only at h1 h2 h5 h6
  subst h1 h2
  exact (Ri.may_nat h3 h4).2 h6
theorem Ri.list_of {r : Ri} {l : List Int} (h : r.Holds l) : r.list = l := by
  unfold Ri.list
  rw [if_pos (Ri.may_of h)]
  obtain ⟨hd, nn, h1, h2, h3, h4, h5, h6, rfl⟩ := h
  unfold Ri.elem
  rw [h1, h2]
  rfl
theorem Ri.holds_may {r : Ri} (hl : r.buf.length = 8) (hm : r.may = true) : r.Holds r.list := by
  have hi : r.inside = true := by have := hm; unfold Ri.may at this; rw [Bool.and_eq_true] at this; exact this.1
  obtain ⟨hd, nn, h1, h2, h3, h4⟩ := Ri.inside_nat hi
  obtain ⟨bs, a, b⟩ := r
  simp only at h1 h2 hl
  subst h1 h2
  refine ⟨hd, nn, rfl, rfl, h3, h4, hl, (Ri.may_nat h3 h4).1 hm, ?_⟩
  unfold Ri.list
  rw [if_pos hm]
  rfl
theorem Ri.holds_n {r : Ri} {l : List Int} (h : r.Holds l) : r.n = l.length ∧ l.length ≤ 8 := by
  obtain ⟨hd, nn, h1, h2, h3, h4, h5, h6, rfl⟩ := h
  simp [h2, h4]
theorem Ri.holds_pos {r : Ri} {l : List Int} (h : r.Holds l) : ∀ x ∈ l, 1 ≤ x := by
  obtain ⟨hd, nn, h1, h2, h3, h4, h5, h6, rfl⟩ := h
  intro x hx
  simp only [List.mem_map, List.mem_range] at hx
  obtain ⟨i, hi, rfl⟩ := hx
  have := h6 ((hd + i) % 8) (by omega)
  rw [if_pos (by omega)] at this
  omega
theorem Ri.holds_push {r : Ri} {l : List Int} (h : r.Holds l) {g : Int} (hg : 1 ≤ g) (h8 : l.length < 8) : ∃ r', r.push g = (r', true) ∧ r'.Holds (l ++ [g]) := by
  have hm := Ri.may_of h
  obtain ⟨hd, nn, h1, h2, h3, h4, h5, h6, rfl⟩ := h
  obtain ⟨bs, a, b⟩ := r
  simp only at h1 h2 h5 h6
  subst h1 h2
  simp only [List.length_map, List.length_range] at h8
  refine ⟨⟨bs.set ((hd + nn) % 8) g, hd, (nn : Int) + 1⟩, ?_, hd, nn + 1, rfl, by simp, h3, by omega, by simpa using h5, ?_, ?_⟩
  · unfold Ri.push
    rw [hm]
    simp only [Int.toNat_natCast]
    rw [if_pos (by simp; omega)]
  · intro j hj
    have := h6 j hj
    simp only [List.getElem?_set]
    by_cases he : (hd + nn) % 8 = j
    · rw [if_pos (by omega), if_pos he, if_pos (by omega)]
      simp only [Option.getD_some]; omega
    · rw [if_neg he]
      by_cases hlt : (j + 8 - hd) % 8 < nn
      · rw [if_pos hlt] at this
        rw [if_pos (by omega)]; exact this
      · rw [if_neg hlt] at this
        rw [if_neg (by omega)]; exact this
  · rw [List.range_succ, List.map_append]
    simp only [List.map_cons, List.map_nil]
    congr 1
    · apply List.map_congr_left
      intro i hi
      have := List.mem_range.1 hi
      rw [List.getElem?_set_ne (by omega)]
    · rw [List.getElem?_set_self (by omega)]
      rfl
theorem Ri.push_no {r : Ri} {l : List Int} (h : r.Holds l) {g : Int} (hn : g < 1 ∨ l.length = 8) : r.push g = (Ri.zero, false) := by
  have := (Ri.holds_n h).1
  unfold Ri.push
  rw [if_neg]
  simp only [Bool.and_eq_true, decide_eq_true_eq]
  omega
theorem Ri.holds_pop {r : Ri} {l : List Int} {g : Int} (h : r.Holds (g :: l)) : ∃ r', r.pop = (r', g, true) ∧ r'.Holds l := by
  have hm := Ri.may_of h
  have hn := Ri.holds_n h
  obtain ⟨hd, nn, h1, h2, h3, h4, h5, h6, hl⟩ := h
  obtain ⟨bs, a, b⟩ := r
  simp only at h1 h2 h5 h6 hn hl
  subst h1 h2
  simp only [List.length_cons] at hn
  obtain ⟨k, rfl⟩ : ∃ k, nn = k + 1 := ⟨nn - 1, by omega⟩
  rw [List.range_succ_eq_map, List.map_cons, List.map_map] at hl
  simp only [List.cons.injEq] at hl
  obtain ⟨hg, hl⟩ := hl
  rw [show (hd + 0) % 8 = hd by omega] at hg
  refine ⟨⟨bs.set hd 0, ((hd : Int) + 1) % 8, ((k + 1 : Nat) : Int) - 1⟩, ?_, (hd + 1) % 8, k, by simp only; omega, by simp only; omega, by omega, by omega, by simpa using h5, ?_, ?_⟩
  · unfold Ri.pop
    rw [if_pos hm]
    simp only [Int.toNat_natCast]
    rw [if_neg (by omega), hg]
  · intro j hj
    have := h6 j hj
    simp only [List.getElem?_set]
    by_cases he : hd = j
    · rw [if_neg (by omega), if_pos he, if_pos (by omega)]
      rfl
    · rw [if_neg he]
      by_cases hlt : (j + 8 - hd) % 8 < k + 1
      · rw [if_pos hlt] at this
        rw [if_pos (by omega)]; exact this
      · rw [if_neg hlt] at this
        rw [if_neg (by omega)]; exact this
  · rw [hl]
    apply List.map_congr_left
    intro i hi
    have := List.mem_range.1 hi
    simp only [Function.comp]
    rw [List.getElem?_set_ne (by omega), show (hd + i.succ) % 8 = ((hd + 1) % 8 + i) % 8 by omega]
theorem Ri.pop_nil {r : Ri} (h : r.Holds []) : r.pop = (r, 0, false) := by
  have hm := Ri.may_of h
  have hn := (Ri.holds_n h).1
  unfold Ri.pop
  rw [if_pos hm, if_pos (by simpa using hn)]
theorem Ri.holds_zero : Ri.zero.Holds [] := ⟨0, 0, rfl, rfl, by omega, by omega, rfl, by decide, rfl⟩
theorem Ri.ofs_holds : ∀ (l m : List Int) (r : Ri), r.Holds m → (∃ r', Ri.ofs r l = (r', true) ∧ r'.Holds (m ++ l)) ∨ Ri.ofs r l = (Ri.zero, false)
  | [], m, r, h => .inl ⟨r, rfl, by simpa using h⟩
  | g :: l, m, r, h => by
    by_cases hg : 1 ≤ g ∧ m.length < 8
    · obtain ⟨r', h1, h2⟩ := Ri.holds_push h hg.1 hg.2
      unfold Ri.ofs
      rw [h1]
      simp only [if_true]
      rcases Ri.ofs_holds l (m ++ [g]) r' h2 with ⟨r'', h3, h4⟩ | h3
      · exact .inl ⟨r'', h3, by simpa using h4⟩
      · exact .inr h3
    · have := (Ri.holds_n h).2
      right
      unfold Ri.ofs
      rw [Ri.push_no h (by omega)]
      rfl
theorem Ri.holds_len {r : Ri} {l : List Int} (h : r.Holds l) : r.buf.length = 8 := by
  obtain ⟨hd, nn, h1, h2, h3, h4, h5, h6, rfl⟩ := h
  exact h5
/-- A ring with its ten numbers. -/
theorem Ri.open8 {r : Ri} (h : r.buf.length = 8) : ∃ b0 b1 b2 b3 b4 b5 b6 b7 hd n, r = ⟨[b0, b1, b2, b3, b4, b5, b6, b7], hd, n⟩ := by
  obtain ⟨bs, hd, n⟩ := r
  obtain ⟨b0, b1, b2, b3, b4, b5, b6, b7, rfl⟩ := list8 h
  exact ⟨b0, b1, b2, b3, b4, b5, b6, b7, hd, n, rfl⟩

end Go.Proofs.Ytdpmogbibmgolaa
