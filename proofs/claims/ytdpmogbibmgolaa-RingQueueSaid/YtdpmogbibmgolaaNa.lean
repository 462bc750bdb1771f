/-
  Rings as plain mathematics, and where they lie.
-/
import Derived.Test.YtdpmogbibmgolaaGb
import Derived.Test.YtdpmogbibmgolaaGd
set_option linter.unusedVariables false
set_option linter.unusedSimpArgs false
namespace Go.Proofs.Ytdpmogbibmgolaa
open Go.RowKit

/-- A ring: its buffer (eight numbers), where it begins, how many it holds. -/
structure Ri where
  buf : List Int
  head : Int
  n : Int
/-- The cells of a ring. -/
def Ri.cells (r : Ri) : Array Value := (r.buf.map (Value.int .i64) ++ [Value.int .i64 r.head, Value.int .i64 r.n]).toArray
/-- Index j of the buffer holds what it should. -/
def Ri.okAt (r : Ri) (j : Nat) : Bool := if (j + 8 - r.head.toNat) % 8 < r.n.toNat then decide (0 < r.buf[j]?.getD 0) else decide (r.buf[j]?.getD 0 = 0)
def Ri.inside (r : Ri) : Bool := decide (0 ≤ r.head) && decide (r.head < 8) && decide (0 ≤ r.n) && decide (r.n ≤ 8)
/-- May a ring be? -/
def Ri.may (r : Ri) : Bool := r.inside && (List.range 8).all r.okAt
/-- The list of a ring. -/
def Ri.elem (r : Ri) (i : Nat) : Int := r.buf[(r.head.toNat + i) % 8]?.getD 0
def Ri.list (r : Ri) : List Int := if r.may then (List.range r.n.toNat).map r.elem else []
theorem Ri.inside_iff (r : Ri) : r.inside = true ↔ (0 ≤ r.head ∧ r.head < 8) ∧ 0 ≤ r.n ∧ r.n ≤ 8 := by
  unfold Ri.inside; simp only [Bool.and_eq_true, decide_eq_true_eq]; omega
theorem Ri.inside_nat {r : Ri} (h : r.inside = true) : ∃ hd nn : Nat, r.head = hd ∧ r.n = nn ∧ hd < 8 ∧ nn ≤ 8 := by
  obtain ⟨⟨h1, h2⟩, h3, h4⟩ := r.inside_iff.1 h
  exact ⟨r.head.toNat, r.n.toNat, by omega, by omega, by omega, by omega⟩
theorem list8 {α : Type} {l : List α} (h : l.length = 8) : ∃ b0 b1 b2 b3 b4 b5 b6 b7, l = [b0, b1, b2, b3, b4, b5, b6, b7] := by
  match l, h with
  | [b0, b1, b2, b3, b4, b5, b6, b7], _ => exact ⟨b0, b1, b2, b3, b4, b5, b6, b7, rfl⟩
theorem Ri.cells_buf {r : Ri} (h : r.buf.length = 8) (j : Nat) (hj : j < 8) : r.cells[j]? = some (.int .i64 (r.buf[j]?.getD 0)) := by
  unfold Ri.cells
  rw [List.getElem?_toArray, List.getElem?_append_left (by simpa [h] using hj), List.getElem?_map, List.getElem?_eq_getElem (by omega)]
  rfl
theorem Ri.cells_set {r : Ri} (h : r.buf.length = 8) (j : Nat) (hj : j < 8) (x : Int) : r.cells.setIfInBounds j (.int .i64 x) = (⟨r.buf.set j x, r.head, r.n⟩ : Ri).cells := by
  obtain ⟨bs, hd, n⟩ := r
  obtain ⟨b0, b1, b2, b3, b4, b5, b6, b7, rfl⟩ := list8 h
  rcases j with _ | _ | _ | _ | _ | _ | _ | _ | j
  · rfl
  · rfl
  · rfl
  · rfl
  · rfl
  · rfl
  · rfl
  · rfl
  · omega
/-- What has come when k rounds are over. -/
def upto {α : Type} (f : Nat → α) (k : Nat) : List α := (List.range k).map f
theorem upto_succ {α : Type} (f : Nat → α) (k : Nat) : upto f (k + 1) = upto f k ++ [f k] := by simp [upto, List.range_succ]
theorem upto_len {α : Type} (f : Nat → α) (k : Nat) : (upto f k).length = k := by simp [upto]
/-- An element with its index in the buffer. -/
abbrev I8 := { p : Int × Int // 0 ≤ p.1 ∧ p.1 < 8 }
def Ri.pair (hd : Nat) (bs : List Int) (i : Nat) : I8 := ⟨(((hd : Int) + (i : Int)) % 8, bs[(hd + i) % 8]?.getD 0), by simp only; omega, by simp only; omega⟩

/-- The impl's way: every element is positive, and the rest is 0. -/
def Ri.zeroed (hd : Nat) (bs : List Int) : Nat → List Int
  | 0 => bs
  | k + 1 => (Ri.zeroed hd bs k).set ((hd + k) % 8) 0
theorem Ri.zeroed_len (hd : Nat) (bs : List Int) : ∀ k, (Ri.zeroed hd bs k).length = bs.length
  | 0 => rfl
  | k + 1 => by unfold Ri.zeroed; rw [List.length_set, Ri.zeroed_len hd bs k]
theorem Ri.zeroed_get {hd : Nat} (h : hd < 8) {bs : List Int} (hb : bs.length = 8) (j : Nat) (hj : j < 8) : ∀ k, k ≤ 8 → (Ri.zeroed hd bs k)[j]?.getD 0 = if (j + 8 - hd) % 8 < k then 0 else bs[j]?.getD 0
  | 0, _ => by simp [Ri.zeroed]
  | k + 1, hk => by
    have ih := Ri.zeroed_get h hb j hj k (by omega)
    have hl := Ri.zeroed_len hd bs k
    unfold Ri.zeroed
    by_cases he : (hd + k) % 8 = j
    · rw [he, List.getElem?_set_self (by omega), if_pos (by omega)]
      rfl
    · rw [List.getElem?_set_ne he, ih]
      by_cases hlt : (j + 8 - hd) % 8 < k
      · rw [if_pos hlt, if_pos (by omega)]
      · rw [if_neg hlt, if_neg (by omega)]
theorem Ri.may_iff {hd nn : Nat} (h : hd < 8) (hn : nn ≤ 8) {bs : List Int} (hb : bs.length = 8) :
    Ri.may ⟨bs, hd, nn⟩ = true ↔ (∀ i < nn, 1 ≤ bs[(hd + i) % 8]?.getD 0) ∧ Ri.zeroed hd bs nn = [0, 0, 0, 0, 0, 0, 0, 0] := by
  have hi : Ri.inside ⟨bs, hd, nn⟩ = true := (Ri.inside_iff _).2 (by simp only; omega)
  unfold Ri.may
  rw [hi, Bool.true_and, List.all_eq_true]
  simp only [List.mem_range, Ri.okAt, Int.toNat_natCast]
  constructor
  · intro hk
    refine ⟨fun i hi => ?_, ?_⟩
    · have h1 := hk ((hd + i) % 8) (by omega)
      rw [if_pos (by omega)] at h1
      have := of_decide_eq_true h1
      omega
    · apply List.ext_getElem?
      intro j
      by_cases hj : j < 8
      · have h1 := Ri.zeroed_get h hb j hj nn hn
        have h2 := hk j hj
        have hl : j < (Ri.zeroed hd bs nn).length := by rw [Ri.zeroed_len]; omega
        rw [List.getElem?_eq_getElem hl] at h1 ⊢
        simp only [Option.getD_some] at h1
        have h3 : (Ri.zeroed hd bs nn)[j] = 0 := by
          rw [h1]
          split
          · rfl
          · rename_i hlt; rw [if_neg hlt] at h2; exact of_decide_eq_true h2
        rw [h3]
        rcases j with _ | _ | _ | _ | _ | _ | _ | _ | j
        · rfl
        · rfl
        · rfl
        · rfl
        · rfl
        · rfl
        · rfl
        · rfl
        · omega
      · rw [List.getElem?_eq_none (by rw [Ri.zeroed_len]; omega), List.getElem?_eq_none (by simp; omega)]
  · rintro ⟨h1, h2⟩ j hj
    have h3 := Ri.zeroed_get h hb j hj nn hn
    rw [h2] at h3
    split
    · rename_i hlt
      have h4 := h1 ((j + 8 - hd) % 8) hlt
      have h5 : (hd + (j + 8 - hd) % 8) % 8 = j := by omega
      rw [h5] at h4
      exact decide_eq_true (by omega)
    · rename_i hlt
      rw [if_neg hlt] at h3
      have h4 : ([0, 0, 0, 0, 0, 0, 0, 0] : List Int)[j]?.getD 0 = 0 := by
        rcases j with _ | _ | _ | _ | _ | _ | _ | _ | j
        · rfl
        · rfl
        · rfl
        · rfl
        · rfl
        · rfl
        · rfl
        · rfl
        · omega
      rw [h4] at h3
      exact decide_eq_true h3.symm
/-- What is left of a buffer when elements have been struck. -/
def Ri.rest (bs : List Int) (pre : List I8) : List Int := pre.foldl (fun b p => b.set p.1.1.toNat 0) bs
theorem Ri.rest_snoc (bs : List Int) (pre : List I8) (x : I8) : Ri.rest bs (pre ++ [x]) = (Ri.rest bs pre).set x.1.1.toNat 0 := by simp [Ri.rest]
theorem Ri.rest_len (bs : List Int) : ∀ pre : List I8, (Ri.rest bs pre).length = bs.length := by
  have : ∀ (pre : List I8) (bs : List Int), (Ri.rest bs pre).length = bs.length := by
    intro pre
    induction pre with
    | nil => intro _; rfl
    | cons p pre ih => intro bs; unfold Ri.rest; rw [List.foldl_cons]; have := ih (bs.set p.1.1.toNat 0); unfold Ri.rest at this; rw [this, List.length_set]
  exact fun pre => this pre bs
theorem Ri.rest_upto (hd : Nat) (bs : List Int) : ∀ k, Ri.rest bs (upto (Ri.pair hd bs) k) = Ri.zeroed hd bs k
  | 0 => rfl
  | k + 1 => by
    rw [upto_succ, Ri.rest_snoc, Ri.rest_upto hd bs k]
    have : (Ri.pair hd bs k).1.1.toNat = (hd + k) % 8 := by unfold Ri.pair; simp only; omega
    rw [this]
    rfl
theorem Ri.pos_upto (hd : Nat) (bs : List Int) (k : Nat) : (∀ p ∈ upto (Ri.pair hd bs) k, 1 ≤ p.1.2) ↔ ∀ i < k, 1 ≤ bs[(hd + i) % 8]?.getD 0 := by
  unfold upto
  simp only [List.mem_map, List.mem_range]
  constructor
  · intro h i hi
    exact h _ ⟨i, hi, rfl⟩
  · rintro h p ⟨i, hi, rfl⟩
    exact h i hi

end Go.Proofs.Ytdpmogbibmgolaa
