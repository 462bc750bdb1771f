/-
  Tables of strings and stacks, as plain mathematics. No function of the program is named.
-/
import Derived.Test.YthkalaohaholaaaLa
set_option linter.unusedVariables false
set_option linter.unusedSimpArgs false
namespace Go.Proofs.Ythkalaohaholaaa

instance : DecidableEq ByteArray := fun a b => decidable_of_iff (a.data = b.data) ⟨ByteArray.ext, fun h => by rw [h]⟩
instance memBytes (s : ByteArray) (l : List ByteArray) : Decidable (s ∈ l) := @List.instDecidableMemOfLawfulBEq ByteArray instBEqOfDecidableEq inferInstance s l

structure Tb where
  ss : List ByteArray
  ks : List (List (Int × Int))
namespace Tb
/-- A thing's number: its place from 1 on; 0: it is none. -/
def idx {α : Type} [DecidableEq α] (l : List α) (x : α) : Int := if x ∈ l then (l.idxOf x : Int) + 1 else 0
section
variable {α : Type} [DecidableEq α] {l : List α} {x : α}
theorem idx_nil : idx ([] : List α) x = 0 := by simp [idx]
theorem idx_pos : 0 < idx l x ↔ x ∈ l := by
  unfold idx
  by_cases h : x ∈ l
  · simp only [h, if_pos, iff_true]; omega
  · simp [h]
theorem idx_zero : idx l x = 0 ↔ x ∉ l := by
  unfold idx
  by_cases h : x ∈ l
  · simp only [h, if_pos, not_true, iff_false]; omega
  · simp [h]
theorem idx_le : idx l x ≤ l.length := by
  unfold idx
  split
  · rename_i h; have := List.idxOf_lt_length_iff.2 h; omega
  · omega
theorem idx_nn : 0 ≤ idx l x := by unfold idx; split <;> omega
theorem idx_snoc (h : x ∉ l) (y : α) : idx (l ++ [x]) y = if y = x then (l.length : Int) + 1 else idx l y := by
  unfold idx
  by_cases hy : y = x
  · subst hy
    simp [h, List.idxOf_append]
  · by_cases hm : y ∈ l
    · simp [hm, hy, List.idxOf_append]
    · simp [hm, hy]
theorem idx_app {r : List α} (h : x ∈ l) : idx (l ++ r) x = idx l x := by
  unfold idx
  simp [h, List.idxOf_append]
theorem idx_get (h : x ∈ l) : l[(idx l x - 1).toNat]? = some x := by
  unfold idx
  rw [if_pos h]
  have := List.idxOf_lt_length_iff.2 h
  rw [show ((l.idxOf x : Int) + 1 - 1).toNat = l.idxOf x by omega, List.getElem?_eq_getElem this, List.getElem_idxOf this]
theorem get_idx {i : Nat} (hn : l.Nodup) (h : l[i]? = some x) : idx l x = (i : Int) + 1 := by
  obtain ⟨hi, rfl⟩ := List.getElem?_eq_some_iff.1 h
  unfold idx
  rw [if_pos (List.getElem_mem hi), List.Nodup.idxOf_getElem hn i hi]
theorem idx_inj {y : α} (hx : x ∈ l) (h : idx l x = idx l y) : x = y := by
  have hy : y ∈ l := idx_pos.1 (h ▸ idx_pos.2 hx)
  have h1 := idx_get hx
  rw [h, idx_get hy] at h1
  exact (Option.some.inj h1).symm
end
def mayS (s : ByteArray) : Bool := decide (1 ≤ s.size ∧ s.size ≤ 1000)
def mayL (n : Int) : Bool := decide (0 ≤ n ∧ n < 4611686018427387904)
def mayF (m : Nat) (f : Int × Int) : Bool := decide (1 ≤ f.1 ∧ f.1 ≤ (m : Int)) && mayL f.2
def mayK (m : Nat) (l : List (Int × Int)) : Bool := decide (1 ≤ l.length ∧ l.length ≤ 100) && l.all (mayF m)
def okS (l : List ByteArray) : Bool := l.all mayS && decide l.Nodup
def okK (m : Nat) (l : List (List (Int × Int))) : Bool := l.all (mayK m) && decide l.Nodup
def may (t : Tb) : Bool := decide (t.ss.length ≤ 10000 ∧ t.ks.length ≤ 10000) && okS t.ss && okK t.ss.length t.ks
def none : Tb := ⟨[], []⟩
theorem nodup_snoc {α : Type} {l : List α} {x : α} : (l ++ [x]).Nodup ↔ l.Nodup ∧ x ∉ l := by
  rw [List.nodup_append]
  constructor
  · rintro ⟨h1, _, h3⟩
    exact ⟨h1, fun hx => h3 x hx x (by simp) rfl⟩
  · rintro ⟨h1, h2⟩
    exact ⟨h1, by simp, fun a ha b hb => by simp at hb; subst hb; rintro rfl; exact h2 ha⟩
theorem okS_snoc (l : List ByteArray) (s : ByteArray) : okS (l ++ [s]) = (okS l && mayS s && decide (s ∉ l)) := by
  rw [Bool.eq_iff_iff]
  unfold okS
  simp only [Bool.and_eq_true, decide_eq_true_eq, nodup_snoc, List.all_append, List.all_cons, List.all_nil, Bool.and_true]
  constructor
  · rintro ⟨⟨a, b⟩, c, d⟩; exact ⟨⟨⟨a, c⟩, b⟩, d⟩
  · rintro ⟨⟨⟨a, c⟩, b⟩, d⟩; exact ⟨⟨a, b⟩, c, d⟩
theorem okK_snoc (m : Nat) (l : List (List (Int × Int))) (s : List (Int × Int)) : okK m (l ++ [s]) = (okK m l && mayK m s && decide (s ∉ l)) := by
  rw [Bool.eq_iff_iff]
  unfold okK
  simp only [Bool.and_eq_true, decide_eq_true_eq, nodup_snoc, List.all_append, List.all_cons, List.all_nil, Bool.and_true]
  constructor
  · rintro ⟨⟨a, b⟩, c, d⟩; exact ⟨⟨⟨a, c⟩, b⟩, d⟩
  · rintro ⟨⟨⟨a, c⟩, b⟩, d⟩; exact ⟨⟨a, b⟩, c, d⟩
theorem okS_app {l r : List ByteArray} (h : okS (l ++ r) = true) : okS l = true := by
  unfold okS at *
  simp only [Bool.and_eq_true, decide_eq_true_eq, List.all_append] at *
  exact ⟨h.1.1, (List.nodup_append.1 h.2).1⟩
theorem okK_app {m : Nat} {l r : List (List (Int × Int))} (h : okK m (l ++ r) = true) : okK m l = true := by
  unfold okK at *
  simp only [Bool.and_eq_true, decide_eq_true_eq, List.all_append] at *
  exact ⟨h.1.1, (List.nodup_append.1 h.2).1⟩
theorem okS_take {l : List ByteArray} {k : Nat} (h : okS (l.take k) = false) : okS l = false := by
  cases hl : okS l with
  | false => rfl
  | true => rw [← List.take_append_drop k l] at hl; rw [okS_app hl] at h; cases h
theorem okK_take {m : Nat} {l : List (List (Int × Int))} {k : Nat} (h : okK m (l.take k) = false) : okK m l = false := by
  cases hl : okK m l with
  | false => rfl
  | true => rw [← List.take_append_drop k l] at hl; rw [okK_app hl] at h; cases h
theorem may_iff {t : Tb} : t.may = true ↔ t.ss.length ≤ 10000 ∧ t.ks.length ≤ 10000 ∧ (∀ s ∈ t.ss, mayS s = true) ∧ t.ss.Nodup ∧ (∀ l ∈ t.ks, mayK t.ss.length l = true) ∧ t.ks.Nodup := by
  unfold may okS okK
  simp only [Bool.and_eq_true, decide_eq_true_eq, List.all_eq_true]
  constructor
  · rintro ⟨⟨⟨a, b⟩, c, d⟩, e, f⟩; exact ⟨a, b, c, d, e, f⟩
  · rintro ⟨a, b, c, d, e, f⟩; exact ⟨⟨⟨a, b⟩, c, d⟩, e, f⟩
theorem mayF_mono {m n : Nat} (h : m ≤ n) {f : Int × Int} (hf : mayF m f = true) : mayF n f = true := by
  unfold mayF at *
  simp only [Bool.and_eq_true, decide_eq_true_eq] at *
  exact ⟨⟨hf.1.1, by omega⟩, hf.2⟩
theorem mayK_mono {m n : Nat} (h : m ≤ n) {l : List (Int × Int)} (hl : mayK m l = true) : mayK n l = true := by
  unfold mayK at *
  simp only [Bool.and_eq_true, decide_eq_true_eq, List.all_eq_true] at *
  exact ⟨hl.1, fun f hf => mayF_mono h (hl.2 f hf)⟩
theorem mayK_iff {m : Nat} {l : List (Int × Int)} : mayK m l = true ↔ 1 ≤ l.length ∧ l.length ≤ 100 ∧ ∀ f ∈ l, 1 ≤ f.1 ∧ f.1 ≤ (m : Int) ∧ 0 ≤ f.2 ∧ f.2 < 4611686018427387904 := by
  unfold mayK mayF mayL
  simp only [Bool.and_eq_true, decide_eq_true_eq, List.all_eq_true]
  constructor
  · rintro ⟨⟨a, b⟩, c⟩; exact ⟨a, b, fun f hf => by obtain ⟨⟨x, y⟩, z, u⟩ := c f hf; exact ⟨x, y, z, u⟩⟩
  · rintro ⟨a, b, c⟩; exact ⟨⟨a, b⟩, fun f hf => by obtain ⟨x, y, z, u⟩ := c f hf; exact ⟨⟨x, y⟩, z, u⟩⟩
theorem mayS_ne {s : ByteArray} (h : mayS s = true) : s ≠ ⟨#[]⟩ := by rintro rfl; simp [mayS, ByteArray.size] at h
theorem size_zero {s : ByteArray} (h : s ≠ ⟨#[]⟩) : 1 ≤ s.size := by
  rcases Nat.eq_zero_or_pos s.size with h0 | h0
  · exfalso
    apply h
    obtain ⟨⟨l⟩⟩ := s
    simp [ByteArray.size] at h0
    subst h0
    rfl
  · exact h0
/-- A string, laid in: the strings then, its number; 0: it can't be. -/
def text (ss : List ByteArray) (s : ByteArray) : List ByteArray × Int :=
  if s ∈ ss then (ss, idx ss s) else if mayS s = true ∧ ss.length ≠ 10000 then (ss ++ [s], (ss.length : Int) + 1) else (ss, 0)
theorem text_nn (ss : List ByteArray) (s : ByteArray) : 0 ≤ (text ss s).2 := by
  unfold text
  split
  · exact idx_nn
  · split <;> simp only <;> omega
theorem text_ok {ss : List ByteArray} {s : ByteArray} (h : okS ss = true) (hl : ss.length ≤ 10000) : okS (text ss s).1 = true ∧ (text ss s).1.length ≤ 10000 ∧ ss.length ≤ (text ss s).1.length ∧ ss <+: (text ss s).1 := by
  unfold text
  split
  · exact ⟨h, hl, Nat.le_refl _, List.prefix_refl _⟩
  · split
    · rename_i h1 h2
      refine ⟨by rw [okS_snoc, h, h2.1]; simpa using h1, by simp; omega, by simp, List.prefix_append _ _⟩
    · exact ⟨h, hl, Nat.le_refl _, List.prefix_refl _⟩
theorem text_idx {ss : List ByteArray} {s : ByteArray} (h : (text ss s).2 ≠ 0) : s ∈ (text ss s).1 ∧ (text ss s).2 = idx (text ss s).1 s := by
  unfold text at *
  split at h
  · rename_i h1; rw [if_pos h1]; exact ⟨h1, rfl⟩
  · rename_i h1
    rw [if_neg h1]
    split at h
    · rename_i h2
      rw [if_pos h2]
      exact ⟨by simp, by rw [idx_snoc h1]; simp⟩
    · exact absurd rfl h
theorem text_again {ss : List ByteArray} {s : ByteArray} (h : s ∈ ss) : text ss s = (ss, idx ss s) := by unfold text; rw [if_pos h]
def string (t : Tb) (s : ByteArray) : Tb × Int :=
  if t.may = true then (if s = ⟨#[]⟩ then (t, 0) else if (text t.ss s).2 = 0 then (none, 0) else (⟨(text t.ss s).1, t.ks⟩, (text t.ss s).2)) else (none, 0)
def layStep (a : Option (List ByteArray × List (Int × Int))) (f : ByteArray × Int) : Option (List ByteArray × List (Int × Int)) :=
  a.bind fun q => if (text q.1 f.1).2 = 0 then Option.none else some ((text q.1 f.1).1, q.2 ++ [((text q.1 f.1).2, f.2)])
/-- The frames' names, laid in, one behind the other. -/
def lay (ss : List ByteArray) (l : List (ByteArray × Int)) : Option (List ByteArray × List (Int × Int)) := l.foldl layStep (some (ss, []))
theorem lay_snoc (ss : List ByteArray) (l : List (ByteArray × Int)) (f : ByteArray × Int) : lay ss (l ++ [f]) = layStep (lay ss l) f := by simp [lay]
theorem lay_none : ∀ l : List (ByteArray × Int), l.foldl layStep Option.none = Option.none
  | [] => rfl
  | f :: r => by rw [List.foldl_cons]; exact lay_none r
theorem lay_take {ss : List ByteArray} {l : List (ByteArray × Int)} {k : Nat} (h : lay ss (l.take k) = Option.none) : lay ss l = Option.none := by
  conv => lhs; rw [← List.take_append_drop k l]
  unfold lay at *
  rw [List.foldl_append, h, lay_none]
def stk (t : Tb) (l : List (ByteArray × Int)) : Tb × Int :=
  if t.may = true ∧ l.length ≤ 100 then (if l = [] then (t, 0) else match lay t.ss l with
    | Option.none => (none, 0)
    | some (ss, fs) => if mayK ss.length fs = true then (if fs ∈ t.ks then (⟨ss, t.ks⟩, idx t.ks fs) else if t.ks.length = 10000 then (none, 0) else (⟨ss, t.ks ++ [fs]⟩, (t.ks.length : Int) + 1)) else (none, 0)) else (none, 0)
def name (t : Tb) (id : Int) : ByteArray × Bool :=
  if 0 ≤ id ∧ id ≤ t.ss.length ∧ t.may = true then (if id = 0 then (⟨#[]⟩, true) else (t.ss.getD (id - 1).toNat ⟨#[]⟩, true)) else (⟨#[]⟩, false)
def told (ss : List ByteArray) (l : List (Int × Int)) : List (ByteArray × Int) := l.map fun f => (ss.getD (f.1 - 1).toNat ⟨#[]⟩, f.2)
def frames (t : Tb) (id : Int) : List (ByteArray × Int) × Bool :=
  if 0 ≤ id ∧ id ≤ t.ks.length ∧ t.may = true then (if id = 0 then ([], true) else (told t.ss (t.ks.getD (id - 1).toNat []), true)) else ([], false)
end Tb

end Go.Proofs.Ythkalaohaholaaa
