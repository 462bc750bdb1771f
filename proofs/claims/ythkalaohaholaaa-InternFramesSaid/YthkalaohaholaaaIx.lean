/-
  What was laid in is told by its number, as plain mathematics.
-/
import Derived.Test.YthkalaohaholaaaIv
set_option linter.unusedVariables false
set_option linter.unusedSimpArgs false
namespace Go.Proofs.Ythkalaohaholaaa
namespace Tb

theorem pre_get {α : Type} {l r : List α} (h : l <+: r) {i : Nat} (hi : i < l.length) : r[i]? = l[i]? := by
  obtain ⟨q, rfl⟩ := h
  rw [List.getElem?_append_left hi]
theorem name_pos {t : Tb} {i : Int} (hm : t.may = true) (h0 : 0 < i) (h1 : i ≤ t.ss.length) : t.name i = (t.ss.getD (i - 1).toNat ⟨#[]⟩, true) := by
  unfold name
  rw [if_pos ⟨by omega, h1, hm⟩, if_neg (by omega)]
theorem name_zero {t : Tb} (hm : t.may = true) : t.name 0 = (⟨#[]⟩, true) := by
  unfold name
  rw [if_pos ⟨by omega, by omega, hm⟩, if_pos rfl]
theorem back_name {t : Tb} {s : ByteArray} (hm : t.may = true) (hl : t.ss.length < 10000) (hs : s.size ≤ 1000) : (t.string s).1.name (t.string s).2 = (s, true) := by
  obtain ⟨a, b, c, d, e, g⟩ := string_spec hm hl hs
  by_cases h0 : s = ⟨#[]⟩
  · rw [e h0, name_zero hm, h0]
  · obtain ⟨p, q⟩ := g h0
    have hpos := idx_pos.2 p
    have hle := idx_le (l := (t.string s).1.ss) (x := s)
    rw [name_pos a (by omega) (by omega), q, List.getD, idx_get p]
    rfl
theorem string_in {t : Tb} {s : ByteArray} (hm : t.may = true) (h0 : s ≠ ⟨#[]⟩) (hs : s ∈ t.ss) : t.string s = (t, idx t.ss s) := by
  have hpos := idx_pos.2 hs
  unfold string
  rw [if_pos hm, if_neg h0, text_again hs, if_neg (by simp only; omega)]
theorem back_again {t : Tb} {s : ByteArray} (hm : t.may = true) (hl : t.ss.length < 10000) (hs : s.size ≤ 1000) : (t.string s).1.string s = t.string s := by
  obtain ⟨a, b, c, d, e, g⟩ := string_spec hm hl hs
  by_cases h0 : s = ⟨#[]⟩
  · rw [e h0]; exact e h0
  · obtain ⟨p, q⟩ := g h0
    rw [string_in a h0 p]
    exact Prod.ext rfl q.symm
theorem fold_again {ss : List ByteArray} : ∀ (l : List (ByteArray × Int)) (f0 : List (Int × Int)), (∀ f ∈ l, f.1 ∈ ss) → l.foldl layStep (some (ss, f0)) = some (ss, f0 ++ l.map fun f => (idx ss f.1, f.2))
  | [], f0, _ => by simp
  | f :: l, f0, h => by
    have hf := h f (by simp)
    have hpos := idx_pos.2 hf
    have e : layStep (some (ss, f0)) f = some (ss, f0 ++ [(idx ss f.1, f.2)]) := by
      unfold layStep
      simp only [Option.bind_some, text_again hf]
      rw [if_neg (by omega)]
    rw [List.foldl_cons, e, fold_again l _ fun x hx => h x (by simp [hx])]
    simp
theorem stk_in {t : Tb} {l : List (ByteArray × Int)} (hm : t.may = true) (hne : l ≠ []) (hl : l.length ≤ 100) (h : ∀ f ∈ l, f.1 ∈ t.ss) (hk : (l.map fun f => (idx t.ss f.1, f.2)) ∈ t.ks) : t.stk l = (t, idx t.ks (l.map fun f => (idx t.ss f.1, f.2))) := by
  have hlay : lay t.ss l = some (t.ss, l.map fun f => (idx t.ss f.1, f.2)) := by
    unfold lay
    rw [fold_again l [] h]
    simp
  have hk2 := (may_iff.1 hm).2.2.2.2.1 _ hk
  unfold stk
  rw [if_pos ⟨hm, hl⟩, if_neg hne, hlay]
  simp only [if_pos hk2, if_pos hk]
theorem back_stk {t : Tb} {l : List (ByteArray × Int)} (h : (t.stk l).2 ≠ 0) (hl : l.length ≤ 100) : (t.stk l).1.stk l = t.stk l := by
  obtain ⟨_, hne, fs, _, p1, m1, e1, n1, i1, q1, hm, _⟩ := stk_spec h
  rw [stk_in hm hne hl m1 (e1 ▸ i1), ← e1]
  exact Prod.ext rfl n1.symm
theorem told_idx {ss : List ByteArray} {l : List (ByteArray × Int)} (h : ∀ f ∈ l, f.1 ∈ ss) : told ss (l.map fun f => (idx ss f.1, f.2)) = l := by
  unfold told
  rw [List.map_map]
  conv => rhs; rw [← List.map_id l]
  refine List.map_congr_left fun f hf => ?_
  simp only [Function.comp, id]
  rw [List.getD, idx_get (h f hf)]
  rfl
theorem frames_pos {t : Tb} {i : Int} (hm : t.may = true) (h0 : 0 < i) (h1 : i ≤ t.ks.length) : t.frames i = (told t.ss (t.ks.getD (i - 1).toNat []), true) := by
  unfold frames
  rw [if_pos ⟨by omega, h1, hm⟩, if_neg (by omega)]
theorem back_frames {t : Tb} {l : List (ByteArray × Int)} (h : (t.stk l).2 ≠ 0) : (t.stk l).1.frames (t.stk l).2 = (l, true) := by
  obtain ⟨_, hne, fs, _, p1, m1, e1, n1, i1, q1, hm, _⟩ := stk_spec h
  have hpos := idx_pos.2 i1
  have hle := idx_le (l := (t.stk l).1.ks) (x := fs)
  rw [frames_pos hm (by omega) (by omega), n1, List.getD, idx_get i1]
  simp only [Option.getD_some]
  rw [e1, told_idx m1]
theorem keep_name {t c : Tb} (hm : t.may = true) (hc : c.may = true) (hp : t.ss <+: c.ss) (k : Nat) (hk : k ≤ t.ss.length) : t.name (k : Int) = c.name (k : Int) := by
  have hle := hp.length_le
  cases k with
  | zero => rw [show ((0 : Nat) : Int) = 0 from rfl, name_zero hm, name_zero hc]
  | succ k =>
    rw [name_pos hm (by omega) (by omega), name_pos hc (by omega) (by omega), show (((k + 1 : Nat) : Int) - 1).toNat = k by omega, List.getD, List.getD, pre_get hp (by omega)]
theorem told_pre {ss ss' : List ByteArray} {l : List (Int × Int)} (hp : ss <+: ss') (hk : mayK ss.length l = true) : told ss l = told ss' l := by
  refine List.map_congr_left fun f hf => ?_
  have := (mayK_iff.1 hk).2.2 f hf
  rw [List.getD, List.getD, pre_get hp (by omega)]
theorem frames_zero {t : Tb} (hm : t.may = true) : t.frames 0 = ([], true) := by
  unfold frames
  rw [if_pos ⟨by omega, by omega, hm⟩, if_pos rfl]
theorem keep_frames {t c : Tb} (hm : t.may = true) (hc : c.may = true) (hp : t.ss <+: c.ss) (hq : t.ks <+: c.ks) (k : Nat) (hk : k ≤ t.ks.length) : t.frames (k : Int) = c.frames (k : Int) := by
  have hle := hq.length_le
  cases k with
  | zero => rw [show ((0 : Nat) : Int) = 0 from rfl, frames_zero hm, frames_zero hc]
  | succ k =>
    rw [frames_pos hm (by omega) (by omega), frames_pos hc (by omega) (by omega), show (((k + 1 : Nat) : Int) - 1).toNat = k by omega, List.getD, List.getD, pre_get hq (by omega)]
    have hlt : k < t.ks.length := by omega
    rw [List.getElem?_eq_getElem hlt, Option.getD_some, told_pre hp ((may_iff.1 hm).2.2.2.2.1 _ (List.getElem_mem hlt))]
theorem frames_in {t : Tb} (hm : t.may = true) (k : Nat) (hk : k ≤ t.ks.length) : ∀ f ∈ (t.frames (k : Int)).1, f.1.size ≤ 1000 ∧ 0 ≤ f.2 ∧ f.2 < 4611686018427387904 := by
  cases k with
  | zero => rw [show ((0 : Nat) : Int) = 0 from rfl, frames_zero hm]; intro f hf; simp at hf
  | succ k =>
    rw [frames_pos hm (by omega) (by omega), show (((k + 1 : Nat) : Int) - 1).toNat = k by omega, List.getD, List.getElem?_eq_getElem (show k < t.ks.length by omega), Option.getD_some]
    intro f hf
    obtain ⟨g, hg, rfl⟩ := List.mem_map.1 hf
    have h1 := (mayK_iff.1 ((may_iff.1 hm).2.2.2.2.1 _ (List.getElem_mem (show k < t.ks.length by omega)))).2.2 g hg
    refine ⟨?_, h1.2.2.1, h1.2.2.2⟩
    rw [List.getD, List.getElem?_eq_getElem (show (g.1 - 1).toNat < t.ss.length by omega), Option.getD_some]
    have := (may_iff.1 hm).2.2.1 _ (List.getElem_mem (show (g.1 - 1).toNat < t.ss.length by omega))
    unfold mayS at this
    simp only [decide_eq_true_eq] at this
    exact this.2
/-- What is told of a table that may be can be compared. -/
theorem told_len (ss : List ByteArray) (l : List (Int × Int)) : (told ss l).length = l.length := by simp [told]
end Tb

end Go.Proofs.Ythkalaohaholaaa
