/-
  A stack of one frame more is another one: plain facts.
-/
import Derived.Test.YthkalaohaholaaaIx
set_option linter.unusedVariables false
set_option linter.unusedSimpArgs false
namespace Go.Proofs.Ythkalaohaholaaa
namespace Tb

def moreF : ByteArray × Int := (⟨#[109, 111, 114, 101]⟩, 1)
theorem fold_len : ∀ (l : List (ByteArray × Int)) (q : List ByteArray × List (Int × Int)) (ss' : List ByteArray) (fs : List (Int × Int)), l.foldl layStep (some q) = some (ss', fs) → ss'.length ≤ q.1.length + l.length
  | [], q, ss', fs, h => by
    simp only [List.foldl_nil, Option.some.injEq] at h
    subst h
    simp
  | f :: l, q, ss', fs, h => by
    rw [List.foldl_cons] at h
    by_cases h0 : (text q.1 f.1).2 = 0
    · have e : layStep (some q) f = Option.none := by simp [layStep, h0]
      rw [e, lay_none] at h
      cases h
    · have e : layStep (some q) f = some ((text q.1 f.1).1, q.2 ++ [((text q.1 f.1).2, f.2)]) := by simp [layStep, h0]
      rw [e] at h
      have := fold_len l _ ss' fs h
      simp only at this
      have h2 : (text q.1 f.1).1.length ≤ q.1.length + 1 := by
        unfold text
        split
        · simp
        · split <;> simp
      simp only [List.length_cons]
      omega
/-- With one frame more it has a number, another one. -/
theorem stk_more {t : Tb} {l : List (ByteArray × Int)} (h : (t.stk l).2 ≠ 0) (hs : t.ss.length ≤ 60) (hk : t.ks.length ≤ 60) (hl : l.length ≤ 20) : 0 < ((t.stk l).1.stk (l ++ [moreF])).2 ∧ ((t.stk l).1.stk (l ++ [moreF])).2 ≠ (t.stk l).2 := by
  obtain ⟨_, hne, fs, hlay, p1, m1, rfl, n1, i1, q1, hm, hkl⟩ := stk_spec h
  have hsl : (t.stk l).1.ss.length ≤ 80 := by
    have := fold_len l (t.ss, []) _ _ hlay
    simp only at this
    omega
  have hpos : ((t.stk l).1.stk (l ++ [moreF])).2 ≠ 0 := by
    generalize (t.stk l).1 = c at *
    have hmk := mayK_iff.1 ((may_iff.1 hm).2.2.2.2.1 _ i1)
    have hlay2 : lay c.ss (l ++ [moreF]) = layStep (some (c.ss, l.map fun f => (idx c.ss f.1, f.2))) moreF := by
      rw [lay_snoc]
      unfold lay
      rw [fold_again l [] m1]
      simp
    have hms : mayS moreF.1 = true := by decide
    obtain ⟨ss', id, ht, hid1, hid2, hle⟩ : ∃ ss' id, text c.ss moreF.1 = (ss', id) ∧ 0 < id ∧ id ≤ (ss'.length : Int) ∧ c.ss.length ≤ ss'.length := by
      unfold text
      by_cases hin : moreF.1 ∈ c.ss
      · rw [if_pos hin]
        exact ⟨_, _, rfl, idx_pos.2 hin, by have := idx_le (l := c.ss) (x := moreF.1); omega, Nat.le_refl _⟩
      · rw [if_neg hin, if_pos ⟨hms, by omega⟩]
        exact ⟨_, _, rfl, by omega, by simp, by simp⟩
    have hlay3 : lay c.ss (l ++ [moreF]) = some (ss', (l.map fun f => (idx c.ss f.1, f.2)) ++ [(id, 1)]) := by
      rw [hlay2]
      unfold layStep
      simp only [Option.bind_some, ht]
      rw [if_neg (by omega)]
      rfl
    have hmk2 : mayK ss'.length ((l.map fun f => (idx c.ss f.1, f.2)) ++ [(id, 1)]) = true := by
      refine mayK_iff.2 ⟨by simp, by simp; omega, fun f hf => ?_⟩
      rcases List.mem_append.1 hf with hf | hf
      · have := hmk.2.2 f hf
        omega
      · rw [List.mem_singleton.1 hf]
        simp only
        omega
    unfold stk
    rw [if_pos ⟨hm, by simp; omega⟩, if_neg (by simp), hlay3]
    simp only
    rw [if_pos hmk2]
    split
    · rename_i hin
      have := idx_pos.2 hin
      simp only
      omega
    · split
      · omega
      · simp only
        omega
  refine ⟨?_, fun he => ?_⟩
  · have hnn : 0 ≤ ((t.stk l).1.stk (l ++ [moreF])).2 := by
      obtain ⟨_, _, fs, _, _, _, _, n2, _⟩ := stk_spec hpos
      rw [n2]
      exact idx_nn
    omega
  · have := (stk_apart h hpos).1 he.symm
    have h2 := congrArg List.length this
    simp at h2
/-- A frame's name has its number, and changes nothing. -/
theorem stk_name {t : Tb} {l : List (ByteArray × Int)} (h : (t.stk l).2 ≠ 0) {f : ByteArray × Int} (hf : f ∈ l) : ∃ id : Int, 1 ≤ id ∧ (t.stk l).1.string f.1 = ((t.stk l).1, id) := by
  obtain ⟨_, _, fs, _, p1, m1, _, _, _, q1, hm, _⟩ := stk_spec h
  have hin := m1 f hf
  have hne := mayS_ne ((may_iff.1 hm).2.2.1 f.1 hin)
  exact ⟨_, by have := idx_pos.2 hin; omega, string_in hm hne hin⟩
end Tb
end Go.Proofs.Ythkalaohaholaaa
