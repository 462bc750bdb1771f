/-
  Snaps as bytes, plain facts: what was written is read; what is read was written; cut off it is too short.
-/
import Derived.Test.YthkogcgdikgkaaaMr
import Derived.Test.YthkogcgdikgkaaaWj
set_option linter.unusedVariables false
set_option linter.unusedSimpArgs false
namespace Go.Proofs.Ythkogcgdikgkaaa
open Go.RowKit Go.Maps

theorem Wi.num_zero (s : ByteArray) (a e : Int) (h : (Wi.num s a e).2.2 ≠ 0) : (Wi.num s a e).1 = 0 := by
  unfold Wi.num at *
  split
  · split
    · rename_i h1 h2; rw [if_pos h1, if_pos h2] at h; exact absurd rfl h
    · rfl
  · rfl
/-- A number that was read stood there. -/
theorem Wi.num_good {s : ByteArray} {a : Nat} {e x b : Int} (ha : a ≤ s.size) (h : Wi.num s a e = (x, b, 0)) :
    e = 0 ∧ Wi.ok x ∧ ∃ c : Nat, b = (c : Int) ∧ c ≤ s.size ∧ c = a + (Va.put x.toNat).length ∧ s.data.toList.drop a = Va.put x.toNat ++ s.data.toList.drop c := by
  by_cases he : e = 0
  · subst he
    obtain ⟨⟨n, k, c⟩, ht⟩ : ∃ r, Va.take (s.data.toList.drop a) = r := ⟨_, rfl⟩
    obtain ⟨h1, h2, h3⟩ := Wi.at_take s a ha ht
    unfold Wi.num at h
    rw [if_pos rfl] at h
    by_cases hc : c = 0
    · subst hc
      rw [if_pos (by rw [h1]; rfl), h2, h3, if_pos rfl] at h
      simp only [Prod.mk.injEq, and_true] at h
      obtain ⟨rfl, rfl⟩ := h
      obtain ⟨r, k1, k2, k3⟩ := Va.take_ok ht
      have hl := congrArg List.length k1
      rw [List.length_append, List.length_drop, Wi.len_data] at hl
      refine ⟨rfl, ⟨by omega, Va.most_int k3⟩, a + k, rfl, by omega, by rw [Int.toNat_natCast, k2], ?_⟩
      rw [Int.toNat_natCast, k2, ← List.drop_drop, k1, List.drop_left]
    · rw [if_neg (by rw [h1]; omega)] at h
      simp only [Prod.mk.injEq] at h
      have := h.2.2
      rw [h1] at this
      omega
  · rw [Wi.num_err _ _ _ he] at h
    simp only [Prod.mk.injEq] at h
    exact absurd h.2.2 he
def snPAll (l : List (Int × Int)) : Prop := ∀ p ∈ l, Wi.ok p.1 ∧ Wi.ok p.2
def snGAll (l : List Gs4) : Prop := ∀ g ∈ l, Wi.ok g.1 ∧ Wi.ok g.2.1 ∧ Wi.ok g.2.2.1 ∧ Wi.ok g.2.2.2
theorem snPNums_snoc (l : List (Int × Int)) (p : Int × Int) : snPNums (l ++ [p]) = snPNums l ++ [p.1, p.2] := by simp [snPNums]
theorem snGNums_snoc (l : List Gs4) (g : Gs4) : snGNums (l ++ [g]) = snGNums l ++ [g.1, g.2.1, g.2.2.1, g.2.2.2] := by simp [snGNums]
theorem Wi.cat_two (x y : Int) : Wi.cat [x, y] = Va.put x.toNat ++ Va.put y.toNat := by simp [Wi.cat]
theorem Wi.cat_four (x y z u : Int) : Wi.cat [x, y, z, u] = Va.put x.toNat ++ (Va.put y.toNat ++ (Va.put z.toNat ++ Va.put u.toNat)) := by simp [Wi.cat]
theorem Wi.cat_one (x : Int) : Wi.cat [x] = Va.put x.toNat := by simp [Wi.cat]
theorem snStP_good (s : ByteArray) (a : Nat) (e : Int) (ha : a ≤ s.size) : ∀ (k : Nat) (l : List (Int × Int)) (b : Int), snStP s a e k = (l, b, 0) →
    e = 0 ∧ snPAll l ∧ ∃ c : Nat, b = (c : Int) ∧ c ≤ s.size ∧ s.data.toList.drop a = Wi.cat (snPNums l) ++ s.data.toList.drop c
  | 0, l, b, h => by
    simp only [snStP, Prod.mk.injEq] at h
    obtain ⟨rfl, rfl, rfl⟩ := h
    exact ⟨rfl, fun p hp => by simp at hp, a, rfl, ha, by simp [snPNums, Wi.cat]⟩
  | k + 1, l, b, h => by
    obtain ⟨⟨l0, a0, e0⟩, h0⟩ : ∃ r, snStP s a e k = r := ⟨_, rfl⟩
    obtain ⟨⟨x, a1, e1⟩, h1⟩ : ∃ r, Wi.num s a0 e0 = r := ⟨_, rfl⟩
    obtain ⟨⟨y, a2, e2⟩, h2⟩ : ∃ r, Wi.num s a1 e1 = r := ⟨_, rfl⟩
    simp only [snStP, h0, h1, h2, Prod.mk.injEq] at h
    obtain ⟨rfl, rfl, rfl⟩ := h
    have he1 : e1 = 0 := by
      by_cases he : e1 = 0
      · exact he
      · rw [Wi.num_err _ _ _ he] at h2; simp only [Prod.mk.injEq] at h2; exact absurd h2.2.2 he
    subst he1
    have he0 : e0 = 0 := by
      by_cases he : e0 = 0
      · exact he
      · rw [Wi.num_err _ _ _ he] at h1; simp only [Prod.mk.injEq] at h1; exact absurd h1.2.2 he
    subst he0
    obtain ⟨r1, r2, c0, rfl, r3, r4⟩ := snStP_good s a e ha k l0 a0 h0
    obtain ⟨_, s1, c1, rfl, s2, _, s3⟩ := Wi.num_good r3 h1
    obtain ⟨_, t1, c2, rfl, t2, _, t3⟩ := Wi.num_good s2 h2
    refine ⟨r1, fun p hp => ?_, c2, rfl, t2, ?_⟩
    · rcases List.mem_append.1 hp with hp | hp
      · exact r2 p hp
      · simp only [List.mem_cons, List.not_mem_nil, or_false] at hp
        subst hp
        exact ⟨s1, t1⟩
    · rw [r4, s3, t3, snPNums_snoc, Wi.cat_append, Wi.cat_two]
      simp
theorem snStG_good (s : ByteArray) (a : Nat) (e : Int) (ha : a ≤ s.size) : ∀ (k : Nat) (l : List Gs4) (b : Int), snStG s a e k = (l, b, 0) →
    e = 0 ∧ snGAll l ∧ ∃ c : Nat, b = (c : Int) ∧ c ≤ s.size ∧ s.data.toList.drop a = Wi.cat (snGNums l) ++ s.data.toList.drop c
  | 0, l, b, h => by
    simp only [snStG, Prod.mk.injEq] at h
    obtain ⟨rfl, rfl, rfl⟩ := h
    exact ⟨rfl, fun p hp => by simp at hp, a, rfl, ha, by simp [snGNums, Wi.cat]⟩
  | k + 1, l, b, h => by
    obtain ⟨⟨l0, a0, e0⟩, h0⟩ : ∃ r, snStG s a e k = r := ⟨_, rfl⟩
    obtain ⟨⟨x, a1, e1⟩, h1⟩ : ∃ r, Wi.num s a0 e0 = r := ⟨_, rfl⟩
    obtain ⟨⟨y, a2, e2⟩, h2⟩ : ∃ r, Wi.num s a1 e1 = r := ⟨_, rfl⟩
    obtain ⟨⟨z, a3, e3⟩, h3⟩ : ∃ r, Wi.num s a2 e2 = r := ⟨_, rfl⟩
    obtain ⟨⟨u, a4, e4⟩, h4⟩ : ∃ r, Wi.num s a3 e3 = r := ⟨_, rfl⟩
    simp only [snStG, h0, h1, h2, h3, h4, Prod.mk.injEq] at h
    obtain ⟨rfl, rfl, rfl⟩ := h
    have keep : ∀ {a e x b : Int}, Wi.num s a e = (x, b, 0) → e = 0 := fun {a e x b} h => by
      by_cases he : e = 0
      · exact he
      · rw [Wi.num_err _ _ _ he] at h; simp only [Prod.mk.injEq] at h; exact absurd h.2.2 he
    obtain rfl := keep h4
    obtain rfl := keep h3
    obtain rfl := keep h2
    obtain rfl := keep h1
    obtain ⟨r1, r2, c0, rfl, r3, r4⟩ := snStG_good s a e ha k l0 a0 h0
    obtain ⟨_, s1, c1, rfl, s2, _, s3⟩ := Wi.num_good r3 h1
    obtain ⟨_, t1, c2, rfl, t2, _, t3⟩ := Wi.num_good s2 h2
    obtain ⟨_, v1, c3, rfl, v2, _, v3⟩ := Wi.num_good t2 h3
    obtain ⟨_, x1, c4, rfl, x2, _, x3⟩ := Wi.num_good v2 h4
    refine ⟨r1, fun p hp => ?_, c4, rfl, x2, ?_⟩
    · rcases List.mem_append.1 hp with hp | hp
      · exact r2 p hp
      · simp only [List.mem_cons, List.not_mem_nil, or_false] at hp
        subst hp
        exact ⟨s1, t1, v1, x1⟩
    · rw [r4, s3, t3, v3, x3, snGNums_snoc, Wi.cat_append, Wi.cat_four]
      simp
/-- What is decoded may be, and its bytes are just those; else there is nothing. -/
theorem snDec_ok {t : ByteArray} {s : Sn} (h : snDec t = (s, 0)) : s.may = true ∧ s.enc = t := by
  obtain ⟨⟨tm, a1, e1⟩, hx⟩ : ∃ r, Wi.num t 0 0 = r := ⟨_, rfl⟩
  obtain ⟨⟨n, a2, e2⟩, hy⟩ : ∃ r, Wi.num t a1 e1 = r := ⟨_, rfl⟩
  obtain ⟨⟨l, a3, e3⟩, hp⟩ : ∃ r, snStP t a2 e2 n.toNat = r := ⟨_, rfl⟩
  obtain ⟨⟨m, a4, e4⟩, hz⟩ : ∃ r, Wi.num t a3 e3 = r := ⟨_, rfl⟩
  obtain ⟨⟨g, a5, e5⟩, hq⟩ : ∃ r, snStG t a4 e4 m.toNat = r := ⟨_, rfl⟩
  have hn := Wi.num_val t a1 e1
  have hm := Wi.num_val t a3 e3
  rw [hy] at hn
  rw [hz] at hm
  unfold snDec at h
  simp only [hx, hy, hp, hz, hq] at h
  have bad : ∀ {x : Sn}, (Sn.zero, (80 : Int)) = (x, 0) → False := fun h => by simp at h
  split at h
  · exact (bad h).elim
  split at h
  · exact (bad h).elim
  split at h
  · rename_i h1 h2 h3; simp only [Prod.mk.injEq] at h; exact absurd h.2 h3
  rename_i h64 h1000 he5
  split at h
  · rename_i hfm
    simp only [Prod.mk.injEq, and_true] at h
    subst h
    have he5' : e5 = 0 := by omega
    subst he5'
    have hq' : snStG t a4 e4 m.toNat = (g, a5, 0) := hq
    have keep : ∀ {a e x b : Int}, Wi.num t a e = (x, b, 0) → e = 0 := fun {a e x b} h => by
      by_cases he : e = 0
      · exact he
      · rw [Wi.num_err _ _ _ he] at h; simp only [Prod.mk.injEq] at h; exact absurd h.2.2 he
    have keepG : ∀ (k : Nat) {a e b : Int} {l : List Gs4}, snStG t a e k = (l, b, 0) → e = 0 := by
      intro k
      induction k with
      | zero => intro a e b l h; simp only [snStG, Prod.mk.injEq] at h; exact h.2.2
      | succ k ih =>
        intro a e b l h
        simp only [snStG, Prod.mk.injEq] at h
        have k4 := keep (a := _) (x := (Wi.num t _ _).1) (b := (Wi.num t _ _).2.1) (by rw [← h.2.2])
        have k3 := keep (a := _) (x := (Wi.num t _ _).1) (b := (Wi.num t _ _).2.1) (by rw [← k4])
        have k2 := keep (a := _) (x := (Wi.num t _ _).1) (b := (Wi.num t _ _).2.1) (by rw [← k3])
        have k1 := keep (a := _) (x := (Wi.num t _ _).1) (b := (Wi.num t _ _).2.1) (by rw [← k2])
        exact ih (b := (snStG t a e k).2.1) (l := (snStG t a e k).1) (by rw [← k1])
    have keepP : ∀ (k : Nat) {a e b : Int} {l : List (Int × Int)}, snStP t a e k = (l, b, 0) → e = 0 := by
      intro k
      induction k with
      | zero => intro a e b l h; simp only [snStP, Prod.mk.injEq] at h; exact h.2.2
      | succ k ih =>
        intro a e b l h
        simp only [snStP, Prod.mk.injEq] at h
        have k2 := keep (a := _) (x := (Wi.num t _ _).1) (b := (Wi.num t _ _).2.1) (by rw [← h.2.2])
        have k1 := keep (a := _) (x := (Wi.num t _ _).1) (b := (Wi.num t _ _).2.1) (by rw [← k2])
        exact ih (b := (snStP t a e k).2.1) (l := (snStP t a e k).1) (by rw [← k1])
    obtain rfl := keepG _ hq
    obtain rfl := keep hz
    obtain rfl := keepP _ hp
    obtain rfl := keep hy
    obtain ⟨_, o1, c1, rfl, l1, _, d1⟩ := Wi.num_good (a := 0) (by omega) hx
    obtain ⟨_, o2, c2, rfl, l2, _, d2⟩ := Wi.num_good l1 hy
    obtain ⟨_, o3, c3, rfl, l3, d3⟩ := snStP_good t c2 0 l2 _ _ _ hp
    obtain ⟨_, o4, c4, rfl, l4, _, d4⟩ := Wi.num_good l3 hz
    obtain ⟨_, o5, c5, rfl, l5, d5⟩ := snStG_good t c4 0 l4 _ _ _ hq
    have hll := snStP_len t c2 0 n.toNat
    have hgg := snStG_len t c4 0 m.toNat
    rw [hp] at hll
    rw [hq] at hgg
    simp only at hll hgg hn hm
    obtain ⟨hfin, hmay⟩ := hfm
    refine ⟨hmay, ?_⟩
    unfold Wi.fin at hfin
    simp only [Bool.and_eq_true, beq_iff_eq] at hfin
    have hc5 : c5 = t.size := by have := hfin.2; omega
    unfold Sn.enc
    rw [if_pos hmay]
    have hlist : t.data.toList = Wi.cat (Sn.nums ⟨tm, l, g⟩) := by
      have e0 : t.data.toList = t.data.toList.drop 0 := by simp
      rw [e0, d1, d2, d3, d4, d5, hc5, List.drop_of_length_le (by simp)]
      unfold Sn.nums
      simp only
      rw [Wi.cat_append, Wi.cat_append, Wi.cat_append, Wi.cat_two, Wi.cat_one, hll, hgg, Int.toNat_of_nonneg hn.1, Int.toNat_of_nonneg hm.1]
      simp
    rw [← hlist]
  · exact (bad h).elim
theorem snDec_no {t : ByteArray} {s : Sn} {e : Int} (h : snDec t = (s, e)) (he : e ≠ 0) : s = Sn.zero := by
  unfold snDec at h
  simp only at h
  split at h
  · simp only [Prod.mk.injEq] at h; exact h.1.symm
  split at h
  · simp only [Prod.mk.injEq] at h; exact h.1.symm
  split at h
  · simp only [Prod.mk.injEq] at h; exact h.1.symm
  split at h
  · simp only [Prod.mk.injEq] at h; exact absurd h.2.symm he
  · simp only [Prod.mk.injEq] at h; exact h.1.symm

end Go.Proofs.Ythkogcgdikgkaaa
