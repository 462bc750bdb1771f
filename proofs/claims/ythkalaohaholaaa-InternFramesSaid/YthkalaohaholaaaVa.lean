/-
  Plain mathematics of numbers as bytes: what a number's bytes are. No program is named here; no conditions.
-/
set_option linter.unusedVariables false
set_option linter.unusedSimpArgs false
namespace Go.Proofs.Ythkalaohaholaaa.Va

/-- The bytes of a number. -/
def put (n : Nat) : List UInt8 := if _h : n < 128 then [UInt8.ofNat n] else UInt8.ofNat (n % 128 + 128) :: put (n / 128)
  termination_by n
  decreasing_by omega

/-- A number's bound, behind a name. -/
def most : Nat := 4611686018427387904
theorem most_int {n : Nat} (h : n < most) : (n : Int) < 4611686018427387904 := by unfold most at h; omega

theorem put_small {n : Nat} (h : n < 128) : put n = [UInt8.ofNat n] := by
  rw [put]; simp [h]
theorem put_big {n : Nat} (h : 128 ≤ n) : put n = UInt8.ofNat (n % 128 + 128) :: put (n / 128) := by
  rw [put]; simp [show ¬ n < 128 by omega]

theorem put_len_pos (n : Nat) : 0 < (put n).length := by
  rw [put]; split <;> simp

theorem put_len_lt (k n : Nat) (hk : 0 < k) (h : n < 128 ^ k) : (put n).length ≤ k := by
  induction k generalizing n with
  | zero => omega
  | succ k ih =>
    by_cases hn : n < 128
    · rw [put_small hn]; simp
    · rw [put_big (by omega)]
      have hk0 : k ≠ 0 := by
        rintro rfl; simp at h; omega
      have := ih (n / 128) (by omega) (by rw [Nat.pow_succ] at h; omega)
      simp; omega

theorem put_len_most {n : Nat} (h : n < most) : (put n).length ≤ 9 := put_len_lt 9 n (by omega) (by unfold most at h; omega)

/-- The number that stands at a list's head: its value, how many bytes it has, what is wrong (0: nothing; 10: too short; 11: too long). -/
def tk : Nat → Nat → Nat → List UInt8 → Nat × Nat × Nat
  | 0, _, _, _ => (0, 0, 11)
  | _ + 1, _, _, [] => (0, 0, 10)
  | f + 1, i, acc, c :: r =>
    if i = 8 ∧ 64 ≤ c.toNat then (0, 0, 11)
    else if 128 ≤ c.toNat then tk f (i + 1) (acc + c.toNat % 128 * 128 ^ i) r
    else if c.toNat = 0 ∧ 0 < i then (0, 0, 11)
    else (acc + c.toNat % 128 * 128 ^ i, i + 1, 0)

/-- What is taken at a list's head. -/
def take (l : List UInt8) : Nat × Nat × Nat := tk 9 0 0 l

theorem u8n {n : Nat} (h : n < 256) : (UInt8.ofNat n).toNat = n := by simp; omega

theorem tk_put (f : Nat) : ∀ (i acc n : Nat) (r : List UInt8), f + i = 9 → 0 < f → n * 128 ^ i < most → (0 < i → 0 < n) →
    tk f i acc (put n ++ r) = (acc + n * 128 ^ i, i + (put n).length, 0) := by
  induction f with
  | zero => intro i acc n r _ h; omega
  | succ f ih =>
    intro i acc n r hf _ hn hp
    by_cases hs : n < 128
    · rw [put_small hs]
      simp only [List.singleton_append, tk]
      have hc : (UInt8.ofNat n).toNat = n := u8n (by omega)
      rw [hc]
      have h1 : ¬ (i = 8 ∧ 64 ≤ n) := by
        rintro ⟨rfl, h⟩
        unfold most at hn
        omega
      have h3 : ¬ (n = 0 ∧ 0 < i) := by
        rintro ⟨rfl, h⟩
        exact absurd (hp h) (by omega)
      rw [if_neg h1, if_neg (by omega), if_neg h3, Nat.mod_eq_of_lt hs]
      rfl
    · rw [put_big (by omega)]
      simp only [List.cons_append, tk]
      have hc : (UInt8.ofNat (n % 128 + 128)).toNat = n % 128 + 128 := u8n (by omega)
      rw [hc]
      have h1 : ¬ (i = 8 ∧ 64 ≤ n % 128 + 128) := by
        rintro ⟨rfl, h⟩
        unfold most at hn
        omega
      rw [if_neg h1, if_pos (by omega)]
      have hlt : n / 128 * 128 ^ (i + 1) ≤ n * 128 ^ i := by
        rw [Nat.pow_succ, Nat.mul_comm (128 ^ i) 128, ← Nat.mul_assoc]
        exact Nat.mul_le_mul_right _ (by omega)
      have hf0 : 0 < f := by
        rcases Nat.eq_zero_or_pos f with rfl | h
        · have : i = 8 := by omega
          subst this
          unfold most at hn; omega
        · exact h
      rw [ih (i + 1) _ (n / 128) r (by omega) hf0 (Nat.lt_of_le_of_lt hlt hn) (fun _ => by omega)]
      have e : acc + (n % 128 + 128) % 128 * 128 ^ i + n / 128 * 128 ^ (i + 1) = acc + n * 128 ^ i := by
        have hm : (n % 128 + 128) % 128 = n % 128 := by omega
        rw [hm, Nat.pow_succ, Nat.mul_comm (128 ^ i) 128, ← Nat.mul_assoc, Nat.add_assoc, ← Nat.add_mul]
        congr 2
        omega
      rw [e]
      simp only [List.length_cons]
      congr 2
      omega

theorem take_put (n : Nat) (r : List UInt8) (h : n < most) : take (put n ++ r) = (n, (put n).length, 0) := by
  unfold take
  rw [tk_put 9 0 0 n r rfl (by omega) (by simpa using h) (by omega)]
  simp

theorem step_most {i n r : Nat} (hi : i ≤ 7) (hr : r < 128) (hn : n * 128 ^ (i + 1) < most) : (n * 128 + r) * 128 ^ i < most := by
  have e : most = 64 * 128 ^ (7 - i) * 128 ^ (i + 1) := by
    rcases (by omega : i = 0 ∨ i = 1 ∨ i = 2 ∨ i = 3 ∨ i = 4 ∨ i = 5 ∨ i = 6 ∨ i = 7) with h | h | h | h | h | h | h | h <;> rw [h] <;> decide
  rw [e] at hn ⊢
  have hlt : n < 64 * 128 ^ (7 - i) := Nat.lt_of_mul_lt_mul_right hn
  rw [Nat.pow_succ, Nat.mul_comm (128 ^ i) 128, ← Nat.mul_assoc]
  exact Nat.mul_lt_mul_of_pos_right (by omega) (Nat.pow_pos (by decide))

theorem tk_ok (f : Nat) : ∀ (i acc a k : Nat) (l : List UInt8), f + i = 9 → tk f i acc l = (a, k, 0) →
    ∃ n r, l = put n ++ r ∧ a = acc + n * 128 ^ i ∧ k = i + (put n).length ∧ n * 128 ^ i < most ∧ (0 < i → 0 < n) := by
  induction f with
  | zero => intro i acc a k l _ h; simp [tk] at h
  | succ f ih =>
    intro i acc a k l hf h
    match l with
    | [] => simp [tk] at h
    | c :: r =>
      have hc := c.toNat_lt
      simp only [tk] at h
      split at h
      · simp at h
      · rename_i h1
        split at h
        · rename_i h2
          obtain ⟨n, r', rfl, ha, hk, hn, hp⟩ := ih _ _ _ _ _ (by omega) h
          have hn0 : 0 < n := hp (by omega)
          have hm : (n * 128 + c.toNat % 128) / 128 = n := by omega
          have hmod : (n * 128 + c.toNat % 128) % 128 + 128 = c.toNat := by omega
          have hbig : 128 ≤ n * 128 + c.toNat % 128 := by omega
          refine ⟨n * 128 + c.toNat % 128, r', ?_, ?_, ?_, ?_, fun _ => by omega⟩
          · rw [put_big hbig, hm, hmod]
            simp
          · rw [ha, Nat.add_mul, Nat.pow_succ, Nat.mul_assoc, Nat.mul_comm 128]; omega
          · rw [hk, put_big hbig, hm, List.length_cons]; omega
          · have : i ≤ 7 := by
              rcases Nat.lt_or_ge i 8 with h | h
              · omega
              · have : f = 0 := by omega
                subst this
                simp [tk] at h
            exact step_most this (Nat.mod_lt _ (by decide)) hn
        · rename_i h2
          split at h
          · simp at h
          · rename_i h3
            simp only [Prod.mk.injEq, and_true] at h
            obtain ⟨rfl, rfl⟩ := h
            refine ⟨c.toNat, r, ?_, ?_, ?_, ?_, fun hi => by omega⟩
            · rw [put_small (by omega)]; simp
            · rw [Nat.mod_eq_of_lt (by omega)]
            · rw [put_small (by omega)]; simp
            · have : i ≤ 8 := by omega
              rcases Nat.lt_or_ge i 8 with h8 | h8
              · have := step_most (i := i) (n := 0) (r := c.toNat) (by omega) (by omega) (by simp; decide)
                simpa using this
              · have : i = 8 := by omega
                subst this
                have : c.toNat ≤ 63 := by omega
                exact Nat.lt_of_le_of_lt (Nat.mul_le_mul_right _ this) (by decide)

theorem take_ok {l : List UInt8} {a k : Nat} (h : take l = (a, k, 0)) : ∃ r, l = put a ++ r ∧ k = (put a).length ∧ a < most := by
  obtain ⟨n, r, h1, h2, h3, h4, _⟩ := tk_ok 9 0 0 a k l rfl h
  simp at h2 h3 h4
  subst h2
  exact ⟨r, h1, h3, h4⟩

theorem tk_none (f : Nat) : ∀ (i acc a k e : Nat) (l : List UInt8), tk f i acc l = (a, k, e) → e = 0 ∨ (e = 10 ∧ a = 0 ∧ k = 0) ∨ (e = 11 ∧ a = 0 ∧ k = 0) := by
  induction f with
  | zero => intro i acc a k e l h; simp [tk] at h; omega
  | succ f ih =>
    intro i acc a k e l h
    match l with
    | [] => simp [tk] at h; omega
    | c :: r =>
      simp only [tk] at h
      split at h
      · simp at h; omega
      · split at h
        · exact ih _ _ _ _ _ _ h
        · split at h
          · simp at h; omega
          · simp at h; omega

theorem tk_high (f : Nat) : ∀ (i acc : Nat) (l : List UInt8), f + i = 9 → (∀ c ∈ l, 128 ≤ c.toNat) → l.length < f → tk f i acc l = (0, 0, 10) := by
  induction f with
  | zero => intro i acc l _ _ h; omega
  | succ f ih =>
    intro i acc l hf hc hl
    match l with
    | [] => rfl
    | c :: r =>
      have h1 := hc c (by simp)
      simp only [List.length_cons] at hl
      simp only [tk]
      rw [if_neg (by omega), if_pos h1]
      exact ih _ _ _ (by omega) (fun x hx => hc x (by simp [hx])) (by omega)

theorem tk_long (f : Nat) : ∀ (i acc : Nat) (l : List UInt8), f + i = 9 → (∀ c ∈ l.take f, 128 ≤ c.toNat) → f ≤ l.length → tk f i acc l = (0, 0, 11) := by
  induction f with
  | zero => intro i acc l _ _ _; rfl
  | succ f ih =>
    intro i acc l hf hc hl
    match l with
    | [] => simp at hl
    | c :: r =>
      have h1 := hc c (by simp)
      simp only [List.length_cons] at hl
      simp only [tk]
      by_cases h8 : i = 8
      · rw [if_pos ⟨h8, by omega⟩]
      · rw [if_neg (by omega), if_pos h1]
        exact ih _ _ _ (by omega) (fun x hx => hc x (by simp [hx])) (by omega)

/-- Each byte of a number but the last one is 128 or more. -/
theorem put_high (n : Nat) : ∀ (j : Nat) (c : UInt8), (put n)[j]? = some c → (128 ≤ c.toNat ↔ j + 1 < (put n).length) := by
  induction n using Nat.strongRecOn with
  | _ n ih =>
    intro j c hj
    by_cases hs : n < 128
    · rw [put_small hs] at hj ⊢
      match j with
      | 0 => simp at hj; subst hj; rw [u8n (by omega)]; simp; omega
      | j + 1 => simp at hj
    · rw [put_big (by omega)] at hj ⊢
      match j with
      | 0 =>
        simp at hj; subst hj
        have := put_len_pos (n / 128)
        simp; omega
      | j + 1 =>
        simp only [List.getElem?_cons_succ] at hj
        rw [ih (n / 128) (by omega) j c hj]
        simp

theorem put_mono : ∀ (n m : Nat), n ≤ m → (put n).length ≤ (put m).length := by
  intro n
  induction n using Nat.strongRecOn with
  | _ n ih =>
    intro m h
    by_cases hs : n < 128
    · rw [put_small hs]; have := put_len_pos m; simp; omega
    · rw [put_big (show 128 ≤ n by omega), put_big (show 128 ≤ m by omega)]
      simp only [List.length_cons]
      have := ih (n / 128) (by omega) (m / 128) (by omega)
      omega

theorem put_inj {n m : Nat} {a b : List UInt8} (hn : n < most) (hm : m < most) (h : put n ++ a = put m ++ b) : n = m := by
  have h1 := take_put n a hn
  rw [h, take_put m b hm] at h1
  simp only [Prod.mk.injEq] at h1
  exact h1.1.symm

theorem take_cut {n : Nat} (h : n < most) {k : Nat} (hk : k < (put n).length) : take ((put n).take k) = (0, 0, 10) := by
  unfold take
  have h9 := put_len_most h
  refine tk_high 9 0 0 _ rfl (fun c hc => ?_) (by simp; omega)
  obtain ⟨j, hj⟩ := List.mem_iff_getElem?.1 hc
  rw [List.getElem?_take] at hj
  split at hj
  · exact (put_high n j c hj).2 (by omega)
  · simp at hj

/-- A number's bytes as a text. -/
def puts (n : Nat) : ByteArray := ⟨(put n).toArray⟩
theorem puts_size (n : Nat) : (puts n).size = (put n).length := by simp [puts, ByteArray.size]
theorem puts_list (n : Nat) : (puts n).data.toList = put n := by simp [puts]
theorem puts_high (n k : Nat) (h : k < (puts n).size) : 128 ≤ (puts n)[k].toNat ↔ k + 1 < (puts n).size := by
  have h' : k < (put n).length := by rw [← puts_size]; exact h
  have := put_high n k ((put n)[k]) (by simp [h'])
  rw [puts_size, ← this]
  rfl

/-- How many parts a number has behind its first one. -/
def cnt (m : Nat) : Nat := if m = 0 then 0 else (put m).length
theorem cnt_step {m : Nat} (h : 0 < m) : cnt m = 1 + cnt (m / 128) := by
  unfold cnt
  rw [if_neg (by omega)]
  by_cases hs : m < 128
  · rw [put_small hs, if_pos (by omega)]; rfl
  · rw [put_big (by omega), if_neg (by omega), List.length_cons]; omega
theorem cnt_put (n : Nat) : (put n).length = 1 + cnt (n / 128) := by
  by_cases h : n = 0
  · subst h; rw [put_small (by omega)]; rfl
  · rw [← cnt_step (by omega)]; unfold cnt; rw [if_neg h]

end Go.Proofs.Ythkalaohaholaaa.Va
