/-
  Snaps as bytes, plain facts: what was written is read; cut off it is too short.
-/
import Derived.Test.YthkogcgdikgkaaaMt
set_option linter.unusedVariables false
set_option linter.unusedSimpArgs false
namespace Go.Proofs.Ythkogcgdikgkaaa
open Go.RowKit Go.Maps

theorem snP_mid (A B : List (Int × Int)) (p : Int × Int) : Wi.cat (snPNums (A ++ p :: B)) = Wi.cat (snPNums A) ++ (Va.put p.1.toNat ++ (Va.put p.2.toNat ++ Wi.cat (snPNums B))) := by simp [snPNums, Wi.cat]
theorem snG_mid (A B : List Gs4) (p : Gs4) : Wi.cat (snGNums (A ++ p :: B)) = Wi.cat (snGNums A) ++ (Va.put p.1.toNat ++ (Va.put p.2.1.toNat ++ (Va.put p.2.2.1.toNat ++ (Va.put p.2.2.2.toNat ++ Wi.cat (snGNums B))))) := by simp [snGNums, Wi.cat]
theorem snPNums_split (l : List (Int × Int)) (k : Nat) (h : k < l.length) : Wi.cat (snPNums l) = Wi.cat (snPNums (l.take k)) ++ (Va.put l[k].1.toNat ++ (Va.put l[k].2.toNat ++ Wi.cat (snPNums (l.drop (k + 1))))) := by
  have e : l = l.take k ++ (l[k] :: l.drop (k + 1)) := by rw [← List.drop_eq_getElem_cons h, List.take_append_drop]
  conv => lhs; rw [e]
  exact snP_mid _ _ _
theorem snGNums_split (l : List Gs4) (k : Nat) (h : k < l.length) : Wi.cat (snGNums l) = Wi.cat (snGNums (l.take k)) ++ (Va.put l[k].1.toNat ++ (Va.put l[k].2.1.toNat ++ (Va.put l[k].2.2.1.toNat ++ (Va.put l[k].2.2.2.toNat ++ Wi.cat (snGNums (l.drop (k + 1))))))) := by
  have e : l = l.take k ++ (l[k] :: l.drop (k + 1)) := by rw [← List.drop_eq_getElem_cons h, List.take_append_drop]
  conv => lhs; rw [e]
  exact snG_mid _ _ _
/-- Reading goes on behind what was read. -/
theorem Wi.num_on {s : ByteArray} {a : Nat} {x : Int} {r : List UInt8} (ha : a ≤ s.size) (hx : Wi.ok x) (h : s.data.toList.drop a = Va.put x.toNat ++ r) :
    Wi.num s a 0 = (x, ((a + (Va.put x.toNat).length : Nat) : Int), 0) ∧ a + (Va.put x.toNat).length ≤ s.size ∧ s.data.toList.drop (a + (Va.put x.toNat).length) = r := by
  have hl := congrArg List.length h
  rw [List.length_drop, List.length_append, Wi.len_data] at hl
  refine ⟨Wi.num_has s a x r ha hx h, ?_, by rw [← List.drop_drop, h, List.drop_left]⟩
  have := Va.put_len_pos x.toNat
  omega
theorem snStP_has (s : ByteArray) (a : Nat) (l : List (Int × Int)) (r : List UInt8) (ha : a ≤ s.size) (hl : snPAll l) (h : s.data.toList.drop a = Wi.cat (snPNums l) ++ r) : ∀ k, k ≤ l.length →
    snStP s a 0 k = (l.take k, ((a + (Wi.cat (snPNums (l.take k))).length : Nat) : Int), 0) ∧ a + (Wi.cat (snPNums (l.take k))).length ≤ s.size
  | 0, _ => ⟨by simp [snStP, snPNums, Wi.cat], by simp [snPNums, Wi.cat]; exact ha⟩
  | k + 1, hk => by
    obtain ⟨i1, i2⟩ := snStP_has s a l r ha hl h k (by omega)
    have hok := hl l[k] (List.getElem_mem (by omega))
    have hd : s.data.toList.drop (a + (Wi.cat (snPNums (l.take k))).length) = Va.put l[k].1.toNat ++ (Va.put l[k].2.toNat ++ (Wi.cat (snPNums (l.drop (k + 1))) ++ r)) := by
      rw [← List.drop_drop, h, snPNums_split l k (by omega), List.append_assoc, List.drop_left]
      simp
    obtain ⟨n1, n2, n3⟩ := Wi.num_on i2 hok.1 hd
    obtain ⟨m1, m2, m3⟩ := Wi.num_on n2 hok.2 n3
    have hlen : a + (Wi.cat (snPNums (l.take (k + 1)))).length = a + (Wi.cat (snPNums (l.take k))).length + (Va.put l[k].1.toNat).length + (Va.put l[k].2.toNat).length := by
      rw [snPNums_next (by omega), Wi.cat_append, Wi.cat_two, List.length_append, List.length_append]; omega
    rw [hlen]
    refine ⟨?_, m2⟩
    unfold snStP
    simp only [i1, n1, m1]
    rw [List.take_succ_eq_append_getElem (by omega)]
theorem snStG_has (s : ByteArray) (a : Nat) (l : List Gs4) (r : List UInt8) (ha : a ≤ s.size) (hl : snGAll l) (h : s.data.toList.drop a = Wi.cat (snGNums l) ++ r) : ∀ k, k ≤ l.length →
    snStG s a 0 k = (l.take k, ((a + (Wi.cat (snGNums (l.take k))).length : Nat) : Int), 0) ∧ a + (Wi.cat (snGNums (l.take k))).length ≤ s.size
  | 0, _ => ⟨by simp [snStG, snGNums, Wi.cat], by simp [snGNums, Wi.cat]; exact ha⟩
  | k + 1, hk => by
    obtain ⟨i1, i2⟩ := snStG_has s a l r ha hl h k (by omega)
    have hok := hl l[k] (List.getElem_mem (by omega))
    have hd : s.data.toList.drop (a + (Wi.cat (snGNums (l.take k))).length) = Va.put l[k].1.toNat ++ (Va.put l[k].2.1.toNat ++ (Va.put l[k].2.2.1.toNat ++ (Va.put l[k].2.2.2.toNat ++ (Wi.cat (snGNums (l.drop (k + 1))) ++ r)))) := by
      rw [← List.drop_drop, h, snGNums_split l k (by omega), List.append_assoc, List.drop_left]
      simp
    obtain ⟨n1, n2, n3⟩ := Wi.num_on i2 hok.1 hd
    obtain ⟨m1, m2, m3⟩ := Wi.num_on n2 hok.2.1 n3
    obtain ⟨p1, p2, p3⟩ := Wi.num_on m2 hok.2.2.1 m3
    obtain ⟨q1, q2, q3⟩ := Wi.num_on p2 hok.2.2.2 p3
    have hlen : a + (Wi.cat (snGNums (l.take (k + 1)))).length = a + (Wi.cat (snGNums (l.take k))).length + (Va.put l[k].1.toNat).length + (Va.put l[k].2.1.toNat).length + (Va.put l[k].2.2.1.toNat).length + (Va.put l[k].2.2.2.toNat).length := by
      rw [snGNums_next (by omega), Wi.cat_append, Wi.cat_four, List.length_append, List.length_append, List.length_append, List.length_append]; omega
    rw [hlen]
    refine ⟨?_, q2⟩
    unfold snStG
    simp only [i1, n1, m1, p1, q1]
    rw [List.take_succ_eq_append_getElem (by omega)]
theorem Sn.may_all {s : Sn} (h : s.may = true) : Wi.ok s.time ∧ s.ps.length ≤ 64 ∧ s.gs.length ≤ 1000 ∧ snPAll s.ps ∧ snGAll s.gs ∧ ∀ x ∈ s.nums, Wi.ok x := by
  obtain ⟨a, b, c, d, e⟩ := Sn.may_ok h
  have hp : snPAll s.ps := fun p hp => ⟨snNum_ok (d p hp).1, snNum_ok (d p hp).2⟩
  have hg : snGAll s.gs := fun g hg => ⟨snNum_ok (e g hg).1, snNum_ok (e g hg).2.1, snNum_ok (e g hg).2.2.1, snNum_ok (e g hg).2.2.2⟩
  refine ⟨snNum_ok a, b, c, hp, hg, fun x hx => ?_⟩
  unfold Sn.nums at hx
  simp only [List.mem_append, List.mem_cons, List.not_mem_nil, or_false] at hx
  rcases hx with (((rfl | rfl) | hx) | rfl) | hx
  · exact snNum_ok a
  · exact ⟨by omega, by omega⟩
  · obtain ⟨p, hp', hx⟩ := List.mem_flatMap.1 hx
    simp only [List.mem_cons, List.not_mem_nil, or_false] at hx
    rcases hx with rfl | rfl
    · exact (hp p hp').1
    · exact (hp p hp').2
  · exact ⟨by omega, by omega⟩
  · obtain ⟨p, hp', hx⟩ := List.mem_flatMap.1 hx
    simp only [List.mem_cons, List.not_mem_nil, or_false] at hx
    rcases hx with rfl | rfl | rfl | rfl
    · exact (hg p hp').1
    · exact (hg p hp').2.1
    · exact (hg p hp').2.2.1
    · exact (hg p hp').2.2.2
theorem snDec_enc {s : Sn} (h : s.may = true) : snDec s.enc = (s, 0) := by
  obtain ⟨h1, h2, h3, h4, h5, _⟩ := Sn.may_all h
  have he : s.enc = ⟨(Wi.cat s.nums).toArray⟩ := by unfold Sn.enc; rw [if_pos h]
  obtain ⟨t, ht⟩ : ∃ t, s.enc = t := ⟨_, rfl⟩
  rw [ht] at he ⊢
  have hl : t.data.toList = Va.put s.time.toNat ++ (Va.put s.ps.length ++ (Wi.cat (snPNums s.ps) ++ (Va.put s.gs.length ++ (Wi.cat (snGNums s.gs) ++ [])))) := by
    rw [he]
    unfold Sn.nums
    simp [Wi.cat]
  have hsz : t.size = (t.data.toList).length := by simp
  obtain ⟨n1, n2, n3⟩ := Wi.num_on (s := t) (a := 0) (by omega) h1 (by rw [List.drop_zero]; exact hl)
  obtain ⟨m1, m2, m3⟩ := Wi.num_on (x := (s.ps.length : Int)) n2 ⟨by omega, by omega⟩ (by rw [Int.toNat_natCast]; exact n3)
  rw [Int.toNat_natCast] at m1 m2 m3
  obtain ⟨p1, p2⟩ := snStP_has t _ s.ps _ m2 h4 m3 s.ps.length (Nat.le_refl _)
  rw [List.take_length] at p1 p2
  have p3 : t.data.toList.drop (0 + (Va.put s.time.toNat).length + (Va.put s.ps.length).length + (Wi.cat (snPNums s.ps)).length) = Va.put s.gs.length ++ (Wi.cat (snGNums s.gs) ++ []) := by
    rw [← List.drop_drop, m3, List.drop_left]
  obtain ⟨q1, q2, q3⟩ := Wi.num_on (x := (s.gs.length : Int)) p2 ⟨by omega, by omega⟩ (by rw [Int.toNat_natCast]; exact p3)
  rw [Int.toNat_natCast] at q1 q2 q3
  obtain ⟨g1, g2⟩ := snStG_has t _ s.gs _ q2 h5 q3 s.gs.length (Nat.le_refl _)
  rw [List.take_length] at g1 g2
  have hend : 0 + (Va.put s.time.toNat).length + (Va.put s.ps.length).length + (Wi.cat (snPNums s.ps)).length + (Va.put s.gs.length).length + (Wi.cat (snGNums s.gs)).length = t.size := by
    rw [hsz, hl]
    simp only [List.length_append, List.length_nil]
    omega
  rw [hend] at g1
  unfold snDec
  have n1' : Wi.num t 0 0 = _ := n1
  simp only [n1', m1, Int.toNat_natCast, p1, q1, g1]
  rw [if_neg (by omega), if_neg (by omega), if_neg (by simp), if_pos ⟨by simp [Wi.fin], h⟩]
/-- Cut off: each number that is whole is read as it was. -/
theorem Wi.inv_val {xs : List Int} {c k : Nat} {a e : Int} (hc : c ≤ (Wi.full xs []).size) (hk : k < xs.length) (hok : ∀ x ∈ xs, Wi.ok x) (h : Wi.Inv c (Wi.offN xs k) a e) (hz : (Wi.num ((Wi.full xs []).extract 0 c) a e).2.2 = 0) :
    (Wi.num ((Wi.full xs []).extract 0 c) a e).1 = xs[k] := by
  have hsz : ((Wi.full xs []).extract 0 c).size = c := by simp; omega
  rcases h with ⟨rfl, rfl, ho⟩ | ⟨rfl, h0, h1⟩
  · have hd := Wi.cut_item (c := c) (Wi.atN xs [] k hk)
    rw [← Wi.cut_list] at hd
    have hx := hok xs[k] (List.getElem_mem hk)
    split at hd
    · rename_i hl
      rw [Wi.num_has _ _ _ _ (by omega) hx hd]
    · rename_i hl
      rw [Wi.num_cut _ _ _ _ (by omega) hx (by omega) hd] at hz
      simp at hz
  · rw [Wi.num_err _ _ _ (by omega)] at hz
    simp at hz
theorem snStP_inv {xs : List Int} {c j : Nat} {a e : Int} (hc : c ≤ (Wi.full xs []).size) (hok : ∀ x ∈ xs, Wi.ok x) (h : Wi.Inv c (Wi.offN xs j) a e) : ∀ k, j + 2 * k ≤ xs.length →
    Wi.Inv c (Wi.offN xs (j + 2 * k)) (snStP ((Wi.full xs []).extract 0 c) a e k).2.1 (snStP ((Wi.full xs []).extract 0 c) a e k).2.2
  | 0, _ => h
  | k + 1, hk => by
    have h1 := snStP_inv hc hok h k (by omega)
    have h2 := Wi.inv_num hc (by omega) hok h1
    have h3 := Wi.inv_num hc (by omega) hok h2
    exact h3
theorem snStG_inv {xs : List Int} {c j : Nat} {a e : Int} (hc : c ≤ (Wi.full xs []).size) (hok : ∀ x ∈ xs, Wi.ok x) (h : Wi.Inv c (Wi.offN xs j) a e) : ∀ k, j + 4 * k ≤ xs.length →
    Wi.Inv c (Wi.offN xs (j + 4 * k)) (snStG ((Wi.full xs []).extract 0 c) a e k).2.1 (snStG ((Wi.full xs []).extract 0 c) a e k).2.2
  | 0, _ => h
  | k + 1, hk => by
    have h1 := snStG_inv hc hok h k (by omega)
    have h2 := Wi.inv_num hc (by omega) hok h1
    have h3 := Wi.inv_num hc (by omega) hok h2
    have h4 := Wi.inv_num hc (by omega) hok h3
    have h5 := Wi.inv_num hc (by omega) hok h4
    exact h5
theorem Sn.nums_len (s : Sn) : s.nums.length = 3 + 2 * s.ps.length + 4 * s.gs.length := by
  unfold Sn.nums
  simp only [List.length_append, List.length_cons, List.length_nil, snPNums_len, snGNums_len]
  omega
theorem Sn.nums_at (s : Sn) : s.nums[1]? = some (s.ps.length : Int) ∧ s.nums[2 + 2 * s.ps.length]? = some (s.gs.length : Int) := by
  unfold Sn.nums
  refine ⟨by simp, ?_⟩
  rw [List.append_assoc, List.getElem?_append_right (by simp [snPNums_len]; omega)]
  rw [show (2 + 2 * s.ps.length) - ([s.time, (s.ps.length : Int)] ++ snPNums s.ps).length = 0 by simp [snPNums_len]; omega]
  rfl
theorem snDec_cut {s : Sn} (h : s.may = true) {c : Nat} (hc : c < s.enc.size) : snDec (s.enc.extract 0 c) = (Sn.zero, 10) := by
  obtain ⟨h1, h2, h3, h4, h5, hok⟩ := Sn.may_all h
  have he : s.enc = Wi.full s.nums [] := by unfold Sn.enc; rw [if_pos h, Wi.full_nil]; rfl
  rw [he] at hc ⊢
  obtain ⟨xs, hxs⟩ : ∃ xs, s.nums = xs := ⟨_, rfl⟩
  have hlen := Sn.nums_len s
  obtain ⟨v1, v2⟩ := Sn.nums_at s
  rw [hxs] at hc hok hlen v1 v2 ⊢
  have hcc : c ≤ (Wi.full xs []).size := by omega
  obtain ⟨t, ht⟩ : ∃ t, (Wi.full xs []).extract 0 c = t := ⟨_, rfl⟩
  have i0 : Wi.Inv c (Wi.offN xs 0) 0 0 := .inl ⟨rfl, by simp [Wi.offN, Wi.cat], by simp [Wi.offN, Wi.cat]⟩
  have i1 := Wi.inv_num hcc (by omega) hok i0
  have i2 := Wi.inv_num hcc (by omega) hok i1
  have w1 := Wi.inv_val hcc (k := 1) (by omega) hok i1
  rw [ht] at i1 i2 w1 ⊢
  obtain ⟨⟨tm, a1, e1⟩, hx⟩ : ∃ r, Wi.num t 0 0 = r := ⟨_, rfl⟩
  rw [hx] at i1 i2 w1
  simp only at i1 i2 w1
  obtain ⟨⟨n, a2, e2⟩, hy⟩ : ∃ r, Wi.num t a1 e1 = r := ⟨_, rfl⟩
  have z1 := Wi.num_zero t a1 e1
  rw [hy] at i2 w1 z1
  simp only at i2 w1 z1
  have err : ∀ (a : Int) (b : Int), snStP t a 10 0 = ([], a, 10) ∧ snStG t a 10 0 = ([], a, 10) ∧ Wi.num t a 10 = (0, a, 10) := fun a b => ⟨rfl, rfl, Wi.num_err _ _ _ (by decide)⟩
  unfold snDec
  by_cases e2z : e2 = 0
  · have hn : n = (s.ps.length : Int) := by
      rw [w1 e2z]
      have := List.getElem?_eq_some_iff.1 v1
      exact this.2
    subst hn
    have i3 := snStP_inv hcc hok i2 s.ps.length (by omega)
    have i4 := Wi.inv_num hcc (by omega) hok i3
    have w2 := Wi.inv_val hcc (k := 2 + 2 * s.ps.length) (by omega) hok i3
    rw [ht] at i3 i4 w2
    obtain ⟨⟨l, a3, e3⟩, hp⟩ : ∃ r, snStP t a2 e2 s.ps.length = r := ⟨_, rfl⟩
    rw [hp] at i3 i4 w2
    simp only at i3 i4 w2
    obtain ⟨⟨m, a4, e4⟩, hz⟩ : ∃ r, Wi.num t a3 e3 = r := ⟨_, rfl⟩
    have z2 := Wi.num_zero t a3 e3
    rw [hz] at i4 w2 z2
    simp only at i4 w2 z2
    by_cases e4z : e4 = 0
    · have hm : m = (s.gs.length : Int) := by
        rw [w2 e4z]
        have := List.getElem?_eq_some_iff.1 v2
        exact this.2
      subst hm
      have i5 := snStG_inv hcc hok i4 s.gs.length (by omega)
      rw [ht] at i5
      obtain ⟨⟨g, a5, e5⟩, hq⟩ : ∃ r, snStG t a4 e4 s.gs.length = r := ⟨_, rfl⟩
      rw [hq] at i5
      simp only at i5
      have he5 : e5 = 10 := by
        rcases i5 with ⟨_, _, i5⟩ | ⟨i5, _⟩
        · exfalso
          rw [show 0 + 1 + 1 + 2 * s.ps.length + 1 + 4 * s.gs.length = xs.length by omega] at i5
          have : Wi.offN xs xs.length = (Wi.full xs []).size := by
            rw [Wi.full_size]
            unfold Wi.offN
            rw [List.take_length]
            simp [Wi.catT]
          omega
        · exact i5
      simp only [hx, hy, Int.toNat_natCast, hp, hz, hq]
      rw [if_neg (by omega), if_neg (by omega), if_pos (by omega), he5]
    · have he4 : e4 = 10 := by rcases i4 with ⟨i4, _⟩ | ⟨i4, _⟩; exact absurd i4 e4z; exact i4
      obtain rfl := z2 e4z
      subst he4
      simp only [hx, hy, Int.toNat_natCast, hp, hz]
      rw [if_neg (by omega), if_neg (by omega), if_pos (by simp [snStG])]
      rfl
  · have he2 : e2 = 10 := by rcases i2 with ⟨i2, _⟩ | ⟨i2, _⟩; exact absurd i2 e2z; exact i2
    obtain rfl := z1 e2z
    subst he2
    simp only [hx, hy]
    have e0 : (0 : Int).toNat = 0 := rfl
    rw [e0, if_neg (by omega)]
    simp only [snStP, (err a2 0).2.2]
    rw [e0, if_neg (by omega), if_pos (by simp [snStG])]
    rfl
theorem Sn.enc_nil (s : Sn) : s.enc = ⟨#[]⟩ ↔ s.may = false := by
  constructor
  · intro h
    cases hm : s.may with
    | false => rfl
    | true =>
      have := snDec_enc hm
      rw [h, Sn.nil_dec] at this
      simp at this
  · intro h
    unfold Sn.enc
    rw [h]; rfl
theorem Sn.enc_inj {a b : Sn} (ha : a.may = true) (hb : b.may = true) (h : a.enc = b.enc) : a = b := by
  have h1 := snDec_enc ha
  rw [h, snDec_enc hb] at h1
  simpa using h1.symm

end Go.Proofs.Ythkogcgdikgkaaa
