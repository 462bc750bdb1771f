/-
  Batches as plain mathematics: their bytes, and what stands at a place.
-/
import Derived.Test.YtcdfpifhjjiioaaEf
set_option linter.unusedVariables false
set_option linter.unusedSimpArgs false
namespace Go.Proofs.Ytcdfpifhjjiioaa
open Go.RowKit

structure Bt where
  gen : Int
  stream : Int
  base : Int
  body : ByteArray
def Bt.zero : Bt := ⟨0, 0, 0, ⟨#[]⟩⟩
def Bt.may (b : Bt) : Bool := decide (0 < b.gen) && Ev.ok b.gen && Ev.ok b.stream && Ev.ok b.base && decide (b.body.size ≤ 65536)
def Bt.encL (b : Bt) : List UInt8 := 66 :: (Wi.cat [b.gen, b.stream, b.base] ++ (Va.put b.body.size ++ b.body.data.toList))
def Bt.enc (b : Bt) : ByteArray := if b.may then ⟨b.encL.toArray⟩ else ⟨#[]⟩
/-- What stands behind a batch's mark: three numbers and a text. -/
def Bt.decT (T : List UInt8) : Bt × Nat × Nat :=
  if (Ev.takes 3 T).2.2 = 0 then
    if (Ev.txt (T.drop (Ev.takes 3 T).2.1)).2.2 = 0 then (⟨(Ev.takes 3 T).1.getD 0 0, (Ev.takes 3 T).1.getD 1 0, (Ev.takes 3 T).1.getD 2 0, ⟨(Ev.txt (T.drop (Ev.takes 3 T).2.1)).1.toArray⟩⟩, (Ev.takes 3 T).2.1 + (Ev.txt (T.drop (Ev.takes 3 T).2.1)).2.1, 0)
    else (Bt.zero, 0, (Ev.txt (T.drop (Ev.takes 3 T).2.1)).2.2)
  else (Bt.zero, 0, (Ev.takes 3 T).2.2)
def Bt.dec : List UInt8 → Bt × Nat × Nat
  | [] => (Bt.zero, 0, 10)
  | c :: T => if c = 66 then if (Bt.decT T).2.2 = 0 then if (Bt.decT T).1.may then ((Bt.decT T).1, 1 + (Bt.decT T).2.1, 0) else (Bt.zero, 0, 50) else (Bt.zero, 0, (Bt.decT T).2.2) else (Bt.zero, 0, 50)
theorem Bt.may_parts {b : Bt} (h : b.may = true) : 0 < b.gen ∧ (∀ x ∈ [b.gen, b.stream, b.base], Ev.ok x = true) ∧ b.body.size ≤ 65536 := by
  unfold Bt.may at h
  simp at h
  obtain ⟨⟨⟨⟨h1, h2⟩, h3⟩, h4⟩, h5⟩ := h
  exact ⟨h1, by simp; exact ⟨h2, h3, h4⟩, h5⟩
theorem ByteArray.mk_toList (b : ByteArray) : (⟨b.data.toList.toArray⟩ : ByteArray) = b := by
  apply ByteArray.ext; simp
theorem Bt.decT_put {b : Bt} (h : b.may = true) (r : List UInt8) : Bt.decT (Wi.cat [b.gen, b.stream, b.base] ++ (Va.put b.body.size ++ (b.body.data.toList ++ r))) = (b, (Wi.cat [b.gen, b.stream, b.base]).length + ((Va.put b.body.size).length + b.body.size), 0) := by
  obtain ⟨h1, h2, h3⟩ := Bt.may_parts h
  have e1 := Ev.takes_cat [b.gen, b.stream, b.base] (Va.put b.body.size ++ (b.body.data.toList ++ r)) h2
  have e2 := Ev.txt_put b.body.data.toList r (by simp [Va.most]; omega)
  rw [show b.body.data.toList.length = b.body.size by simp] at e2
  unfold Bt.decT
  rw [show (3 : Nat) = [b.gen, b.stream, b.base].length from rfl, e1]
  simp only [if_true, List.drop_left]
  rw [e2]
  simp [ByteArray.mk_toList]
theorem Bt.dec_enc {b : Bt} (h : b.may = true) (r : List UInt8) : Bt.dec (b.encL ++ r) = (b, b.encL.length, 0) := by
  have e := Bt.decT_put h r
  unfold Bt.encL
  simp only [List.cons_append, Bt.dec, List.append_assoc]
  rw [if_pos trivial, e]
  simp only [if_true, h]
  simp
  omega
theorem Bt.decT_ok {T : List UInt8} {b : Bt} {c : Nat} (h : Bt.decT T = (b, c, 0)) : (∀ x ∈ [b.gen, b.stream, b.base], Ev.ok x = true) ∧ b.body.size < Va.most ∧ c = (Wi.cat [b.gen, b.stream, b.base]).length + ((Va.put b.body.size).length + b.body.size) ∧ ∃ r, T = Wi.cat [b.gen, b.stream, b.base] ++ (Va.put b.body.size ++ (b.body.data.toList ++ r)) := by
  unfold Bt.decT at h
  rcases ht : Ev.takes 3 T with ⟨l, k, e⟩
  rw [ht] at h
  simp only at h
  by_cases he : e = 0
  · subst he
    rw [if_pos rfl] at h
    obtain ⟨hl, hok, r, hT, hk⟩ := Ev.takes_ok 3 T l k ht
    have hd : T.drop k = r := by rw [hT, hk, List.drop_left]
    rw [hd] at h
    rcases hx : Ev.txt r with ⟨t, k2, e2⟩
    rw [hx] at h
    simp only at h
    by_cases he2 : e2 = 0
    · subst he2
      rw [if_pos rfl] at h
      simp only [Prod.mk.injEq, and_true] at h
      obtain ⟨rfl, rfl⟩ := h
      obtain ⟨htm, r2, hr, hk2⟩ := Ev.txt_ok hx
      match l, hl with
      | [x, y, z], _ =>
        have hz : (⟨t.toArray⟩ : ByteArray).size = t.length := size_mk t
        refine ⟨by simpa using hok, by rw [hz]; exact htm, ?_, r2, ?_⟩
        · rw [hz, hk, hk2]; rfl
        · rw [hz, hT, hr]; rfl
    · rw [if_neg he2] at h
      simp only [Prod.mk.injEq] at h
      exact absurd h.2.2 he2
  · rw [if_neg he] at h
    simp only [Prod.mk.injEq] at h
    exact absurd h.2.2 he
theorem Bt.dec_ok {L : List UInt8} {b : Bt} {c : Nat} (h : Bt.dec L = (b, c, 0)) : b.may = true ∧ c = b.encL.length ∧ ∃ r, L = b.encL ++ r := by
  cases L with
  | nil => simp [Bt.dec] at h
  | cons x T =>
    simp only [Bt.dec] at h
    by_cases hx : x = 66
    · rw [if_pos hx] at h
      rcases ht : Bt.decT T with ⟨b', c', e'⟩
      rw [ht] at h
      simp only at h
      by_cases he : e' = 0
      · subst he
        rw [if_pos rfl] at h
        by_cases hm : b'.may = true
        · rw [if_pos hm] at h
          simp only [Prod.mk.injEq, and_true] at h
          obtain ⟨rfl, rfl⟩ := h
          obtain ⟨_, _, hc, r, hT⟩ := Bt.decT_ok ht
          refine ⟨hm, ?_, r, ?_⟩
          · rw [hc]; unfold Bt.encL; simp; omega
          · rw [hx, hT]; unfold Bt.encL; simp
        · rw [if_neg hm] at h; simp at h
      · rw [if_neg he] at h
        simp only [Prod.mk.injEq] at h
        exact absurd h.2.2 he
    · rw [if_neg hx] at h; simp at h
theorem Bt.dec_zero {L : List UInt8} (h : (Bt.dec L).2.2 ≠ 0) : Bt.dec L = (Bt.zero, 0, (Bt.dec L).2.2) := by
  cases L with
  | nil => rfl
  | cons x T =>
    simp only [Bt.dec] at h ⊢
    by_cases hx : x = 66
    · rw [if_pos hx] at h ⊢
      by_cases he : (Bt.decT T).2.2 = 0
      · rw [if_pos he] at h ⊢
        by_cases hm : (Bt.decT T).1.may = true
        · rw [if_pos hm] at h; exact absurd rfl h
        · rw [if_neg hm]
      · rw [if_neg he]
    · rw [if_neg hx]
theorem Bt.takes_short : ∀ (l : List Int) (k : Nat), (∀ x ∈ l, Ev.ok x = true) → k < (Wi.cat l).length → (Ev.takes l.length ((Wi.cat l).take k)).2.2 = 10 := fun l k h hk => by rw [Ev.takes_cut l k h hk]
theorem Bt.dec_cut {b : Bt} (h : b.may = true) {k : Nat} (hk : k < b.encL.length) : Bt.dec (b.encL.take k) = (Bt.zero, 0, 10) := by
  obtain ⟨h1, h2, h3⟩ := Bt.may_parts h
  cases k with
  | zero => rfl
  | succ k =>
    unfold Bt.encL at hk ⊢
    simp only [List.take_succ_cons, Bt.dec]
    rw [if_pos trivial]
    have hc : Bt.decT ((Wi.cat [b.gen, b.stream, b.base] ++ (Va.put b.body.size ++ b.body.data.toList)).take k) = (Bt.zero, 0, 10) := by
      unfold Bt.decT
      by_cases hk1 : k < (Wi.cat [b.gen, b.stream, b.base]).length
      · rw [List.take_append_of_le_length (by omega)]
        have := Ev.takes_cut [b.gen, b.stream, b.base] k h2 hk1
        rw [show ([b.gen, b.stream, b.base] : List Int).length = 3 from rfl] at this
        rw [this]
        rfl
      · have e1 := Ev.takes_cat [b.gen, b.stream, b.base] ((Va.put b.body.size ++ b.body.data.toList).take (k - (Wi.cat [b.gen, b.stream, b.base]).length)) h2
        rw [show ([b.gen, b.stream, b.base] : List Int).length = 3 from rfl] at e1
        rw [List.take_append, List.take_of_length_le (by omega : (Wi.cat [b.gen, b.stream, b.base]).length ≤ k), e1]
        simp only [if_true, List.drop_left]
        have e2 := Ev.txt_cut b.body.data.toList (by simp [Va.most]; omega) (k - (Wi.cat [b.gen, b.stream, b.base]).length) (by simp at hk ⊢; omega)
        rw [show b.body.data.toList.length = b.body.size by simp] at e2
        rw [e2]
        rfl
    rw [hc]
    rfl
/-- What the reader reads behind a batch's mark. -/
theorem Bt.rd_dec (s : ByteArray) (a : Nat) (ha : a ≤ s.size) (g a1 e1 st a2 e2 ba a3 e3 : Int) (bo : ByteArray) (a4 e4 : Int) (h1 : Wi.num s a 0 = (g, a1, e1)) (h2 : Wi.num s a1 e1 = (st, a2, e2)) (h3 : Wi.num s a2 e2 = (ba, a3, e3)) (h4 : Wi.text s a3 e3 = (bo, a4, e4)) :
    ((Bt.decT (s.data.toList.drop a)).2.2 = 0 → e4 = 0 ∧ (Bt.decT (s.data.toList.drop a)).1 = ⟨g, st, ba, bo⟩ ∧ a4 = ((a + (Bt.decT (s.data.toList.drop a)).2.1 : Nat) : Int)) ∧ ((Bt.decT (s.data.toList.drop a)).2.2 ≠ 0 → e4 = ((Bt.decT (s.data.toList.drop a)).2.2 : Int)) := by
  have hsz : s.data.toList.length = s.size := by simp
  have hl : Wi.loop s a 0 3 = ([g, st, ba], a3, e3) := by simp [Wi.loop, h1, h2, h3]
  obtain ⟨i1, i2⟩ := Wi.loop_takes s 3 a ha
  rw [hl] at i1 i2
  unfold Bt.decT
  rcases ht : Ev.takes 3 (s.data.toList.drop a) with ⟨l, k, e⟩
  rw [ht] at i1 i2
  simp only at i1 i2 ⊢
  by_cases h0 : e = 0
  · subst h0
    have q := i1 rfl
    simp only [Prod.mk.injEq] at q
    obtain ⟨q1, q2, q3⟩ := q
    subst q1 q2 q3
    obtain ⟨_, _, r, hT, hk⟩ := Ev.takes_ok 3 _ _ k ht
    have hle : a + k ≤ s.size := by
      have := congrArg List.length hT
      rw [List.length_drop, List.length_append, hsz] at this
      omega
    rw [Wi.text_txt s (a + k) hle, ← List.drop_drop] at h4
    rw [if_pos rfl]
    rcases hx : Ev.txt ((s.data.toList.drop a).drop k) with ⟨t, k2, e2'⟩
    rw [hx] at h4
    simp only at h4 ⊢
    by_cases h5 : e2' = 0
    · rw [if_pos h5] at h4 ⊢
      simp only [Prod.mk.injEq] at h4
      obtain ⟨rfl, rfl, rfl⟩ := h4
      exact ⟨fun _ => ⟨rfl, rfl, by simp only; omega⟩, fun h => absurd rfl h⟩
    · rw [if_neg h5] at h4 ⊢
      simp only [Prod.mk.injEq] at h4
      obtain ⟨_, _, rfl⟩ := h4
      exact ⟨fun h => absurd h h5, fun _ => rfl⟩
  · rw [if_neg h0]
    refine ⟨fun h => absurd h h0, fun _ => ?_⟩
    have q := i2 h0
    subst q
    rw [Wi.text_err _ _ _ (by omega)] at h4
    simp only [Prod.mk.injEq] at h4
    exact h4.2.2.symm
theorem Bt.decT_size {T : List UInt8} (h : (Bt.decT T).2.2 = 0) : (Bt.decT T).2.1 ≤ T.length := by
  rcases ht : Bt.decT T with ⟨b, k, x⟩
  rw [ht] at h
  simp only at h
  subst h
  obtain ⟨_, _, h1, r, h2⟩ := Bt.decT_ok ht
  rw [h2]; simp; omega
theorem Bt.dec_size {L : List UInt8} (h : (Bt.dec L).2.2 = 0) : (Bt.dec L).2.1 ≤ L.length := by
  rcases ht : Bt.dec L with ⟨b, k, x⟩
  rw [ht] at h
  simp only at h
  subst h
  obtain ⟨_, h1, r, h2⟩ := Bt.dec_ok ht
  rw [h2, List.length_append]; simp only; omega
/-- What Decode answers at a place: the batch, the place behind, the error. -/
def Bt.decP (s : ByteArray) (a : Int) : Bt × Int × Int :=
  if a < 0 ∨ (s.size : Int) < a then (Bt.zero, 0, 1)
  else ((Bt.dec (s.data.toList.drop a.toNat)).1, if (Bt.dec (s.data.toList.drop a.toNat)).2.2 = 0 then a + ((Bt.dec (s.data.toList.drop a.toNat)).2.1 : Int) else 0, ((Bt.dec (s.data.toList.drop a.toNat)).2.2 : Int))
theorem Bt.decP_nat (s : ByteArray) (a : Nat) (h : a ≤ s.size) : Bt.decP s a = ((Bt.dec (s.data.toList.drop a)).1, if (Bt.dec (s.data.toList.drop a)).2.2 = 0 then (a : Int) + ((Bt.dec (s.data.toList.drop a)).2.1 : Int) else 0, ((Bt.dec (s.data.toList.drop a)).2.2 : Int)) := by
  unfold Bt.decP
  rw [if_neg (by omega), Int.toNat_natCast]
theorem Bt.decP_err (s : ByteArray) (a : Nat) (h : a ≤ s.size) (he : (Bt.dec (s.data.toList.drop a)).2.2 ≠ 0) : Bt.decP s a = (Bt.zero, 0, ((Bt.dec (s.data.toList.drop a)).2.2 : Int)) := by
  rw [Bt.decP_nat s a h, if_neg he, Bt.dec_zero he]
theorem Bt.enc_data {b : Bt} (h : b.may = true) : b.enc.data.toList = b.encL := by unfold Bt.enc; rw [if_pos h]
theorem Bt.enc_size {b : Bt} (h : b.may = true) : b.enc.size = b.encL.length := by unfold Bt.enc; rw [if_pos h]; exact size_mk _
theorem Bt.enc_no {b : Bt} (h : b.may = false) : b.enc = ⟨#[]⟩ := by unfold Bt.enc; rw [h]; rfl

end Go.Proofs.Ytcdfpifhjjiioaa
