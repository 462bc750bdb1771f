/-
  Events as plain data: which may be, their bytes, what any bytes are as an event; and the laws between the two.
-/
import Derived.Test.YtcdfpifhjjiioaaKa
set_option linter.unusedVariables false
set_option linter.unusedSimpArgs false
namespace Go.Proofs.Ytcdfpifhjjiioaa
open Go.RowKit

structure Ev where
  kind : Int
  dt : Int
  args : List Int
  text : ByteArray
def Ev.zero : Ev := ⟨0, 0, [], ⟨#[]⟩⟩
def Ev.ok (x : Int) : Bool := decide (0 ≤ x ∧ x < 4611686018427387904)
theorem Ev.ok_wi {x : Int} : Ev.ok x = true ↔ Wi.ok x := by unfold Ev.ok Wi.ok; simp
theorem Ev.ok_most {x : Int} (h : Ev.ok x = true) : x.toNat < Va.most := by have := Ev.ok_wi.1 h; unfold Wi.ok at this; unfold Va.most; omega
theorem Ev.ok_cast {x : Int} (h : Ev.ok x = true) : ((x.toNat : Nat) : Int) = x := by have := Ev.ok_wi.1 h; unfold Wi.ok at this; omega
theorem Ev.ok_nat {n : Nat} (h : n < Va.most) : Ev.ok (n : Int) = true := Ev.ok_wi.2 (by unfold Wi.ok; unfold Va.most at h; omega)
def Ev.may (e : Ev) : Bool := Ev.ok e.dt && (if Ki.exp e.kind then e.args.length == 0 else Ki.known e.kind && e.args.length == (Ki.args e.kind).length && e.args.all Ev.ok && e.text.size == 0)
def Ev.tailL (e : Ev) : List UInt8 := if Ki.exp e.kind then Va.put e.text.size ++ e.text.data.toList else Wi.cat e.args
def Ev.encL (e : Ev) : List UInt8 := UInt8.ofNat e.kind.toNat :: (Va.put e.dt.toNat ++ e.tailL)
theorem size_mk (l : List UInt8) : (⟨l.toArray⟩ : ByteArray).size = l.length := by simp [ByteArray.size]
def Ev.enc (e : Ev) : ByteArray := if e.may then ⟨e.encL.toArray⟩ else ⟨#[]⟩

/-- So many numbers: which, how many bytes, what is wrong. -/
def Ev.takes : Nat → List UInt8 → List Int × Nat × Nat
  | 0, _ => ([], 0, 0)
  | n + 1, L =>
    if (Va.take L).2.2 = 0 then
      if (Ev.takes n (L.drop (Va.take L).2.1)).2.2 = 0 then (((Va.take L).1 : Int) :: (Ev.takes n (L.drop (Va.take L).2.1)).1, (Va.take L).2.1 + (Ev.takes n (L.drop (Va.take L).2.1)).2.1, 0)
      else ([], 0, (Ev.takes n (L.drop (Va.take L).2.1)).2.2)
    else ([], 0, (Va.take L).2.2)
/-- A text behind its length. -/
def Ev.txt (L : List UInt8) : List UInt8 × Nat × Nat :=
  if (Va.take L).2.2 = 0 then
    if (L.drop (Va.take L).2.1).length < (Va.take L).1 then ([], 0, 10) else ((L.drop (Va.take L).2.1).take (Va.take L).1, (Va.take L).2.1 + (Va.take L).1, 0)
  else ([], 0, (Va.take L).2.2)
/-- What stands behind a kind. -/
def Ev.decT (k : Int) (L : List UInt8) : Ev × Nat × Nat :=
  if (Va.take L).2.2 = 0 then
    if Ki.exp k then
      if (Ev.txt (L.drop (Va.take L).2.1)).2.2 = 0 then (⟨k, (Va.take L).1, [], ⟨(Ev.txt (L.drop (Va.take L).2.1)).1.toArray⟩⟩, 1 + (Va.take L).2.1 + (Ev.txt (L.drop (Va.take L).2.1)).2.1, 0)
      else (Ev.zero, 0, (Ev.txt (L.drop (Va.take L).2.1)).2.2)
    else
      if (Ev.takes (Ki.args k).length (L.drop (Va.take L).2.1)).2.2 = 0 then (⟨k, (Va.take L).1, (Ev.takes (Ki.args k).length (L.drop (Va.take L).2.1)).1, ⟨#[]⟩⟩, 1 + (Va.take L).2.1 + (Ev.takes (Ki.args k).length (L.drop (Va.take L).2.1)).2.1, 0)
      else (Ev.zero, 0, (Ev.takes (Ki.args k).length (L.drop (Va.take L).2.1)).2.2)
  else (Ev.zero, 0, (Va.take L).2.2)
def Ev.dec : List UInt8 → Ev × Nat × Nat
  | [] => (Ev.zero, 0, 10)
  | c :: L => if Ki.known c.toNat || Ki.exp c.toNat then Ev.decT c.toNat L else (Ev.zero, 0, 30)

theorem Ev.takes_cat : ∀ (l : List Int) (r : List UInt8), (∀ x ∈ l, Ev.ok x = true) → Ev.takes l.length (Wi.cat l ++ r) = (l, (Wi.cat l).length, 0)
  | [], r, _ => rfl
  | x :: l, r, h => by
    have hx := h x (by simp)
    have ih := Ev.takes_cat l r (fun y hy => h y (by simp [hy]))
    have e : Wi.cat (x :: l) ++ r = Va.put x.toNat ++ (Wi.cat l ++ r) := by simp [Wi.cat]
    have e2 : (Wi.cat (x :: l)).length = (Va.put x.toNat).length + (Wi.cat l).length := by simp [Wi.cat]
    rw [e, e2]
    simp only [List.length_cons, Ev.takes]
    rw [Va.take_put _ _ (Ev.ok_most hx)]
    simp only [if_true, List.drop_left]
    rw [ih]
    simp [Ev.ok_cast hx]
theorem Ev.takes_ok : ∀ (n : Nat) (L : List UInt8) (l : List Int) (c : Nat), Ev.takes n L = (l, c, 0) → l.length = n ∧ (∀ x ∈ l, Ev.ok x = true) ∧ ∃ r, L = Wi.cat l ++ r ∧ c = (Wi.cat l).length
  | 0, L, l, c, h => by
    simp only [Ev.takes, Prod.mk.injEq] at h
    obtain ⟨rfl, rfl, _⟩ := h
    exact ⟨rfl, by simp, L, by simp [Wi.cat], by simp [Wi.cat]⟩
  | n + 1, L, l, c, h => by
    simp only [Ev.takes] at h
    rcases ht : Va.take L with ⟨a, k, e⟩
    rw [ht] at h
    simp only at h
    by_cases he : e = 0
    · subst he
      rw [if_pos rfl] at h
      obtain ⟨r, hL, hk, ha⟩ := Va.take_ok ht
      rcases hn : Ev.takes n (L.drop k) with ⟨l', c', e'⟩
      rw [hn] at h
      simp only at h
      by_cases he' : e' = 0
      · subst he'
        rw [if_pos rfl] at h
        simp only [Prod.mk.injEq] at h
        obtain ⟨rfl, rfl, _⟩ := h
        obtain ⟨h1, h2, r', h3, h4⟩ := Ev.takes_ok n _ _ _ hn
        refine ⟨by simp [h1], ?_, r', ?_, ?_⟩
        · intro x hx
          rcases List.mem_cons.1 hx with rfl | hx
          · exact Ev.ok_nat ha
          · exact h2 x hx
        · rw [hL, hk] at h3
          rw [List.drop_left] at h3
          rw [hL, h3]
          simp [Wi.cat]
        · simp [Wi.cat, hk]
          rw [h4]; simp [Wi.cat]
      · rw [if_neg he'] at h
        simp only [Prod.mk.injEq] at h
        exact absurd h.2.2 he'
    · rw [if_neg he] at h
      simp only [Prod.mk.injEq] at h
      exact absurd h.2.2 he
theorem Ev.takes_zero : ∀ (n : Nat) (L : List UInt8), (Ev.takes n L).2.2 ≠ 0 → Ev.takes n L = ([], 0, (Ev.takes n L).2.2)
  | 0, _, h => absurd rfl h
  | n + 1, L, h => by
    simp only [Ev.takes] at *
    split
    · split
      · rename_i h1 h2; rw [if_pos h1, if_pos h2] at h; exact absurd rfl h
      · rfl
    · rfl
theorem Va.take_zero {L : List UInt8} (h : (Va.take L).2.2 ≠ 0) : Va.take L = (0, 0, (Va.take L).2.2) := by
  rcases ht : Va.take L with ⟨a, k, e⟩
  rcases Va.tk_none 9 0 0 a k e _ ht with rfl | ⟨rfl, rfl, rfl⟩ | ⟨rfl, rfl, rfl⟩
  · rw [ht] at h; exact absurd rfl h
  · rfl
  · rfl
theorem Va.take_codes (L : List UInt8) : (Va.take L).2.2 = 0 ∨ (Va.take L).2.2 = 10 ∨ (Va.take L).2.2 = 11 := by
  rcases ht : Va.take L with ⟨a, k, e⟩
  rcases Va.tk_none 9 0 0 a k e _ ht with rfl | ⟨rfl, rfl, rfl⟩ | ⟨rfl, rfl, rfl⟩ <;> simp
theorem Ev.takes_codes : ∀ (n : Nat) (L : List UInt8), (Ev.takes n L).2.2 = 0 ∨ (Ev.takes n L).2.2 = 10 ∨ (Ev.takes n L).2.2 = 11
  | 0, _ => .inl rfl
  | n + 1, L => by
    simp only [Ev.takes]
    split
    · split
      · exact .inl rfl
      · exact Ev.takes_codes n _
    · exact Va.take_codes L
theorem Ev.txt_codes (L : List UInt8) : (Ev.txt L).2.2 = 0 ∨ (Ev.txt L).2.2 = 10 ∨ (Ev.txt L).2.2 = 11 := by
  unfold Ev.txt
  split
  · split
    · exact .inr (.inl rfl)
    · exact .inl rfl
  · exact Va.take_codes L
theorem Ev.dec_codes (L : List UInt8) : (Ev.dec L).2.2 = 0 ∨ (Ev.dec L).2.2 = 10 ∨ (Ev.dec L).2.2 = 11 ∨ (Ev.dec L).2.2 = 30 := by
  cases L with
  | nil => exact .inr (.inl rfl)
  | cons c L =>
    simp only [Ev.dec]
    split
    · unfold Ev.decT
      split
      · split
        · split
          · exact .inl rfl
          · have := Ev.txt_codes (L.drop (Va.take L).2.1); simp only; omega
        · split
          · exact .inl rfl
          · have := Ev.takes_codes (Ki.args c.toNat).length (L.drop (Va.take L).2.1); simp only; omega
      · have := Va.take_codes L; simp only; omega
    · exact .inr (.inr (.inr rfl))

theorem Ev.txt_put (t r : List UInt8) (h : t.length < Va.most) : Ev.txt (Va.put t.length ++ (t ++ r)) = (t, (Va.put t.length).length + t.length, 0) := by
  unfold Ev.txt
  rw [Va.take_put _ _ h]
  simp
theorem Ev.txt_ok {L t : List UInt8} {c : Nat} (h : Ev.txt L = (t, c, 0)) : t.length < Va.most ∧ ∃ r, L = Va.put t.length ++ (t ++ r) ∧ c = (Va.put t.length).length + t.length := by
  unfold Ev.txt at h
  rcases ht : Va.take L with ⟨a, k, e⟩
  rw [ht] at h
  simp only at h
  by_cases he : e = 0
  · subst he
    rw [if_pos rfl] at h
    obtain ⟨r, hL, hk, ha⟩ := Va.take_ok ht
    have hd : L.drop k = r := by rw [hL, hk, List.drop_left]
    rw [hd] at h
    by_cases hl : r.length < a
    · rw [if_pos hl] at h; simp at h
    · rw [if_neg hl] at h
      simp only [Prod.mk.injEq] at h
      obtain ⟨rfl, rfl, _⟩ := h
      have hlen : (r.take a).length = a := by rw [List.length_take]; omega
      rw [hlen]
      exact ⟨ha, r.drop a, by rw [List.take_append_drop]; exact hL, by rw [hk]⟩
  · rw [if_neg he] at h
    simp only [Prod.mk.injEq] at h
    exact absurd h.2.2 he

theorem Ev.kind_byte {k : Int} (h : Ki.known k = true ∨ Ki.exp k = true) : ((UInt8.ofNat k.toNat).toNat : Int) = k := by
  have : 0 ≤ k ∧ k < 256 := by
    rcases h with h | h
    · unfold Ki.known at h; have := of_decide_eq_true h; omega
    · unfold Ki.exp at h; have := of_decide_eq_true h; omega
  rw [Va.u8n (by omega)]
  omega
theorem Ev.may_kind {e : Ev} (h : e.may = true) : Ki.known e.kind = true ∨ Ki.exp e.kind = true := by
  unfold Ev.may at h
  by_cases hx : Ki.exp e.kind = true
  · exact .inr hx
  · rw [if_neg hx] at h; simp at h; exact .inl h.2.1.1.1
theorem Ev.may_dt {e : Ev} (h : e.may = true) : Ev.ok e.dt = true := by unfold Ev.may at h; simp at h; exact h.1
theorem Ev.may_exp {e : Ev} (h : e.may = true) (hx : Ki.exp e.kind = true) : e.args = [] := by
  unfold Ev.may at h; rw [if_pos hx] at h; simp at h; exact h.2
theorem Ev.may_no {e : Ev} (h : e.may = true) (hx : ¬ Ki.exp e.kind = true) : Ki.known e.kind = true ∧ e.args.length = (Ki.args e.kind).length ∧ (∀ x ∈ e.args, Ev.ok x = true) ∧ e.text = ⟨#[]⟩ := by
  unfold Ev.may at h; rw [if_neg hx] at h; simp at h
  exact ⟨h.2.1.1.1, h.2.1.1.2, h.2.1.2, h.2.2.trans rfl⟩
/-- What was encoded is decoded, whatever stands behind. -/
theorem Ev.dec_enc {e : Ev} (h : e.may = true) (ht : e.text.size < Va.most) (r : List UInt8) : Ev.dec (e.encL ++ r) = (e, e.encL.length, 0) := by
  have hk := Ev.may_kind h
  have hd := Ev.may_dt h
  have hb := Ev.kind_byte hk
  unfold Ev.encL
  simp only [List.cons_append, Ev.dec]
  rw [hb, if_pos (by rcases hk with h | h <;> simp [h])]
  unfold Ev.decT
  rw [List.append_assoc, Va.take_put _ _ (Ev.ok_most hd)]
  simp only [if_true, List.drop_left]
  by_cases hx : Ki.exp e.kind = true
  · rw [if_pos hx]
    have ha := Ev.may_exp h hx
    unfold Ev.tailL
    rw [if_pos hx, List.append_assoc, show e.text.size = e.text.data.toList.length by simp, Ev.txt_put _ _ (by simpa using ht)]
    simp only [if_true]
    obtain ⟨k, d, a, t⟩ := e
    simp only at *
    subst ha
    rw [Ev.ok_cast hd]
    simp
    omega
  · rw [if_neg hx]
    obtain ⟨h1, h2, h3, h4⟩ := Ev.may_no h hx
    unfold Ev.tailL
    rw [if_neg hx, ← h2, Ev.takes_cat _ _ h3]
    simp only [if_true]
    obtain ⟨k, d, a, t⟩ := e
    simp only at *
    subst h4
    rw [Ev.ok_cast hd]
    simp
    omega
/-- What is decoded may be, and has just these bytes. -/
theorem Ev.dec_ok {L : List UInt8} {e : Ev} {c : Nat} (h : Ev.dec L = (e, c, 0)) : e.may = true ∧ e.text.size < Va.most ∧ c = e.encL.length ∧ ∃ r, L = e.encL ++ r := by
  cases L with
  | nil => simp [Ev.dec] at h
  | cons b L =>
    simp only [Ev.dec] at h
    by_cases hk : (Ki.known b.toNat || Ki.exp b.toNat) = true
    · rw [if_pos hk] at h
      unfold Ev.decT at h
      rcases ht : Va.take L with ⟨d, k, x⟩
      rw [ht] at h
      simp only at h
      by_cases hx : x = 0
      · subst hx
        rw [if_pos rfl] at h
        obtain ⟨r, hL, hkk, hd⟩ := Va.take_ok ht
        have hdr : L.drop k = r := by rw [hL, hkk, List.drop_left]
        rw [hdr] at h
        by_cases hex : Ki.exp b.toNat = true
        · rw [if_pos hex] at h
          rcases htx : Ev.txt r with ⟨t, c', x'⟩
          rw [htx] at h
          simp only at h
          by_cases hx' : x' = 0
          · subst hx'
            rw [if_pos rfl] at h
            simp only [Prod.mk.injEq] at h
            obtain ⟨rfl, rfl, _⟩ := h
            obtain ⟨h1, r', h2, h3⟩ := Ev.txt_ok htx
            refine ⟨?_, by rw [size_mk]; exact h1, ?_, r', ?_⟩
            · unfold Ev.may
              simp [hex, Ev.ok_nat hd]
            · unfold Ev.encL Ev.tailL
              simp [hex, hkk, h3, size_mk]
              omega
            · unfold Ev.encL Ev.tailL
              simp [hex, size_mk]
              rw [hL, h2]
          · rw [if_neg hx'] at h
            simp only [Prod.mk.injEq] at h
            exact absurd h.2.2 hx'
        · rw [if_neg hex] at h
          rcases htx : Ev.takes (Ki.args b.toNat).length r with ⟨t, c', x'⟩
          rw [htx] at h
          simp only at h
          by_cases hx' : x' = 0
          · subst hx'
            rw [if_pos rfl] at h
            simp only [Prod.mk.injEq] at h
            obtain ⟨rfl, rfl, _⟩ := h
            obtain ⟨h1, h2, r', h3, h4⟩ := Ev.takes_ok _ _ _ _ htx
            have hkn : Ki.known b.toNat = true := by simpa [hex] using hk
            refine ⟨?_, (show (0 : Nat) < Va.most by decide), ?_, r', ?_⟩
            · unfold Ev.may
              simp [hex, Ev.ok_nat hd, hkn, h1]
              exact ⟨h2, rfl⟩
            · unfold Ev.encL Ev.tailL
              simp [hex, hkk, h4]
              omega
            · unfold Ev.encL Ev.tailL
              simp [hex]
              rw [hL, h3]
          · rw [if_neg hx'] at h
            simp only [Prod.mk.injEq] at h
            exact absurd h.2.2 hx'
      · rw [if_neg hx] at h
        simp only [Prod.mk.injEq] at h
        exact absurd h.2.2 hx
    · rw [if_neg hk] at h
      simp at h

theorem Ev.cut_take {n : Nat} (h : n < Va.most) (r : List UInt8) {k : Nat} (hk : k < (Va.put n).length) : Va.take ((Va.put n ++ r).take k) = (0, 0, 10) := by
  rw [List.take_append_of_le_length (by omega)]
  exact Va.take_cut h hk
theorem Ev.takes_cut : ∀ (l : List Int) (k : Nat), (∀ x ∈ l, Ev.ok x = true) → k < (Wi.cat l).length → Ev.takes l.length ((Wi.cat l).take k) = ([], 0, 10)
  | [], k, _, hk => by simp [Wi.cat] at hk
  | x :: l, k, h, hk => by
    have hx := h x (by simp)
    have e : Wi.cat (x :: l) = Va.put x.toNat ++ Wi.cat l := by simp [Wi.cat]
    rw [e] at hk ⊢
    simp only [List.length_cons, Ev.takes]
    by_cases hl : k < (Va.put x.toNat).length
    · rw [Ev.cut_take (Ev.ok_most hx) _ hl]
      simp
    · have e2 : (Va.put x.toNat ++ Wi.cat l).take k = Va.put x.toNat ++ (Wi.cat l).take (k - (Va.put x.toNat).length) := by
        rw [List.take_append, List.take_of_length_le (by omega)]
      rw [List.length_append] at hk
      rw [e2, Va.take_put _ _ (Ev.ok_most hx)]
      simp only [if_true, List.drop_left]
      rw [Ev.takes_cut l _ (fun y hy => h y (by simp [hy])) (by omega)]
      simp
theorem Ev.txt_cut (t : List UInt8) (h : t.length < Va.most) (k : Nat) (hk : k < (Va.put t.length).length + t.length) : Ev.txt ((Va.put t.length ++ t).take k) = ([], 0, 10) := by
  unfold Ev.txt
  by_cases hl : k < (Va.put t.length).length
  · rw [Ev.cut_take h _ hl]
    simp
  · have e2 : (Va.put t.length ++ t).take k = Va.put t.length ++ t.take (k - (Va.put t.length).length) := by
      rw [List.take_append, List.take_of_length_le (by omega)]
    rw [e2, Va.take_put _ _ h]
    simp only [if_true, List.drop_left]
    rw [if_pos (by rw [List.length_take]; omega)]
/-- Cut off anywhere it is too short. -/
theorem Ev.dec_cut {e : Ev} (h : e.may = true) (ht : e.text.size < Va.most) {k : Nat} (hk : k < e.encL.length) : Ev.dec (e.encL.take k) = (Ev.zero, 0, 10) := by
  have hkn := Ev.may_kind h
  have hd := Ev.may_dt h
  have hb := Ev.kind_byte hkn
  unfold Ev.encL at hk ⊢
  cases k with
  | zero => rfl
  | succ k =>
    rw [List.take_succ_cons]
    simp only [Ev.dec]
    rw [hb, if_pos (by rcases hkn with h | h <;> simp [h])]
    unfold Ev.decT
    rw [List.length_cons, List.length_append] at hk
    by_cases hl : k < (Va.put e.dt.toNat).length
    · rw [Ev.cut_take (Ev.ok_most hd) _ hl]
      simp
    · have e2 : (Va.put e.dt.toNat ++ e.tailL).take k = Va.put e.dt.toNat ++ e.tailL.take (k - (Va.put e.dt.toNat).length) := by
        rw [List.take_append, List.take_of_length_le (by omega)]
      rw [e2, Va.take_put _ _ (Ev.ok_most hd)]
      simp only [if_true, List.drop_left]
      by_cases hx : Ki.exp e.kind = true
      · rw [if_pos hx]
        rw [show e.tailL = Va.put e.text.size ++ e.text.data.toList by unfold Ev.tailL; rw [if_pos hx]] at hk ⊢
        rw [List.length_append] at hk
        have hz : e.text.size = e.text.data.toList.length := by simp
        rw [hz] at ht hk ⊢
        rw [Ev.txt_cut _ ht _ (by omega)]
        simp
      · rw [if_neg hx]
        obtain ⟨h1, h2, h3, h4⟩ := Ev.may_no h hx
        rw [show e.tailL = Wi.cat e.args by unfold Ev.tailL; rw [if_neg hx]] at hk ⊢
        rw [← h2, Ev.takes_cut _ _ h3 (by omega)]
        simp
theorem Ev.dec_zero {L : List UInt8} (h : (Ev.dec L).2.2 ≠ 0) : Ev.dec L = (Ev.zero, 0, (Ev.dec L).2.2) := by
  cases L with
  | nil => rfl
  | cons b L =>
    simp only [Ev.dec] at *
    split
    · rename_i hk
      rw [if_pos hk] at h
      unfold Ev.decT at *
      split
      · rename_i h1
        rw [if_pos h1] at h
        split
        · rename_i h2
          rw [if_pos h2] at h
          split
          · rename_i h3
            rw [if_pos h3] at h
            exact absurd rfl h
          · rfl
        · rename_i h2
          rw [if_neg h2] at h
          split
          · rename_i h3
            rw [if_pos h3] at h
            exact absurd rfl h
          · rfl
      · rfl
    · rfl

end Go.Proofs.Ytcdfpifhjjiioaa
