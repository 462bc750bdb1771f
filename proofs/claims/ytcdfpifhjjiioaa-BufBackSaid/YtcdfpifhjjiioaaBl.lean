/-
  What is read out of a body: of events one behind the other; by another base.
-/
import Derived.Test.YtcdfpifhjjiioaaBi
set_option linter.unusedVariables false
set_option linter.unusedSimpArgs false
namespace Go.Proofs.Ytcdfpifhjjiioaa
open Go.RowKit

def Bt.sum (l : List Ev) : Int := (l.map Ev.dt).sum
theorem Bt.sum_cons (e : Ev) (l : List Ev) : Bt.sum (e :: l) = e.dt + Bt.sum l := by simp [Bt.sum]
/-- The times of events, from a time on. -/
def Bt.scan : Int → List Ev → List Int
  | _, [] => []
  | now, e :: l => (now + e.dt) :: Bt.scan (now + e.dt) l
theorem Bt.scan_len : ∀ (now : Int) (l : List Ev), (Bt.scan now l).length = l.length
  | _, [] => rfl
  | now, e :: l => by simp [Bt.scan, Bt.scan_len (now + e.dt) l]
theorem Bt.comb_err (l : List Ev) (ts : List Int) (p c : Nat) (h : c ≠ 0) : Bt.comb l ts ([], [], p, c) = ([], [], p, c) := by unfold Bt.comb; rw [if_neg h]
/-- Events that may be, one behind the other: read as they are, or too late. -/
theorem Bt.run_list (s : ByteArray) : ∀ (l : List Ev) (f : Nat) (now : Int) (a : Nat) (R : List UInt8), (∀ e ∈ l, e.may = true ∧ e.text.size < Va.most) → s.data.toList.drop a = Ev.catL l ++ R →
    (Bt.run s (l.length + f) now a = Bt.comb l (Bt.scan now l) (Bt.run s f (now + Bt.sum l) (a + (Ev.catL l).length)) ∨ ((∃ p, Bt.run s (l.length + f) now a = ([], [], p, 11)) ∧ ¬ (0 ≤ now ∧ now + Bt.sum l < 4611686018427387904)))
  | [], f, now, a, R, _, _ => by
    left
    have e1 : Ev.catL [] = [] := rfl
    rw [e1]
    simp only [List.length_nil, Nat.zero_add, Nat.add_zero, Bt.scan, Bt.sum, List.map_nil, List.sum_nil, Int.add_zero]
    rw [Bt.run_shape]
  | e :: l, f, now, a, R, h, hd => by
    obtain ⟨hm, ht⟩ := h e (by simp)
    have hdt := Ev.ok_wi.1 (Ev.may_dt hm)
    unfold Wi.ok at hdt
    have hl : ∀ x ∈ l, e.may = true → x.may = true ∧ x.text.size < Va.most := fun x hx _ => h x (by simp [hx])
    have hs0 : 0 ≤ Bt.sum l := by
      have : ∀ (m : List Ev), (∀ x ∈ m, x.may = true) → 0 ≤ Bt.sum m := by
        intro m
        induction m with
        | nil => intro _; simp [Bt.sum]
        | cons y m ih =>
          intro hy
          have h1 := Ev.ok_wi.1 (Ev.may_dt (hy y (by simp)))
          unfold Wi.ok at h1
          have h2 := ih fun x hx => hy x (by simp [hx])
          rw [Bt.sum_cons]; omega
      exact this l fun x hx => (h x (by simp [hx])).1
    have e1 : Ev.catL (e :: l) = e.encL ++ Ev.catL l := by simp [Ev.catL]
    rw [e1, List.append_assoc] at hd
    have hdec := Ev.dec_enc hm ht (Ev.catL l ++ R)
    have hk0 : 0 < e.encL.length := by unfold Ev.encL; simp
    have hlt : a < s.size := by
      have := congrArg List.length hd
      have hsz : s.data.toList.length = s.size := by simp
      rw [List.length_drop, List.length_append, hsz] at this
      omega
    have hd2 : s.data.toList.drop (a + e.encL.length) = Ev.catL l ++ R := by rw [← List.drop_drop, hd, List.drop_left]
    have hrun : Bt.run s ((e :: l).length + f) now a = if Ev.ok (now + e.dt) then Bt.comb [e] [now + e.dt] (Bt.run s (l.length + f) (now + e.dt) (a + e.encL.length)) else ([], [], a, 11) := by
      rw [show (e :: l).length + f = (l.length + f) + 1 by simp; omega]
      conv => lhs; unfold Bt.run
      rw [if_neg (by omega), hd, hdec]
      simp only [if_true]
    rw [hrun, Bt.sum_cons]
    cases ho : Ev.ok (now + e.dt) with
    | false =>
      right
      refine ⟨⟨a, by simp⟩, ?_⟩
      intro hc
      have : Ev.ok (now + e.dt) = true := Ev.ok_wi.2 (by unfold Wi.ok; omega)
      rw [this] at ho; cases ho
    | true =>
      have hok := Ev.ok_wi.1 ho
      unfold Wi.ok at hok
      rw [if_pos rfl]
      rcases Bt.run_list s l f (now + e.dt) (a + e.encL.length) R (fun x hx => h x (by simp [hx])) hd2 with h1 | ⟨⟨p, h1⟩, h2⟩
      · left
        rw [h1, Bt.comb_comb, e1, List.length_append, show now + (e.dt + Bt.sum l) = now + e.dt + Bt.sum l by omega, show a + (e.encL.length + (Ev.catL l).length) = a + e.encL.length + (Ev.catL l).length by omega]
        rfl
      · right
        refine ⟨⟨p, by rw [h1, Bt.comb_err _ _ _ _ (by decide)]⟩, ?_⟩
        intro hc
        exact h2 ⟨by omega, by omega⟩
/-- What is read by another base. -/
theorem Bt.run_base (s : ByteArray) : ∀ (f : Nat) (now now' : Int) (a : Nat), (Bt.run s f now a).2.2.2 = 0 → 0 ≤ now' →
    (Bt.run s f now' a = ((Bt.run s f now a).1, (Bt.run s f now a).2.1.map (· + (now' - now)), 0, 0) ∨ ((∃ p, Bt.run s f now' a = ([], [], p, 11)) ∧ now < now'))
  | 0, _, _, _, _, _ => .inl rfl
  | f + 1, now, now', a, h, h0 => by
    unfold Bt.run at h ⊢
    by_cases h1 : s.size ≤ a
    · rw [if_pos h1]; left; rw [if_pos h1]; rfl
    · rw [if_neg h1] at h
      rw [if_neg h1, if_neg h1]
      by_cases h2 : (Ev.dec (s.data.toList.drop a)).2.2 = 0
      · rw [if_pos h2] at h
        rw [if_pos h2, if_pos h2]
        rcases hd : Ev.dec (s.data.toList.drop a) with ⟨e, k, c⟩
        rw [hd] at h h2
        simp only at h h2 ⊢
        subst h2
        have hdt := Ev.ok_wi.1 (Ev.may_dt (Ev.dec_ok hd).1)
        unfold Wi.ok at hdt
        by_cases h3 : Ev.ok (now + e.dt) = true
        · rw [if_pos h3] at h
          rw [if_pos h3]
          have hr : (Bt.run s f (now + e.dt) (a + k)).2.2.2 = 0 := by
            unfold Bt.comb at h
            by_cases hz : (Bt.run s f (now + e.dt) (a + k)).2.2.2 = 0
            · exact hz
            · rw [if_neg hz] at h; exact h
          by_cases h4 : Ev.ok (now' + e.dt) = true
          · rw [if_pos h4]
            rcases Bt.run_base s f (now + e.dt) (now' + e.dt) (a + k) hr (by omega) with h5 | ⟨⟨p, h5⟩, h6⟩
            · left
              rw [h5]
              unfold Bt.comb
              rw [if_pos rfl, if_pos hr, show now' + e.dt - (now + e.dt) = now' - now by omega]
              simp
              omega
            · right
              exact ⟨⟨p, by rw [h5, Bt.comb_err _ _ _ _ (by decide)]⟩, by omega⟩
          · right
            rw [if_neg h4]
            refine ⟨⟨a, rfl⟩, ?_⟩
            have h5 := Ev.ok_wi.1 h3
            unfold Wi.ok at h5
            have h6 : ¬ Wi.ok (now' + e.dt) := fun hw => h4 (Ev.ok_wi.2 hw)
            unfold Wi.ok at h6
            omega
        · rw [if_neg h3] at h; cases h
      · rw [if_neg h2] at h; exact absurd h h2
theorem Bt.events_base {g st ba : Int} {bo : ByteArray} {l : List Ev} {ts : List Int} {p : Nat} (h : Bt.events ⟨g, st, ba, bo⟩ = (l, ts, p, 0)) {ba' : Int} (hm : Bt.may ⟨g, st, ba', bo⟩ = true) :
    Bt.events ⟨g, st, ba', bo⟩ = (l, ts.map (· + (ba' - ba)), 0, 0) ∨ ((∃ p, Bt.events ⟨g, st, ba', bo⟩ = ([], [], p, 11)) ∧ ba < ba') := by
  unfold Bt.events at h ⊢
  rw [if_pos hm]
  by_cases hb : Bt.may ⟨g, st, ba, bo⟩ = true
  · rw [if_pos hb] at h
    simp only at h ⊢
    have hok := Ev.ok_wi.1 ((Bt.may_parts hm).2.1 ba' (by simp))
    unfold Wi.ok at hok
    have := Bt.run_base bo (bo.size + 1) ba ba' 0 (by rw [h]) hok.1
    rw [h] at this
    exact this
  · rw [if_neg hb] at h
    simp at h
theorem Bt.run_times (s : ByteArray) : ∀ f now a, (Bt.run s f now a).2.2.2 = 0 → (Bt.run s f now a).2.1 = Bt.scan now (Bt.run s f now a).1 ∧ ∀ t ∈ (Bt.run s f now a).2.1, Ev.ok t = true
  | 0, _, _, _ => ⟨rfl, fun t ht => by simp [Bt.run] at ht⟩
  | f + 1, now, a, h => by
    unfold Bt.run at h ⊢
    by_cases h1 : s.size ≤ a
    · rw [if_pos h1]; exact ⟨rfl, fun t ht => by simp at ht⟩
    · rw [if_neg h1] at h ⊢
      by_cases h2 : (Ev.dec (s.data.toList.drop a)).2.2 = 0
      · rw [if_pos h2] at h ⊢
        by_cases h3 : Ev.ok (now + (Ev.dec (s.data.toList.drop a)).1.dt) = true
        · rw [if_pos h3] at h ⊢
          unfold Bt.comb at h ⊢
          by_cases hz : (Bt.run s f (now + (Ev.dec (s.data.toList.drop a)).1.dt) (a + (Ev.dec (s.data.toList.drop a)).2.1)).2.2.2 = 0
          · rw [if_pos hz]
            obtain ⟨i1, i2⟩ := Bt.run_times s f _ _ hz
            refine ⟨by simp only [List.cons_append, List.nil_append, Bt.scan]; rw [← i1], fun t ht => ?_⟩
            simp only [List.cons_append, List.nil_append, List.mem_cons] at ht
            rcases ht with rfl | ht
            · exact h3
            · exact i2 t ht
          · rw [if_neg hz] at h; exact absurd h hz
        · rw [if_neg h3] at h; simp at h
      · rw [if_neg h2] at h; exact absurd h h2

end Go.Proofs.Ytcdfpifhjjiioaa
