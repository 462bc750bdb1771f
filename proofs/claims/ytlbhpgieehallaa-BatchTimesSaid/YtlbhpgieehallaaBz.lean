/-
  The walk of the statement BatchTimes, with all that it stands on: Bl, Bn, Bo, Bp, Br in one text (a claim has at most 60 files).
-/
import Derived.Test.YtlbhpgieehallaaBi
import Derived.Test.YtlbhpgieehallaaLe
import Derived.Test.YtlbhpgieehallaaBk
import Derived.Deep.AppendLies
import Derived.Deep.Upon
set_option linter.unusedVariables false
set_option linter.unusedSimpArgs false
namespace Go.Proofs.Ytlbhpgieehallaa
open Go.RowKit

def Bt.sum (l : List Ev) : Int := (l.map Ev.dt).sum
theorem Bt.sum_cons (e : Ev) (l : List Ev) : Bt.sum (e :: l) = e.dt + Bt.sum l := by simp [Bt.sum]
/-- The times of events, from a time on. -/
def Bt.scan : Int → List Ev → List Int
  | _, [] => []
  | now, e :: l => (now + e.dt) :: Bt.scan (now + e.dt) l
theorem Bt.scan_len : ∀ (now : Int) (l : List Ev), (Bt.scan now l).length = l.length
  | _, [] => rfl
  | now, e :: l => by simp [Bt.scan, Bt.scan_len (now + e.dt) l]
theorem Bt.comb_err (l : List Ev) (ts : List Int) (p c : Nat) (h : c ≠ 0) : Bt.comb l ts ([], [], p, c) = ([], [], p, c) := by unfold Bt.comb; rw [if_neg h]
/-- Events that may be, one behind the other: read as they are, or too late. -/
theorem Bt.run_list (s : ByteArray) : ∀ (l : List Ev) (f : Nat) (now : Int) (a : Nat) (R : List UInt8), (∀ e ∈ l, e.may = true ∧ e.text.size < Va.most) → s.data.toList.drop a = Ev.catL l ++ R →
    (Bt.run s (l.length + f) now a = Bt.comb l (Bt.scan now l) (Bt.run s f (now + Bt.sum l) (a + (Ev.catL l).length)) ∨ ((∃ p, Bt.run s (l.length + f) now a = ([], [], p, 11)) ∧ ¬ (0 ≤ now ∧ now + Bt.sum l < 4611686018427387904)))
  | [], f, now, a, R, _, _ => by
    left
    have e1 : Ev.catL [] = [] := rfl
    rw [e1]
    simp only [List.length_nil, Nat.zero_add, Nat.add_zero, Bt.scan, Bt.sum, List.map_nil, List.sum_nil, Int.add_zero]
    rw [Bt.run_shape]
  | e :: l, f, now, a, R, h, hd => by
    obtain ⟨hm, ht⟩ := h e (by simp)
    have hdt := Ev.ok_wi.1 (Ev.may_dt hm)
    unfold Wi.ok at hdt
    have hl : ∀ x ∈ l, e.may = true → x.may = true ∧ x.text.size < Va.most := fun x hx _ => h x (by simp [hx])
    have hs0 : 0 ≤ Bt.sum l := by
      have : ∀ (m : List Ev), (∀ x ∈ m, x.may = true) → 0 ≤ Bt.sum m := by
        intro m
        induction m with
        | nil => intro _; simp [Bt.sum]
        | cons y m ih =>
          intro hy
          have h1 := Ev.ok_wi.1 (Ev.may_dt (hy y (by simp)))
          unfold Wi.ok at h1
          have h2 := ih fun x hx => hy x (by simp [hx])
          rw [Bt.sum_cons]; omega
      exact this l fun x hx => (h x (by simp [hx])).1
    have e1 : Ev.catL (e :: l) = e.encL ++ Ev.catL l := by simp [Ev.catL]
    rw [e1, List.append_assoc] at hd
    have hdec := Ev.dec_enc hm ht (Ev.catL l ++ R)
    have hk0 : 0 < e.encL.length := by unfold Ev.encL; simp
    have hlt : a < s.size := by
      have := congrArg List.length hd
      have hsz : s.data.toList.length = s.size := by simp
      rw [List.length_drop, List.length_append, hsz] at this
      omega
    have hd2 : s.data.toList.drop (a + e.encL.length) = Ev.catL l ++ R := by rw [← List.drop_drop, hd, List.drop_left]
    have hrun : Bt.run s ((e :: l).length + f) now a = if Ev.ok (now + e.dt) then Bt.comb [e] [now + e.dt] (Bt.run s (l.length + f) (now + e.dt) (a + e.encL.length)) else ([], [], a, 11) := by
      rw [show (e :: l).length + f = (l.length + f) + 1 by simp; omega]
      conv => lhs; unfold Bt.run
      rw [if_neg (by omega), hd, hdec]
      simp only [if_true]
    rw [hrun, Bt.sum_cons]
    cases ho : Ev.ok (now + e.dt) with
    | false =>
      right
      refine ⟨⟨a, by simp⟩, ?_⟩
      intro hc
      have : Ev.ok (now + e.dt) = true := Ev.ok_wi.2 (by unfold Wi.ok; omega)
      rw [this] at ho; cases ho
    | true =>
      have hok := Ev.ok_wi.1 ho
      unfold Wi.ok at hok
      rw [if_pos rfl]
      rcases Bt.run_list s l f (now + e.dt) (a + e.encL.length) R (fun x hx => h x (by simp [hx])) hd2 with h1 | ⟨⟨p, h1⟩, h2⟩
      · left
        rw [h1, Bt.comb_comb, e1, List.length_append, show now + (e.dt + Bt.sum l) = now + e.dt + Bt.sum l by omega, show a + (e.encL.length + (Ev.catL l).length) = a + e.encL.length + (Ev.catL l).length by omega]
        rfl
      · right
        refine ⟨⟨p, by rw [h1, Bt.comb_err _ _ _ _ (by decide)]⟩, ?_⟩
        intro hc
        exact h2 ⟨by omega, by omega⟩
/-- What is read by another base. -/
theorem Bt.run_base (s : ByteArray) : ∀ (f : Nat) (now now' : Int) (a : Nat), (Bt.run s f now a).2.2.2 = 0 → 0 ≤ now' →
    (Bt.run s f now' a = ((Bt.run s f now a).1, (Bt.run s f now a).2.1.map (· + (now' - now)), 0, 0) ∨ ((∃ p, Bt.run s f now' a = ([], [], p, 11)) ∧ now < now'))
  | 0, _, _, _, _, _ => .inl rfl
  | f + 1, now, now', a, h, h0 => by
    unfold Bt.run at h ⊢
    by_cases h1 : s.size ≤ a
    · rw [if_pos h1]; left; rw [if_pos h1]; rfl
    · rw [if_neg h1] at h
      rw [if_neg h1, if_neg h1]
      by_cases h2 : (Ev.dec (s.data.toList.drop a)).2.2 = 0
      · rw [if_pos h2] at h
        rw [if_pos h2, if_pos h2]
        rcases hd : Ev.dec (s.data.toList.drop a) with ⟨e, k, c⟩
        rw [hd] at h h2
        simp only at h h2 ⊢
        subst h2
        have hdt := Ev.ok_wi.1 (Ev.may_dt (Ev.dec_ok hd).1)
        unfold Wi.ok at hdt
        by_cases h3 : Ev.ok (now + e.dt) = true
        · rw [if_pos h3] at h
          rw [if_pos h3]
          have hr : (Bt.run s f (now + e.dt) (a + k)).2.2.2 = 0 := by
            unfold Bt.comb at h
            by_cases hz : (Bt.run s f (now + e.dt) (a + k)).2.2.2 = 0
            · exact hz
            · rw [if_neg hz] at h; exact h
          by_cases h4 : Ev.ok (now' + e.dt) = true
          · rw [if_pos h4]
            rcases Bt.run_base s f (now + e.dt) (now' + e.dt) (a + k) hr (by omega) with h5 | ⟨⟨p, h5⟩, h6⟩
            · left
              rw [h5]
              unfold Bt.comb
              rw [if_pos rfl, if_pos hr, show now' + e.dt - (now + e.dt) = now' - now by omega]
              simp
              omega
            · right
              exact ⟨⟨p, by rw [h5, Bt.comb_err _ _ _ _ (by decide)]⟩, by omega⟩
          · right
            rw [if_neg h4]
            refine ⟨⟨a, rfl⟩, ?_⟩
            have h5 := Ev.ok_wi.1 h3
            unfold Wi.ok at h5
            have h6 : ¬ Wi.ok (now' + e.dt) := fun hw => h4 (Ev.ok_wi.2 hw)
            unfold Wi.ok at h6
            omega
        · rw [if_neg h3] at h; cases h
      · rw [if_neg h2] at h; exact absurd h h2
theorem Bt.events_base {g st ba : Int} {bo : ByteArray} {l : List Ev} {ts : List Int} {p : Nat} (h : Bt.events ⟨g, st, ba, bo⟩ = (l, ts, p, 0)) {ba' : Int} (hm : Bt.may ⟨g, st, ba', bo⟩ = true) :
    Bt.events ⟨g, st, ba', bo⟩ = (l, ts.map (· + (ba' - ba)), 0, 0) ∨ ((∃ p, Bt.events ⟨g, st, ba', bo⟩ = ([], [], p, 11)) ∧ ba < ba') := by
  unfold Bt.events at h ⊢
  rw [if_pos hm]
  by_cases hb : Bt.may ⟨g, st, ba, bo⟩ = true
  · rw [if_pos hb] at h
    simp only at h ⊢
    have hok := Ev.ok_wi.1 ((Bt.may_parts hm).2.1 ba' (by simp))
    unfold Wi.ok at hok
    have := Bt.run_base bo (bo.size + 1) ba ba' 0 (by rw [h]) hok.1
    rw [h] at this
    exact this
  · rw [if_neg hb] at h
    simp at h
theorem Bt.run_times (s : ByteArray) : ∀ f now a, (Bt.run s f now a).2.2.2 = 0 → (Bt.run s f now a).2.1 = Bt.scan now (Bt.run s f now a).1 ∧ ∀ t ∈ (Bt.run s f now a).2.1, Ev.ok t = true
  | 0, _, _, _ => ⟨rfl, fun t ht => by simp [Bt.run] at ht⟩
  | f + 1, now, a, h => by
    unfold Bt.run at h ⊢
    by_cases h1 : s.size ≤ a
    · rw [if_pos h1]; exact ⟨rfl, fun t ht => by simp at ht⟩
    · rw [if_neg h1] at h ⊢
      by_cases h2 : (Ev.dec (s.data.toList.drop a)).2.2 = 0
      · rw [if_pos h2] at h ⊢
        by_cases h3 : Ev.ok (now + (Ev.dec (s.data.toList.drop a)).1.dt) = true
        · rw [if_pos h3] at h ⊢
          unfold Bt.comb at h ⊢
          by_cases hz : (Bt.run s f (now + (Ev.dec (s.data.toList.drop a)).1.dt) (a + (Ev.dec (s.data.toList.drop a)).2.1)).2.2.2 = 0
          · rw [if_pos hz]
            obtain ⟨i1, i2⟩ := Bt.run_times s f _ _ hz
            refine ⟨by simp only [List.cons_append, List.nil_append, Bt.scan]; rw [← i1], fun t ht => ?_⟩
            simp only [List.cons_append, List.nil_append, List.mem_cons] at ht
            rcases ht with rfl | ht
            · exact h3
            · exact i2 t ht
          · rw [if_neg hz] at h; exact absurd h hz
        · rw [if_neg h3] at h; simp at h
      · rw [if_neg h2] at h; exact absurd h h2
theorem Ev.encs_cat : ∀ (l : List Ev), (∀ e ∈ l, e.may = true) → (Ev.encs l).data.toList = Ev.catL l
  | [], _ => rfl
  | e :: l, h => by
    have h1 := Ev.encs_cat l fun x hx => h x (by simp [hx])
    have h2 : e.enc.data.toList = e.encL := by unfold Ev.enc; rw [if_pos (h e (by simp))]
    unfold Ev.encs at h1 ⊢
    simp only [List.map_cons, List.flatten_cons] at h1 ⊢
    have e1 : Ev.catL (e :: l) = e.encL ++ Ev.catL l := by simp [Ev.catL]
    rw [e1, h2]
    exact congrArg (e.encL ++ ·) h1
theorem Bt.sum_le : ∀ (l : List Ev), (∀ e ∈ l, e.may = true ∧ e.dt ≤ 1000000) → 0 ≤ Bt.sum l ∧ Bt.sum l ≤ 1000000 * l.length
  | [], _ => by simp [Bt.sum]
  | e :: l, h => by
    obtain ⟨i1, i2⟩ := Bt.sum_le l fun x hx => h x (by simp [hx])
    obtain ⟨hm, hd⟩ := h e (by simp)
    have h1 := Ev.ok_wi.1 (Ev.may_dt hm)
    unfold Wi.ok at h1
    rw [Bt.sum_cons, List.length_cons]
    omega
theorem Bt.place {l : List Ev} {s : ByteArray} (h : ∀ e ∈ l, e.may = true ∧ e.dt ≤ 1000000) (hsh : ∀ e ∈ l, Ev.short1 e = true) (hl : l.length ≤ 60) (hs : s.size ≤ 1000) :
    Bt.events ⟨1, 0, 0, (Ev.encs l ++ ⟨#[0]⟩) ++ s⟩ = ([], [], (Ev.encs l).size, 30) := by
  have hcat := Ev.encs_cat l fun e he => (h e he).1
  have hz1 := Ev.catL_le l fun e he => ⟨(h e he).1, hsh e he⟩
  have hez : (Ev.encs l).size = (Ev.catL l).length := by rw [← hcat]; simp
  have hbz : ((Ev.encs l ++ ⟨#[0]⟩) ++ s).size = (Ev.catL l).length + 1 + s.size := by rw [ByteArray.size_append, ByteArray.size_append, hez]; rfl
  have hbd : ((Ev.encs l ++ ⟨#[0]⟩) ++ s).data.toList = Ev.catL l ++ (0 :: s.data.toList) := by
    rw [ByteArray.data_append, ByteArray.data_append, Array.toList_append, Array.toList_append, hcat]; simp
  have hm : Bt.may ⟨1, 0, 0, (Ev.encs l ++ ⟨#[0]⟩) ++ s⟩ = true := by
    unfold Bt.may
    have h1 : Ev.ok 1 = true := by decide
    have h0 : Ev.ok 0 = true := by decide
    simp only [h1, h0, hbz]
    simp
    omega
  have hll : l.length ≤ (Ev.catL l).length := by
    clear hcat hz1 hez hbz hbd hm hsh hl
    induction l with
    | nil => exact Nat.le_refl _
    | cons e l ih =>
      have h1 := ih fun x hx => h x (by simp [hx])
      have e1 : Ev.catL (e :: l) = e.encL ++ Ev.catL l := by simp [Ev.catL]
      rw [e1, List.length_append, List.length_cons]
      have : 0 < e.encL.length := by unfold Ev.encL; simp
      omega
  obtain ⟨hs0, hs1⟩ := Bt.sum_le l h
  unfold Bt.events
  rw [if_pos hm]
  simp only
  generalize ((Ev.encs l ++ ⟨#[0]⟩) ++ s) = B at *
  have hf : B.size + 1 = l.length + ((B.size - l.length) + 1) := by omega
  rw [hf]
  rcases Bt.run_list B l ((B.size - l.length) + 1) 0 0 (0 :: s.data.toList) (fun e he => ⟨(h e he).1, by have := hsh e he; unfold Ev.short1 at this; simp at this; unfold Va.most; omega⟩) (by rw [List.drop_zero, hbd]) with h1 | ⟨_, h2⟩
  · have hr : Bt.run B ((B.size - l.length) + 1) (0 + Bt.sum l) (0 + (Ev.catL l).length) = ([], [], (Ev.catL l).length, 30) := by
      unfold Bt.run
      rw [Nat.zero_add, if_neg (by omega), hbd, List.drop_left]
      have hd : Ev.dec (0 :: s.data.toList) = (Ev.zero, 0, 30) := by
        simp only [Ev.dec]
        rw [if_neg (by decide)]
      rw [hd]
      rfl
    rw [h1, hr, Bt.comb_err _ _ _ _ (by decide), hez]
  · exact absurd ⟨by omega, by omega⟩ h2
theorem rmay_k' (k d : Int) (xs : List Int) (t : ByteArray) (b : Bool) (h : Ev.may ⟨k, d, xs, t⟩ = b) (A : Option Addr) (c : Nat) (w : World) (hI : IntsAt w (.slice A xs.length c) xs) (hn : xs.length ≤ 1000000) :
    Calls Try.prog 21 #[.agg #[.int .i64 k, .int .i64 d, .slice A xs.length c, .string t]] w fun r w' => r = .returned (.bool b) ∧ Ext w w' :=
  rmay_b _ ⟨k, d, xs, t⟩ b h w ⟨A, c, rfl, hI⟩ hn
theorem short_eq' (v : Value) (l : List Ev) (b : Bool) (hb : Ev.short l = b) (w : World) (h : EvsAt w v l) (hn : l.length ≤ 9223372036854775807) :
    Calls Try.prog 19 #[v] w fun e w' => e = .returned (.bool b) ∧ w = w' := by subst hb; exact short_any v l w h hn
set_option maxRecDepth 100000 in
set_option maxHeartbeats 1000000 in
theorem bplace_out (v : Value) (l : List Ev) (s : ByteArray) (w : World) (h : EvsAt w v l) (hl : l.length ≤ maxLen) (hs : s.size ≤ maxLen) (sh : Bool) (hsh : Ev.short l = sh) (ho : sh = false ∨ (sh = true ∧ 1000 < s.size)) :
    Calls Try.prog 7 #[v, .string s] w fun e w' => e = .returned (.bool true) ∧ Ext w w' := by
  unfold maxLen at hs
  have HSH := Lib.hid hsh
  clear hsh
  rcases ho with rfl | ⟨rfl, h1⟩
  all_goals
    go_enter Try.func7, Try.ntmps7
    go_wp2_with fail
    refine (bfixed_yes _).mono ?_
    rintro r w1 ⟨rfl, hx1⟩
    go_wp2_with fail
    refine (short_eq' v l _ HSH.out _ (h.ext hx1) hl).mono ?_
    rintro r w2 ⟨rfl, rfl⟩
    go_wp2_with fail
    refine (bfixed_yes _).mono ?_
    rintro r w2 ⟨rfl, hx2⟩
    go_wp2
    go_ret
    exact ⟨rfl, hx1.trans hx2⟩
set_option maxRecDepth 100000 in
set_option maxHeartbeats 1000000 in
theorem bplace_in (A : Option Addr) (c : Nat) (l : List Ev) (s : ByteArray) (w : World) (hA : 0 < l.length → ∃ b o, A = some ⟨b, o, none⟩ ∧ b < w.heap.size ∧ ∀ j e, l[j]? = some e → EvCell w b (o + j * 4) e) (hsh : Ev.short l = true) (hs : s.size ≤ 1000) :
    Calls Try.prog 7 #[.slice A l.length c, .string s] w fun e w' => e = .returned (.bool true) ∧ Ext w w' := by
  have HEv : Hid (EvsAt w (.slice A l.length c) l) := Lib.hid ⟨A, c, rfl, hA⟩
  have HA := Lib.hid hA
  have HSH := Lib.hid hsh
  have hsh2 := hsh
  unfold Ev.short at hsh2
  simp only [Bool.and_eq_true, List.all_eq_true, decide_eq_true_eq] at hsh2
  obtain ⟨hall, h60⟩ := hsh2
  have HALL := Lib.hid hall
  clear hA hsh hall
  go_enter Try.func7, Try.ntmps7
  go_wp2_with fail
  refine (bfixed_yes _).mono ?_
  rintro r w1 ⟨rfl, hx1⟩
  have HX1 := Lib.hid hx1
  clear hx1
  go_wp2_with fail
  refine (short_eq' _ l true HSH.out _ (HEv.out.ext HX1.out) (by omega)).mono ?_
  rintro r w2 ⟨rfl, rfl⟩
  go_wp2
  go_loopw [5] (fun i wr => ∃ j : Nat, j ≤ l.length ∧ i = .int .i64 j ∧ (∀ e ∈ l.take j, e.may = true ∧ e.dt ≤ 1000000) ∧ Ext w wr) (fun i _ => l.length - (intOf i).toNat)
  case atStart => exact ⟨0, by omega, rfl, by simp, HX1.out⟩
  case round =>
    clear HX1
    obtain ⟨j, hj, rfl, hmay, hx⟩ := hrel
    have HX := Lib.hid hx
    have HMAY := Lib.hid hmay
    clear hx hmay
    by_cases hlt : j < l.length
    · have HT : Hid (l.take (j + 1) = l.take j ++ [l[j]]) := Lib.hid (by rw [List.take_succ_eq_append_getElem hlt])
      obtain ⟨b, o, rfl, hb, hc⟩ := HA.out (by omega)
      have HEL : Hid (EvCell w b (o + j * 4) l[j]) := Lib.hid (hc j _ (List.getElem?_eq_getElem hlt))
      have HSZ := Lib.hid (HALL.out l[j] (List.getElem_mem hlt))
      clear hc
      generalize l[j] = e at *
      obtain ⟨k', d', xs', t'⟩ := e
      obtain ⟨A', c', e0, e1, e2, e3, hi⟩ := HEL.out.ext HX.out hb
      have HI := Lib.hid hi
      have hz1 : xs'.length ≤ 20 := by have := HSZ.out; unfold Ev.short1 at this; simp at this; omega
      simp only at e0 e1 e2 e3
      clear hi
      cases hm : Ev.may ⟨k', d', xs', t'⟩ with
      | false =>
        have HM := Lib.hid hm
        clear hm
        go_wp2_with fail
        refine (rmay_k' k' d' xs' t' false HM.out _ _ _ HI.out (by omega)).mono ?_
        rintro r w4 ⟨rfl, hx4⟩
        go_wp2
        go_ret
        exact ⟨rfl, HX.out.trans hx4⟩
      | true =>
        have HM := Lib.hid hm
        clear hm
        go_wp2_with fail
        refine (rmay_k' k' d' xs' t' true HM.out _ _ _ HI.out (by omega)).mono ?_
        rintro r w4 ⟨rfl, hx4⟩
        have HX4 := Lib.hid (HX.out.trans hx4)
        clear e0 e1 e2 e3 hx4
        obtain ⟨A2, c2, e0, e1, e2, e3, hi⟩ := HEL.out.ext HX4.out hb
        simp only at e0 e1 e2 e3
        clear hi
        by_cases hd : d' ≤ 1000000
        · go_wp2
          go_roundw
          case rel =>
            refine ⟨j + 1, by omega, by go_num, ?_, HX4.out⟩
            rw [HT.out]
            intro x hx
            rcases List.mem_append.1 hx with hx | hx
            · exact HMAY.out x hx
            · rw [List.mem_singleton.1 hx]; exact ⟨HM.out, hd⟩
          case measure => simp [intOf]; omega
        · have hd' : 1000000 < d' := by omega
          clear hd
          go_wp2
          go_ret
          exact ⟨rfl, HX4.out⟩
    · obtain rfl : j = l.length := by omega
      have hm : ∀ e ∈ l, e.may = true ∧ e.dt ≤ 1000000 := by have := HMAY.out; rwa [List.take_length] at this
      have HPL := Lib.hid (Bt.place (s := s) hm HALL.out h60 hs)
      have HZ : Hid (∀ e ∈ l, e.args.length ≤ 1000 ∧ e.text.size ≤ 1000000) := Lib.hid fun e he => by
        have := HALL.out e he; unfold Ev.short1 at this; simp at this; omega
      have hes : (Ev.encs l).size ≤ 30000 := by
        have h1 := Ev.catL_le l fun e he => ⟨(hm e he).1, HALL.out e he⟩
        have h2 : (Ev.encs l).size = (Ev.catL l).length := by rw [← Ev.encs_cat l fun e he => (hm e he).1]; simp
        omega
      clear hm HMAY
      obtain ⟨hd, hhd⟩ : ∃ b, Ev.encs l = b := ⟨_, rfl⟩
      have HHD := Lib.hid hhd
      rw [hhd] at HPL hes
      clear hhd
      go_wp2_with fail
      refine (rbytes_eq _ l hd HHD.out _ (HEv.out.ext HX.out) HZ.out (by omega)).mono ?_
      rintro r w4 ⟨rfl, hx4⟩
      have HX4 := Lib.hid (HX.out.trans hx4)
      clear hx4
      go_wp2_with fail
      refine (bevents_eq 1 0 0 _ [] [] _ 30 HPL.out _).mono ?_
      rintro r w5 ⟨A2, c2, A2', c2', rfl, hev, htv, hx5⟩
      clear hev htv
      go_wp2
      go_ret
      exact ⟨by simp, HX4.out.trans hx5⟩
theorem walk_BatchPlace (v : Value) (l : List Ev) (s : ByteArray) (w : World) (h : EvsAt w v l) (hl : l.length ≤ maxLen) (_ : ∀ e ∈ l, EvIn e) (hs : s.size ≤ maxLen) :
    Calls Try.prog 7 #[v, .string s] w fun e w' => e = .returned (.bool true) ∧ Ext w w' := by
  cases hsh : Ev.short l with
  | false => exact bplace_out v l s w h hl hs _ hsh (.inl rfl)
  | true =>
    by_cases h1 : s.size ≤ 1000
    · obtain ⟨A, c, rfl, hA⟩ := h
      exact bplace_in A c l s w hA hsh h1
    · exact bplace_out v l s w h hl hs _ hsh (.inr ⟨rfl, by omega⟩)
theorem Bt.run_pos (s : ByteArray) : ∀ f now a, (Bt.run s f now a).2.2.1 ≤ s.size
  | 0, _, _ => Nat.zero_le _
  | f + 1, now, a => by
    unfold Bt.run
    by_cases h1 : s.size ≤ a
    · rw [if_pos h1]; exact Nat.zero_le _
    · rw [if_neg h1]
      by_cases h2 : (Ev.dec (s.data.toList.drop a)).2.2 = 0
      · rw [if_pos h2]
        by_cases h3 : Ev.ok (now + (Ev.dec (s.data.toList.drop a)).1.dt) = true
        · rw [if_pos h3]
          unfold Bt.comb
          split
          · exact Nat.zero_le _
          · exact Bt.run_pos s f _ _
        · rw [if_neg h3]; simp only; omega
      · rw [if_neg h2]; simp only; omega
theorem Bt.run_bad (s : ByteArray) (f : Nat) (now : Int) (a : Nat) (h : (Bt.run s f now a).2.2.2 ≠ 0) : (Bt.run s f now a).1 = [] ∧ (Bt.run s f now a).2.1 = [] := by
  have hs := Bt.run_shape s f now a
  unfold Bt.comb at hs
  rw [if_neg h] at hs
  rw [← hs]
  exact ⟨rfl, rfl⟩
theorem Bt.run_bytes (s : ByteArray) : ∀ f now a, s.size < a + f → a ≤ s.size → (Bt.run s f now a).2.2.2 = 0 → Ev.catL (Bt.run s f now a).1 = s.data.toList.drop a
  | 0, _, a, h, h2, _ => by omega
  | f + 1, now, a, h, h2, h3 => by
    have hsz : s.data.toList.length = s.size := by simp
    unfold Bt.run at h3 ⊢
    by_cases h1 : s.size ≤ a
    · rw [if_pos h1]
      rw [List.drop_eq_nil_of_le (by rw [hsz]; exact h1)]
      rfl
    · rw [if_neg h1] at h3 ⊢
      by_cases h4 : (Ev.dec (s.data.toList.drop a)).2.2 = 0
      · rw [if_pos h4] at h3 ⊢
        rcases hd : Ev.dec (s.data.toList.drop a) with ⟨e, k, c⟩
        rw [hd] at h3 h4
        simp only at h3 h4 ⊢
        subst h4
        obtain ⟨hm, _, hk, r, hL⟩ := Ev.dec_ok hd
        have hk0 : 0 < k := by rw [hk]; unfold Ev.encL; simp
        have hle : a + k ≤ s.size := by
          have := congrArg List.length hL
          rw [List.length_drop, List.length_append, hsz] at this
          omega
        by_cases h5 : Ev.ok (now + e.dt) = true
        · rw [if_pos h5] at h3 ⊢
          unfold Bt.comb at h3 ⊢
          by_cases hz : (Bt.run s f (now + e.dt) (a + k)).2.2.2 = 0
          · rw [if_pos hz]
            have ih := Bt.run_bytes s f (now + e.dt) (a + k) (by omega) hle hz
            have e1 : Ev.catL ([e] ++ (Bt.run s f (now + e.dt) (a + k)).1) = e.encL ++ Ev.catL (Bt.run s f (now + e.dt) (a + k)).1 := by simp [Ev.catL]
            show Ev.catL ([e] ++ (Bt.run s f (now + e.dt) (a + k)).1) = _
            rw [e1, ih, ← List.drop_drop, hL, hk, List.drop_left]
          · rw [if_neg hz] at h3; exact absurd h3 hz
        · rw [if_neg h5] at h3; simp at h3
      · rw [if_neg h4] at h3; exact absurd h3 h4
theorem Bt.scan_append : ∀ (now : Int) (l m : List Ev), Bt.scan now (l ++ m) = Bt.scan now l ++ Bt.scan (now + Bt.sum l) m
  | now, [], m => by simp [Bt.scan, Bt.sum]
  | now, e :: l, m => by
    simp only [List.cons_append, Bt.scan, Bt.sum_cons]
    rw [Bt.scan_append (now + e.dt) l m, show now + e.dt + Bt.sum l = now + (e.dt + Bt.sum l) by omega]
theorem Bt.scan_get : ∀ (now : Int) (l : List Ev) (j : Nat) (h : j < l.length), (Bt.scan now l)[j]? = some (now + Bt.sum (l.take j) + l[j].dt)
  | now, e :: l, 0, _ => by simp [Bt.scan, Bt.sum]
  | now, e :: l, j + 1, h => by
    have ih := Bt.scan_get (now + e.dt) l j (by simpa using h)
    simp only [Bt.scan, List.getElem?_cons_succ, List.take_succ_cons, List.getElem_cons_succ, Bt.sum_cons]
    rw [ih]
    congr 1
    omega
theorem bevents_cap (g st ba : Int) (bo : ByteArray) (l : List Ev) (ts : List Int) (p q : Nat) (h : Bt.events ⟨g, st, ba, bo⟩ = (l, ts, p, q)) (w : World) :
    Calls Try.prog 11 #[.agg #[.int .i64 g, .int .i64 st, .int .i64 ba, .string bo]] w fun r w' => ∃ A c A' c', r = .returned (.tuple #[.slice A l.length c, .slice A' ts.length c', .int .i64 (p : Int), .int .i64 (q : Int)]) ∧ EvsAt w' (.slice A l.length c) l ∧ IntsAt w' (.slice A' ts.length c') ts ∧ Ext w w' ∧ Capped (.slice A' ts.length c') := by
  refine (bevents_any g st ba bo w).mono ?_
  rw [h]
  rintro r w' ⟨ev, tv, rfl, hev, htv, hx, hc⟩
  have h1 := hev
  have h2 := htv
  obtain ⟨A, c, rfl, _⟩ := h1
  obtain ⟨A', c', rfl, _⟩ := h2
  exact ⟨A, c, A', c', rfl, hev, htv, hx, hc⟩
structure Bt.Good (g st ba : Int) (bo : ByteArray) (l : List Ev) (ts : List Int) : Prop where
  may : Bt.may ⟨g, st, ba, bo⟩ = true
  times : ts = Bt.scan ba l
  oks : ∀ t ∈ ts, Ev.ok t = true
  bytes : Ev.encs l = bo
  evs : ∀ e ∈ l, e.may = true ∧ e.text.size < Va.most
theorem Bt.good {g st ba : Int} {bo : ByteArray} {l : List Ev} {ts : List Int} {p : Nat} (h : Bt.events ⟨g, st, ba, bo⟩ = (l, ts, p, 0)) : Bt.Good g st ba bo l ts := by
  have hsm := (Bt.events_small h).2.2
  have hm : Bt.may ⟨g, st, ba, bo⟩ = true := by
    cases hx : Bt.may ⟨g, st, ba, bo⟩ with
    | true => rfl
    | false => unfold Bt.events at h; rw [hx] at h; simp at h
  have h65 := (Bt.may_parts hm).2.2
  unfold Bt.events at h
  rw [if_pos hm] at h
  simp only at h h65
  have h0 : (Bt.run bo (bo.size + 1) ba 0).2.2.2 = 0 := by rw [h]
  obtain ⟨t1, t2⟩ := Bt.run_times bo (bo.size + 1) ba 0 h0
  have t3 := Bt.run_bytes bo (bo.size + 1) ba 0 (by omega) (by omega) h0
  rw [h] at t1 t2 t3
  simp only [List.drop_zero] at t1 t2 t3
  refine ⟨hm, t1, t2, ?_, fun e he => ⟨(hsm e he).1, by have := (hsm e he).2.2; unfold Va.most; omega⟩⟩
  apply ByteArray.ext
  apply Array.toList_inj.1
  rw [Ev.encs_cat l fun e he => (hsm e he).1, t3]
theorem Bt.bad {g st ba : Int} {bo : ByteArray} {l : List Ev} {ts : List Int} {p q : Nat} (h : Bt.events ⟨g, st, ba, bo⟩ = (l, ts, p, q)) (hq : q ≠ 0) : l = [] ∧ ts = [] ∧ p ≤ bo.size := by
  unfold Bt.events at h
  split at h
  · simp only at h
    have h1 := Bt.run_bad bo (bo.size + 1) ba 0 (by rw [h]; exact hq)
    have h2 := Bt.run_pos bo (bo.size + 1) ba 0
    rw [h] at h1 h2
    exact ⟨h1.1, h1.2, h2⟩
  · simp only [Prod.mk.injEq] at h
    obtain ⟨rfl, rfl, rfl, _⟩ := h
    exact ⟨rfl, rfl, Nat.zero_le _⟩
theorem Bt.more {g st ba : Int} {bo : ByteArray} {l : List Ev} {ts : List Int} {p : Nat} (h : Bt.events ⟨g, st, ba, bo⟩ = (l, ts, p, 0)) {more : List Ev} (hm : ∀ e ∈ more, e.may = true) (hsh : ∀ e ∈ more, Ev.short1 e = true) (hl : more.length ≤ 60) (hbo : bo.size ≤ 3000) :
    (∃ us, Bt.events ⟨g, st, ba, bo ++ Ev.encs more⟩ = (l ++ more, us, 0, 0) ∧ us.length = ts.length + more.length ∧ us.take ts.length = ts) ∨ ∃ p, Bt.events ⟨g, st, ba, bo ++ Ev.encs more⟩ = ([], [], p, 11) := by
  have G := Bt.good h
  have hz1 := Ev.catL_le more fun e he => ⟨hm e he, hsh e he⟩
  have hcm := Ev.encs_cat more hm
  have hcl := Ev.encs_cat l fun e he => (G.evs e he).1
  have hez : (Ev.encs more).size = (Ev.catL more).length := by rw [← hcm]; simp
  have hbz : (bo ++ Ev.encs more).size = bo.size + (Ev.catL more).length := by rw [ByteArray.size_append, hez]
  have hbd : (bo ++ Ev.encs more).data.toList = Ev.catL (l ++ more) := by
    rw [ByteArray.data_append, Array.toList_append, hcm]
    conv => lhs; lhs; rw [← G.bytes]
    rw [hcl]
    simp [Ev.catL]
  have hmay : Bt.may ⟨g, st, ba, bo ++ Ev.encs more⟩ = true := by
    have := G.may
    unfold Bt.may at this ⊢
    simp only [Bool.and_eq_true, decide_eq_true_eq] at this ⊢
    refine ⟨this.1, ?_⟩
    rw [hbz]; omega
  have hcz : (Ev.catL (l ++ more)).length = (bo ++ Ev.encs more).size := by rw [← hbd]; simp
  have hll : (l ++ more).length ≤ (Ev.catL (l ++ more)).length := by
    have key : ∀ m : List Ev, m.length ≤ (Ev.catL m).length := by
      intro m
      induction m with
      | nil => exact Nat.le_refl _
      | cons e m ih =>
        have e1 : Ev.catL (e :: m) = e.encL ++ Ev.catL m := by simp [Ev.catL]
        rw [e1, List.length_append, List.length_cons]
        have : 0 < e.encL.length := by unfold Ev.encL; simp
        omega
    exact key _
  have hts := G.times
  have hall : ∀ e ∈ l ++ more, e.may = true ∧ e.text.size < Va.most := fun e he => by
    rcases List.mem_append.1 he with he | he
    · exact G.evs e he
    · exact ⟨hm e he, by have := hsh e he; unfold Ev.short1 at this; simp at this; unfold Va.most; omega⟩
  unfold Bt.events
  rw [if_pos hmay]
  simp only
  generalize (bo ++ Ev.encs more) = B at *
  have hf : B.size + 1 = (l ++ more).length + ((B.size - (l ++ more).length) + 1) := by omega
  rw [hf]
  rcases Bt.run_list B (l ++ more) ((B.size - (l ++ more).length) + 1) ba 0 [] hall (by rw [List.drop_zero, hbd, List.append_nil]) with h1 | ⟨h1, _⟩
  · left
    refine ⟨Bt.scan ba (l ++ more), ?_, ?_, ?_⟩
    · rw [h1]
      have hr : Bt.run B ((B.size - (l ++ more).length) + 1) (ba + Bt.sum (l ++ more)) (0 + (Ev.catL (l ++ more)).length) = ([], [], 0, 0) := by
        unfold Bt.run
        rw [if_pos (by omega)]
      rw [hr]
      simp [Bt.comb]
    · rw [Bt.scan_len, hts, Bt.scan_len, List.length_append]
    · rw [Bt.scan_append, ← hts]; simp
  · right
    exact h1
/-- Cells that hold events, whose numbers lie below B. -/
def RowB (w : World) (B : Nat) (l : List Ev) (cs : List Value) : Prop :=
  cs.length = l.length * 4 ∧ ∀ j e, l[j]? = some e → ∃ A c, cs[j * 4]? = some (.int .i64 e.kind) ∧ cs[j * 4 + 1]? = some (.int .i64 e.dt) ∧ cs[j * 4 + 2]? = some (.slice A e.args.length c) ∧ cs[j * 4 + 3]? = some (.string e.text) ∧
    IntsAt w (.slice A e.args.length c) e.args ∧ ∀ b o, 0 < e.args.length → A = some ⟨b, o, none⟩ → b < B
theorem cells_row {W : World} {b : Nat} : ∀ (l : List Ev) (o : Nat), (∀ j e, l[j]? = some e → EvCell W b (o + j * 4) e) →
    ∃ cs, (∀ j u, cs[j]? = some u → W.cell? ⟨b, o + j, none⟩ = some u) ∧ (∀ u ∈ cs, u.oneCell' = true) ∧ RowB W W.heap.size l cs
  | [], _, _ => ⟨[], fun j u h => by simp at h, by simp, rfl, fun j e h => by simp at h⟩
  | e :: l, o, h => by
    obtain ⟨A, c, h0, h1, h2, h3, hi⟩ := h 0 e rfl
    obtain ⟨cs, i1, i2, i3, i4⟩ := cells_row l (o + 4) fun j x hj => by
      have := h (j + 1) x (by simpa using hj)
      rwa [show o + (j + 1) * 4 = o + 4 + j * 4 by omega] at this
    refine ⟨.int .i64 e.kind :: .int .i64 e.dt :: .slice A e.args.length c :: .string e.text :: cs, fun j u hj => ?_, fun u hu => ?_, by simp [i3]; omega, fun j x hj => ?_⟩
    · match j with
      | 0 => simp at hj; subst hj; simpa using h0
      | 1 => simp at hj; subst hj; simpa using h1
      | 2 => simp at hj; subst hj; simpa using h2
      | 3 => simp at hj; subst hj; simpa using h3
      | j + 4 =>
        simp only [List.getElem?_cons_succ] at hj
        have := i1 j u hj
        rwa [show o + 4 + j = o + (j + 4) by omega] at this
    · simp only [List.mem_cons] at hu
      rcases hu with rfl | rfl | rfl | rfl | hu
      · rfl
      · rfl
      · rfl
      · rfl
      · exact i2 u hu
    · match j with
      | 0 =>
        simp at hj; subst hj
        refine ⟨A, c, rfl, rfl, rfl, rfl, hi, fun b' o' h0 hA => ?_⟩
        subst hA
        exact hi.lt h0
      | j + 1 =>
        obtain ⟨A', c', k0, k1, k2, k3, ki, kf⟩ := i4 j x (by simpa using hj)
        refine ⟨A', c', ?_, ?_, ?_, ?_, ki, kf⟩
        · rw [show (j + 1) * 4 = j * 4 + 4 by omega]; simpa only [List.getElem?_cons_succ] using k0
        · rw [show (j + 1) * 4 + 1 = j * 4 + 1 + 4 by omega]; simpa only [List.getElem?_cons_succ] using k1
        · rw [show (j + 1) * 4 + 2 = j * 4 + 2 + 4 by omega]; simpa only [List.getElem?_cons_succ] using k2
        · rw [show (j + 1) * 4 + 3 = j * 4 + 3 + 4 by omega]; simpa only [List.getElem?_cons_succ] using k3
theorem RowB.append {w : World} {B : Nat} {l m : List Ev} {cs ds : List Value} (h : RowB w B l cs) (k : RowB w B m ds) : RowB w B (l ++ m) (cs ++ ds) := by
  refine ⟨by simp [h.1, k.1]; omega, fun j e hj => ?_⟩
  rcases Nat.lt_or_ge j l.length with hlt | hge
  · rw [List.getElem?_append_left hlt] at hj
    obtain ⟨A, c, h0, h1, h2, h3, hi⟩ := h.2 j e hj
    refine ⟨A, c, ?_, ?_, ?_, ?_, hi⟩ <;> (rw [List.getElem?_append_left (by rw [h.1]; omega)]; assumption)
  · rw [List.getElem?_append_right hge] at hj
    obtain ⟨A, c, h0, h1, h2, h3, hi⟩ := k.2 _ e hj
    refine ⟨A, c, ?_, ?_, ?_, ?_, hi⟩
    · rw [List.getElem?_append_right (by rw [h.1]; omega), h.1, show j * 4 - l.length * 4 = (j - l.length) * 4 by omega]; exact h0
    · rw [List.getElem?_append_right (by rw [h.1]; omega), h.1, show j * 4 + 1 - l.length * 4 = (j - l.length) * 4 + 1 by omega]; exact h1
    · rw [List.getElem?_append_right (by rw [h.1]; omega), h.1, show j * 4 + 2 - l.length * 4 = (j - l.length) * 4 + 2 by omega]; exact h2
    · rw [List.getElem?_append_right (by rw [h.1]; omega), h.1, show j * 4 + 3 - l.length * 4 = (j - l.length) * 4 + 3 by omega]; exact h3
theorem RowB.grown {w w' : World} {B : Nat} {l : List Ev} {cs : List Value} {row : Option Nat} (h : RowB w B l cs) (hg : w.grownBy w' row) (hr : ∀ r, row = some r → B ≤ r) : RowB w' B l cs :=
  ⟨h.1, fun j e hj => by
    obtain ⟨A, c, h0, h1, h2, h3, hi, hf⟩ := h.2 j e hj
    exact ⟨A, c, h0, h1, h2, h3, hi.grown hg fun b o hz hA he => by have := hf b o hz hA; have := hr b he.symm; omega, hf⟩⟩
theorem RowB.ext {w w' : World} {B : Nat} {l : List Ev} {cs : List Value} (h : RowB w B l cs) (hx : Ext w w') : RowB w' B l cs := h.grown hx.grownBy fun r hr => by cases hr
/-- A slice of events of the call's own, from B on; their numbers lie below B. -/
def OwnB (w : World) (B : Nat) (u : Value) (l : List Ev) : Prop := ∃ cs, w.ownsRow B 41 4 u l.length cs ∧ RowB w B l cs
theorem OwnB.evs {w : World} {B : Nat} {u : Value} {l : List Ev} (h : OwnB w B u l) : EvsAt w u l := by
  obtain ⟨cs, h1, h2⟩ := h
  refine OwnEvs.evs (B := B) (X := none) ⟨cs, h1, h2.1, fun j e hj => ?_⟩
  obtain ⟨A, c, k0, k1, k2, k3, hi, hf⟩ := h2.2 j e hj
  refine ⟨A, c, k0, k1, k2, k3, hi, fun b o hz hA => ⟨fun he => ?_, by simp⟩⟩
  have := hf b o hz hA
  have := (World.ownsRow.lt h1 b he).1
  omega
theorem own_append {P : Program} {w : World} {base : Nat} {e t : TypeId} (ty : TypeId) {size bytes : Nat} {i : TypeInfo} {z : Value} (ht : P.underlying t = some (.slice e)) (hi : P.info? e = some i) (hz : i.zero = some z)
    (hsize : i.size = size) (hby : i.bytes = bytes) (hzs : z.cells.size = size) (hsz : 0 < size) {v : Value} {n : Nat} {xs : List Value} (hown : w.ownsRow base e size v n xs)
    {A : Option Addr} {m : Nat} (c : Nat) {news : List Value} (hl : news.length = m * size) (hA : 0 < m → ∃ ad, A = some ad ∧ ∀ j u, news[j]? = some u → w.cell? (ad.add j) = some u) (h1 : ∀ u ∈ news, u.oneCell' = true)
    (h63 : n + m ≤ maxLen) (hbytes : (n + m) * bytes ≤ 140737488355328) (hbase : base ≤ w.heap.size) :
    ∃ v' w', (Builtin.append_ #[t, t] ty #[v, .slice A m c]).run P w = .ok v' w' ∧ w'.ownsRow base e size v' (n + m) (xs ++ news) ∧ w.grownBy w' v.ownBlock := by
  by_cases hm : m = 0
  · subst hm
    obtain rfl : news = [] := List.eq_nil_of_length_eq_zero (by rw [hl]; omega)
    have hs : Go.Src P i.size t (.slice A 0 c) 0 [] w := by
      cases A with
      | none => exact Go.Src.ofNil w ht c
      | some a => exact Go.Src.ofSlice w ht a 0 c [] (by simp) (by simp) (by simp)
    refine ⟨v, w, ?_, by simpa using hown, World.grownBy.refl w _⟩
    rcases hown.2 with ⟨rfl, _⟩ | ⟨g, cap, cur, rfl, _, _, hle, _⟩
    · exact Go.run_append_nothing w t t ty e i ht hi none 0 0 (Nat.le_refl _) _ hs
    · exact Go.run_append_nothing w t t ty e i ht hi (some ⟨g, 0, none⟩) n cap hle _ hs
  · obtain ⟨ad, rfl, hnews⟩ := hA (by omega)
    obtain ⟨v', w', hr, h2, h3, _⟩ := run_append_own_at (P := P) w base t ty e i z size bytes ht hi hz hsize hby hzs hsz v n xs hown ad m c news hl hnews h1 h63 hbytes hbase
    exact ⟨v', w', hr, h2, h3⟩
theorem OwnB.append {W w : World} {u : Value} {l m : List Ev} {A : Option Addr} {c : Nat} (ty : TypeId) (h : OwnB w W.heap.size u l) (hx : Ext W w) (hv : EvsAt W (.slice A m.length c) m) (hlen : l.length + m.length ≤ 100000000) :
    ∃ u' w', (Builtin.append_ #[28, 28] ty #[u, .slice A m.length c]).run Try.prog w = .ok u' w' ∧ OwnB w' W.heap.size u' (l ++ m) ∧ Ext W w' := by
  obtain ⟨j0, J0, J1, J2, J3⟩ := info_parts Try.infoEvent
  obtain ⟨cs, h1, h2⟩ := h
  obtain ⟨A', c', hv', hA⟩ := hv
  simp only [Value.slice.injEq, true_and] at hv'
  obtain ⟨rfl, rfl⟩ := hv'
  have key : ∃ ds : List Value, (0 < m.length → ∃ ad, A = some ad ∧ ∀ j u, ds[j]? = some u → W.cell? (ad.add j) = some u) ∧ (0 < m.length → ∀ b o, A = some ⟨b, o, none⟩ → b < W.heap.size) ∧ (0 < m.length → ∃ b o, A = some ⟨b, o, none⟩) ∧ (∀ u ∈ ds, u.oneCell' = true) ∧ RowB W W.heap.size m ds := by
    by_cases h0 : 0 < m.length
    · obtain ⟨b, o, rfl, hb, hc⟩ := hA h0
      obtain ⟨ds, d1, d2, d3⟩ := cells_row m o hc
      refine ⟨ds, fun _ => ⟨_, rfl, fun j u hj => by rw [Addr.add_lit]; exact d1 j u hj⟩, fun _ b' o' hh => ?_, fun _ => ⟨b, o, rfl⟩, d2, d3⟩
      simp only [Option.some.injEq, Addr.mk.injEq, and_true] at hh
      omega
    · obtain rfl := List.eq_nil_of_length_eq_zero (by omega : m.length = 0)
      exact ⟨[], fun h => absurd h h0, fun h => absurd h h0, fun h => absurd h h0, by simp, rfl, fun j e h => by simp at h⟩
  obtain ⟨ds, d1, d2, d4, d5, d3⟩ := key
  have hne : ∀ r, u.ownBlock = some r → W.heap.size ≤ r := fun r hr => (World.ownsRow.lt h1 r hr).1
  obtain ⟨u', w', hr, hown, hg⟩ := own_append (P := Try.prog) (w := w) (base := W.heap.size) ty Try.underlying28 J0 J1 J2 J3 rfl (by decide) h1 (A := A) c d3.1 (fun h0 => by
    obtain ⟨ad, hA', hc⟩ := d1 h0
    obtain ⟨b, o, hAA⟩ := d4 h0
    have hb := d2 h0 b o hAA
    refine ⟨ad, hA', fun j x hj => ?_⟩
    rw [hA'] at hAA
    injection hAA with hAA
    subst hAA
    have := hc j x hj
    rw [Addr.add_lit] at this ⊢
    rw [Below.cell hx hb]; exact this) d5 (by unfold maxLen; omega) (by omega) hx.size
  exact ⟨u', w', hr, ⟨_, by rw [List.length_append]; exact hown, (h2.grown hg hne).append ((d3.ext hx).grown hg hne)⟩, Below.grown hx hg hx.size (fun r hr => hne r hr)⟩
theorem wpList_append_run {P : Program} {ops : Array Oper} {rest : List Oper} {o : Oper} {a : Act} {w : World} {Q : Exit → Act → World → Prop} (hw : Region.wanted o (yielded ops a.tmps) = true) (s x : Operand) (t : TypeId)
    (ho : o.op = .call { callee := .builtin .append, args := #[s, x], argTypes := #[t, t] }) (v xv : Value) (hs : a.eval s = v) (hx : a.eval x = xv) {v' : Value} {w' : World}
    (hr : (Builtin.append_ #[t, t] o.type #[v, xv]).run P w = .ok v' w') (h : wpList P ops Q rest (a.put o.dst v') w') : wpList P ops Q (o :: rest) a w := by
  unfold wpList
  rw [if_pos hw]
  left
  unfold Oper.wp execOp
  simp only [ho, resolve, invoke, builtin, Sem.run_bind, Sem.run_pure, Result.andThen_ok, List.map_toArray, List.map_cons, List.map_nil, hs, hx, hr]
  exact h
set_option maxRecDepth 100000 in
set_option maxHeartbeats 1000000 in
theorem btimes_out (g st ba : Int) (bo : ByteArray) (Am : Option Addr) (cm : Nat) (m : List Ev) (w : World) (hbo : bo.size ≤ maxLen) (hml : m.length ≤ 9223372036854775807) (hem : EvsAt w (.slice Am m.length cm) m) (sh : Bool) (hsh : Ev.short m = sh) (ho : 3000 < bo.size ∨ (bo.size ≤ 3000 ∧ sh = false)) :
    Calls Try.prog 5 #[.agg #[.int .i64 g, .int .i64 st, .int .i64 ba, .string bo], .slice Am m.length cm] w fun e w' => e = .returned (.bool true) ∧ Ext w w' := by
  unfold maxLen at hbo
  rcases ho with h1 | ⟨h1, rfl⟩
  · skip
    have HA : Hid (∀ v, Ext (w.alloc (.cells #[.int .i64 g, .int .i64 st, .int .i64 ba, .string bo] 23)) v → C4 w.heap.size g st ba bo v) := Lib.hid fun v hv => C4.of (blk_new w _) hv
    have HEM := Lib.hid hem
    have HSH := Lib.hid hsh
    clear hem hsh
    go_enter Try.func5, Try.ntmps5
    go_wp2_with fail
    refine (bfixed_yes _).mono ?_
    rintro r w1 ⟨rfl, hx1⟩
    have HX1 := Lib.hid hx1
    clear hx1
    obtain ⟨a0, a1, a2, a3⟩ := HA.out _ HX1.out
    go_wp2_with fail
    refine (bfixed_yes _).mono ?_
    rintro r w3 ⟨rfl, hx3⟩
    go_wp2
    go_ret
    exact ⟨rfl, ((Ext.refl w).alloc _).trans (HX1.out.trans hx3)⟩
  · skip
    have HA : Hid (∀ v, Ext (w.alloc (.cells #[.int .i64 g, .int .i64 st, .int .i64 ba, .string bo] 23)) v → C4 w.heap.size g st ba bo v) := Lib.hid fun v hv => C4.of (blk_new w _) hv
    have HEM := Lib.hid hem
    have HSH := Lib.hid hsh
    clear hem hsh
    go_enter Try.func5, Try.ntmps5
    go_wp2_with fail
    refine (bfixed_yes _).mono ?_
    rintro r w1 ⟨rfl, hx1⟩
    have HX1 := Lib.hid hx1
    clear hx1
    obtain ⟨a0, a1, a2, a3⟩ := HA.out _ HX1.out
    go_wp2_with fail
    refine (short_eq' _ m _ HSH.out _ (HEM.out.ext (((Ext.refl w).alloc _).trans HX1.out)) (by omega)).mono ?_
    rintro r w2 ⟨rfl, rfl⟩
    go_wp2_with fail
    refine (bfixed_yes _).mono ?_
    rintro r w3 ⟨rfl, hx3⟩
    go_wp2
    go_ret
    exact ⟨rfl, ((Ext.refl w).alloc _).trans (HX1.out.trans hx3)⟩
set_option maxRecDepth 100000 in
set_option maxHeartbeats 1000000 in
theorem btimes_bad (g st ba : Int) (bo : ByteArray) (Am : Option Addr) (cm : Nat) (m : List Ev) (w : World) (hbo : bo.size ≤ 3000) (hml : m.length ≤ 60) (hem : EvsAt w (.slice Am m.length cm) m) (hsh : Ev.short m = true) (pe qe : Nat) (hqe : qe ≠ 0) (he : Bt.events ⟨g, st, ba, bo⟩ = ([], [], pe, qe)) (hpe : pe ≤ bo.size) :
    Calls Try.prog 5 #[.agg #[.int .i64 g, .int .i64 st, .int .i64 ba, .string bo], .slice Am m.length cm] w fun e w' => e = .returned (.bool true) ∧ Ext w w' := by
  have HE := Lib.hid he
  have hq1 : ((qe : Int) == 0) = false := by simpa using hqe
  have hq2 : ((qe : Int) != 0) = true := by simpa using hqe
  clear he hqe
  have HA : Hid (∀ v, Ext (w.alloc (.cells #[.int .i64 g, .int .i64 st, .int .i64 ba, .string bo] 23)) v → C4 w.heap.size g st ba bo v) := Lib.hid fun v hv => C4.of (blk_new w _) hv
  have HEM := Lib.hid hem
  have HSH := Lib.hid hsh
  clear hem hsh
  go_enter Try.func5, Try.ntmps5
  go_wp2_with fail
  refine (bfixed_yes _).mono ?_
  rintro r w1 ⟨rfl, hx1⟩
  have HX1 := Lib.hid hx1
  clear hx1
  obtain ⟨a0, a1, a2, a3⟩ := HA.out _ HX1.out
  go_wp2_with fail
  refine (short_eq' _ m _ HSH.out _ (HEM.out.ext (((Ext.refl w).alloc _).trans HX1.out)) (by omega)).mono ?_
  rintro r w2 ⟨rfl, rfl⟩
  go_wp2_with fail
  refine (bevents_eq g st ba bo [] [] pe qe HE.out _).mono ?_
  rintro r w3 ⟨A, c, A', c', rfl, hev, htv, hx3⟩
  have HX3 := Lib.hid (HX1.out.trans hx3)
  clear a0 a1 a2 a3 hev htv hx3
  obtain ⟨a0, a1, a2, a3⟩ := HA.out _ HX3.out
  go_wp2
  go_ret
  exact ⟨by simp, ((Ext.refl w).alloc _).trans HX3.out⟩
theorem ints_cut {w : World} {A : Option Addr} {c : Nat} {us : List Int} {n : Nat} (h : IntsAt w (.slice A us.length c) us) (hn : n ≤ us.length) : IntsAt w (.slice A n c) (us.take n) := by
  obtain ⟨A', c', hv, hA⟩ := h
  simp only [Value.slice.injEq, true_and] at hv
  obtain ⟨rfl, rfl⟩ := hv
  have hl : (us.take n).length = n := by rw [List.length_take]; omega
  refine ⟨A, c, by rw [hl], fun h0 => ?_⟩
  obtain ⟨b, o, rfl, hb, hc⟩ := hA (by omega)
  refine ⟨b, o, rfl, hb, fun j x hj => hc j x ?_⟩
  rw [List.getElem?_take] at hj
  split at hj
  · exact hj
  · cases hj
def BC6 (w8 : World) (g st ba : Int) (bt : ByteArray) (_ : Value) (v : World) : Prop := v.heap[w8.heap.size]? = some (.cells #[.int .i64 g, .int .i64 st, .int .i64 ba, .string bt] 23 (0, 0)) ∧ Ext w8 v
theorem rbytes_T (W : World) (u : Value) (m : List Ev) (s : ByteArray) (hs : Ev.encs m = s) (v : World) (h : EvsAt v u m) (hz : ∀ e ∈ m, e.args.length ≤ 1000 ∧ e.text.size ≤ 1000000) (hl : m.length ≤ 100000) (hx : Ext W v) : Calls Try.prog 20 #[u] v fun e w' => ∃ x, e = .returned x ∧ BStr W s x w' :=
  (rbytes_eq u m s hs v h hz hl).mono fun _ _ ⟨he, hx'⟩ => ⟨_, he, rfl, hx.trans hx'⟩
set_option maxRecDepth 100000 in
set_option maxHeartbeats 4000000 in
theorem btimes_ok (g st ba : Int) (bo : ByteArray) (Am : Option Addr) (cm : Nat) (m : List Ev) (w : World) (hbo : bo.size ≤ 3000) (hml : m.length ≤ 60) (hem : EvsAt w (.slice Am m.length cm) m) (hsh : Ev.short m = true) (l : List Ev) (ts : List Int) (pe qe : Nat) (hqe : qe = 0) (he : Bt.events ⟨g, st, ba, bo⟩ = (l, ts, pe, qe)) :
    Calls Try.prog 5 #[.agg #[.int .i64 g, .int .i64 st, .int .i64 ba, .string bo], .slice Am m.length cm] w fun e w' => e = .returned (.bool true) ∧ Ext w w' := by
  subst hqe
  have HE := Lib.hid he
  have HG := Lib.hid (Bt.good he)
  have hll := (Bt.events_small he).1
  have HSM : Hid (∀ e ∈ l, e.args.length ≤ 1000 ∧ e.text.size ≤ 1000000) := Lib.hid fun e hh => by have := (Bt.events_small he).2.2 e hh; omega
  have HTL : Hid (ts.length = l.length) := Lib.hid (Bt.events_small he).2.1
  have HALL := Lib.hid (Ev.short_all hsh).1
  clear he
  have HA : Hid (∀ v, Ext (w.alloc (.cells #[.int .i64 g, .int .i64 st, .int .i64 ba, .string bo] 23)) v → C4 w.heap.size g st ba bo v) := Lib.hid fun v hv => C4.of (blk_new w _) hv
  have HEM := Lib.hid hem
  have HSH := Lib.hid hsh
  clear hem hsh
  go_enter Try.func5, Try.ntmps5
  go_wp2_with fail
  refine (bfixed_yes _).mono ?_
  rintro r w1 ⟨rfl, hx1⟩
  have HX1 := Lib.hid hx1
  clear hx1
  obtain ⟨a0, a1, a2, a3⟩ := HA.out _ HX1.out
  go_wp2_with fail
  refine (short_eq' _ m _ HSH.out _ (HEM.out.ext (((Ext.refl w).alloc _).trans HX1.out)) (by omega)).mono ?_
  rintro r w2 ⟨rfl, rfl⟩
  go_wp2_with fail
  refine (bevents_cap g st ba bo l ts pe 0 HE.out _).mono ?_
  rintro r w3 ⟨A, c, A', c', rfl, hev, htv, hx3, _⟩
  have HX3 := Lib.hid (HX1.out.trans hx3)
  have HEV := Lib.hid hev
  have HTV := Lib.hid htv
  have HEM3 : Hid (EvsAt w3 (.slice Am m.length cm) m) := Lib.hid (HEM.out.ext (((Ext.refl w).alloc _).trans (HX1.out.trans hx3)))
  have HA3 : Hid (∀ v, Ext w3 v → C4 w.heap.size g st ba bo v) := Lib.hid fun v hv => HA.out v ((HX1.out.trans hx3).trans hv)
  have HW3 : Hid (Ext w w3) := Lib.hid (((Ext.refl w).alloc _).trans HX3.out)
  clear a0 a1 a2 a3 hev htv hx3 HX3 HX1 HA
  obtain ⟨a0, a1, a2, a3⟩ := HA3.out _ (Ext.refl _)
  have htl2 : ts.length ≤ 3001 := by have := HTL.out; omega
  go_wp2
  clear a0 a1 a2 a3
  go_loopw [9, 10] (fun lv i wr => ∃ j : Nat, j ≤ l.length ∧ lv = .int .i64 (ba + Bt.sum (l.take j)) ∧ i = .int .i64 j ∧ Ext w3 wr) (fun _ i _ => l.length - (intOf i).toNat)
  case atStart => exact ⟨0, by omega, by simp [Bt.sum], rfl, Ext.refl _⟩
  case round =>
    obtain ⟨j, hj, rfl, rfl, hx⟩ := hrel
    have HX := Lib.hid hx
    clear hx
    by_cases hlt : j < l.length
    · have hlt2 : j < ts.length := by have := HTL.out; omega
      have hget : ts[j]? = some (ba + Bt.sum (l.take j) + l[j].dt) := by
        have := Bt.scan_get ba l j hlt
        rw [← HG.out.times] at this; exact this
      have HT : Hid (ba + Bt.sum (l.take (j + 1)) = ba + Bt.sum (l.take j) + l[j].dt) := Lib.hid (by
        rw [List.take_succ_eq_append_getElem hlt]
        unfold Bt.sum
        rw [List.map_append, List.sum_append]
        simp
        omega)
      have hd := Ev.ok_wi.1 (Ev.may_dt (HG.out.evs l[j] (List.getElem_mem hlt)).1)
      unfold Wi.ok at hd
      obtain ⟨A4, c4, hAA, hII⟩ := HTV.out.ext HX.out
      obtain ⟨b2, o2, hbo2, hb2, hc2⟩ := hII (by omega)
      simp only [Value.slice.injEq, true_and] at hAA
      obtain ⟨rfl, rfl⟩ := hAA
      subst hbo2
      have hcell2 := hc2 j _ hget
      obtain ⟨A5, c5, hAA, hEE⟩ := HEV.out.ext HX.out
      obtain ⟨b, o, hbo1, hb, hc⟩ := hEE (by omega)
      simp only [Value.slice.injEq, true_and] at hAA
      obtain ⟨rfl, rfl⟩ := hAA
      subst hbo1
      obtain ⟨_, _, _, hcell, _, _, _⟩ := hc j _ (List.getElem?_eq_getElem hlt)
      clear hc hc2 hII hEE hget
      generalize l[j].dt = d at *
      generalize ba + Bt.sum (l.take j) = S at *
      have s1 : IntKind.i64.wrap (S + d - S) = d := by rw [show S + d - S = d by omega]; exact IntWalk.i64_in _ (by omega)
      have HC1 := Lib.hid hcell
      have HC2 := Lib.hid hcell2
      have HB1 := Lib.hid hb
      have HB2 := Lib.hid hb2
      clear hcell hcell2 hb hb2 hd
      go_wp2
      refine region_all (fun v => Ext wr v) (by kernel_rfl) (Ext.refl _).drew ?_
      have m0 : ∀ v, Ext wr v → v.cell? ⟨b, o + j * 4 + 1, none⟩ = some (.int .i64 d) := fun v hv => by rw [Below.cell hv HB1.out]; exact HC1.out
      have m1 : ∀ v, Ext wr v → v.cell? ⟨b2, o2 + j, none⟩ = some (.int .i64 (S + d)) := fun v hv => by rw [Below.cell hv HB2.out]; exact HC2.out
      have i0 : (0 : Int) ≤ (j : Int) := by omega
      have i1 : (j : Int) < (l.length : Int) := by omega
      have i2 : (j : Int) < (ts.length : Int) := by omega
      have hnn : (d != d) = false := by simp
      refine all_take (i := 0) (v := ?_) rfl (by kernel_rfl) (by kernel_rfl) (by kernel_rfl) (fun _ _ _ h => h) (Tame.yes (by kernel_rfl) fun w hS => ?_) ?_
      rotate_left 1
      · skip
        go_simp
        try simp only [s1, hnn]
        refine gives_mk ?_ hS
        with_reducible rfl
      refine all_take (i := 1) (v := ?_) rfl (by kernel_rfl) (by kernel_rfl) (by kernel_rfl) (fun _ _ _ h => h) (Tame.yes (by kernel_rfl) fun w hS => ?_) ?_
      rotate_left 1
      · skip
        go_simp
        try simp only [s1, hnn]
        refine gives_mk ?_ hS
        with_reducible rfl
      refine all_take (i := 2) (v := ?_) rfl (by kernel_rfl) (by kernel_rfl) (by kernel_rfl) (fun _ _ _ h => h) (Tame.yes (by kernel_rfl) fun w hS => ?_) ?_
      rotate_left 1
      · skip
        go_simp
        try simp only [s1, hnn]
        refine gives_mk ?_ hS
        with_reducible rfl
      refine all_take (i := 3) (v := ?_) rfl (by kernel_rfl) (by kernel_rfl) (by kernel_rfl) (fun _ _ _ h => h) (Tame.yes (by kernel_rfl) fun w hS => ?_) ?_
      rotate_left 1
      · skip
        go_simp
        try simp only [s1, hnn]
        refine gives_mk ?_ hS
        with_reducible rfl
      refine all_take (i := 4) (v := ?_) rfl (by kernel_rfl) (by kernel_rfl) (by kernel_rfl) (fun _ _ _ h => h) (Tame.yes (by kernel_rfl) fun w hS => ?_) ?_
      rotate_left 1
      · skip
        go_simp
        try simp only [s1, hnn]
        refine gives_mk ?_ hS
        with_reducible rfl
      refine all_take (i := 5) (v := ?_) rfl (by kernel_rfl) (by kernel_rfl) (by kernel_rfl) (fun _ _ _ h => h) (Tame.yes (by kernel_rfl) fun w hS => ?_) ?_
      rotate_left 1
      · skip
        go_simp
        try simp only [s1, hnn]
        refine gives_mk ?_ hS
        with_reducible rfl
      refine all_take (i := 6) (v := ?_) rfl (by kernel_rfl) (by kernel_rfl) (by kernel_rfl) (fun _ _ _ h => h) (Tame.yes (by kernel_rfl) fun w hS => ?_) ?_
      rotate_left 1
      · skip
        go_simp
        try simp only [s1, hnn]
        refine gives_mk ?_ hS
        with_reducible rfl
      refine all_take (i := 7) (v := ?_) rfl (by kernel_rfl) (by kernel_rfl) (by kernel_rfl) (fun _ _ _ h => h) (Tame.yes (by kernel_rfl) fun w hS => ?_) ?_
      rotate_left 1
      · skip
        go_simp
        try simp only [s1, hnn]
        refine gives_mk ?_ hS
        with_reducible rfl
      refine all_take (i := 8) (v := ?_) rfl (by kernel_rfl) (by kernel_rfl) (by kernel_rfl) (fun _ _ _ h => h) (Tame.yes (by kernel_rfl) fun w hS => ?_) ?_
      rotate_left 1
      · skip
        go_simp
        try simp only [s1, hnn]
        refine gives_mk ?_ hS
        with_reducible rfl
      refine all_take (i := 9) (v := ?_) rfl (by kernel_rfl) (by kernel_rfl) (by kernel_rfl) (fun _ _ _ h => h) (Tame.yes (by kernel_rfl) fun w hS => ?_) ?_
      rotate_left 1
      · skip
        go_simp
        try simp only [s1, hnn]
        refine gives_mk ?_ hS
        with_reducible rfl
      refine all_take (i := 10) (v := ?_) rfl (by kernel_rfl) (by kernel_rfl) (by kernel_rfl) (fun _ _ _ h => h) (Tame.yes (by kernel_rfl) fun w hS => ?_) ?_
      rotate_left 1
      · skip
        go_simp
        try simp only [s1, hnn]
        refine gives_mk ?_ hS
        with_reducible rfl
      refine all_take (i := 11) (v := ?_) rfl (by kernel_rfl) (by kernel_rfl) (by kernel_rfl) (fun _ _ _ h => h) (Tame.yes (by kernel_rfl) fun w hS => ?_) ?_
      rotate_left 1
      · skip
        go_simp
        try simp only [s1, hnn]
        refine gives_mk ?_ hS
        with_reducible rfl
      refine all_done ?_ ?_ _
      · kernel_rfl
      intro w6 hw6
      have HX6 : Hid (Ext w3 w6) := Lib.hid (HX.out.trans hw6)
      have q1 := m1 w6 hw6
      clear m0 m1 i0 i1 i2 s1 hnn hw6
      go_simp
      go_wp2
      go_roundw
      case rel => exact ⟨j + 1, by omega, by rw [HT.out], by go_num, HX6.out⟩
      case measure => simp [intOf]; omega
    · obtain rfl : j = l.length := by omega
      go_wp2
      refine region_all (fun v => Ext wr v) (by kernel_rfl) (Ext.refl _).drew ?_
      have a3 : ∀ v, Ext wr v → v.cell? ⟨w.heap.size, 3, none⟩ = some (.string bo) := fun v hv => (HA3.out v (HX.out.trans hv)).2.2.2
      have hln : ((l.length : Int) != (ts.length : Int)) = false := by have := HTL.out; simp; omega
      have hbb : (bo.toList != bo.toList) = false := by simp
      refine all_take (i := 0) (v := ?_) rfl (by kernel_rfl) (by kernel_rfl) (by kernel_rfl) (fun _ _ _ h => h) (Tame.yes (by kernel_rfl) fun w hS => ?_) ?_
      rotate_left 1
      · skip
        go_simp
        try simp only [hln, hbb]
        refine gives_mk ?_ hS
        with_reducible rfl
      refine all_take (i := 1) (v := ?_) rfl (by kernel_rfl) (by kernel_rfl) (by kernel_rfl) (fun _ _ _ h => h) (Tame.yes (by kernel_rfl) fun w hS => ?_) ?_
      rotate_left 1
      · skip
        go_simp
        try simp only [hln, hbb]
        refine gives_mk ?_ hS
        with_reducible rfl
      refine all_take (i := 2) (v := ?_) rfl (by kernel_rfl) (by kernel_rfl) (by kernel_rfl) (fun _ _ _ h => h) (Tame.yes (by kernel_rfl) fun w hS => ?_) ?_
      rotate_left 1
      · skip
        go_simp
        try simp only [hln, hbb]
        refine gives_mk ?_ hS
        with_reducible rfl
      refine all_take (i := 3) (v := ?_) rfl (by kernel_rfl) (by kernel_rfl) (by kernel_rfl) (fun _ _ _ h => h) (Tame.yes (by kernel_rfl) fun w hS => ?_) ?_
      rotate_left 1
      · skip
        go_simp
        try simp only [hln, hbb]
        refine gives_mk ?_ hS
        with_reducible rfl
      refine all_take (i := 4) (v := ?_) rfl (by kernel_rfl) (by kernel_rfl) (by kernel_rfl) (fun _ _ _ h => h) (Tame.yes (by kernel_rfl) fun w hS => ?_) ?_
      rotate_left 1
      · skip
        go_simp
        try simp only [hln, hbb]
        refine gives_mk ?_ hS
        with_reducible rfl
      refine all_take (i := 5) (v := ?_) rfl (by kernel_rfl) (by kernel_rfl) (by kernel_rfl) (fun _ _ _ h => h) (Tame.yes (by kernel_rfl) fun w hS => ?_) ?_
      rotate_left 1
      · skip
        go_simp
        try simp only [hln, hbb]
        refine gives_mk ?_ hS
        with_reducible rfl
      refine all_take (i := 6) (v := ?_) rfl (by kernel_rfl) (by kernel_rfl) (by kernel_rfl) (fun _ _ _ h => h) (Tame.yes (by kernel_rfl) fun w hS => ?_) ?_
      rotate_left 1
      · skip
        go_simp
        try simp only [hln, hbb]
        refine gives_mk ?_ hS
        with_reducible rfl
      refine all_take (i := 7) (v := .string bo) rfl (by kernel_rfl) (by kernel_rfl) (by kernel_rfl) (fun _ _ _ h => h) (Tame.yes (by kernel_rfl) fun w hS => ?_) ?_
      · go_simp
        refine gives_call ((rbytes_eq _ l bo HG.out.bytes _ ((HEV.out.ext HX.out).ext hS) HSM.out (by omega)).mono ?_)
        exact fun r w2 ⟨he, hx⟩ => ⟨he, hS.trans hx⟩
      refine all_take (i := 8) (v := ?_) rfl (by kernel_rfl) (by kernel_rfl) (by kernel_rfl) (fun _ _ _ h => h) (Tame.yes (by kernel_rfl) fun w hS => ?_) ?_
      rotate_left 1
      · skip
        go_simp
        try simp only [hln, hbb]
        refine gives_mk ?_ hS
        with_reducible rfl
      refine all_take (i := 9) (v := ?_) rfl (by kernel_rfl) (by kernel_rfl) (by kernel_rfl) (fun _ _ _ h => h) (Tame.yes (by kernel_rfl) fun w hS => ?_) ?_
      rotate_left 1
      · skip
        go_simp
        try simp only [hln, hbb]
        refine gives_mk ?_ hS
        with_reducible rfl
      refine all_take (i := 10) (v := ?_) rfl (by kernel_rfl) (by kernel_rfl) (by kernel_rfl) (fun _ _ _ h => h) (Tame.yes (by kernel_rfl) fun w hS => ?_) ?_
      rotate_left 1
      · skip
        go_simp
        try simp only [hln, hbb]
        refine gives_mk ?_ hS
        with_reducible rfl
      refine all_take (i := 11) (v := ?_) rfl (by kernel_rfl) (by kernel_rfl) (by kernel_rfl) (fun _ _ _ h => h) (Tame.yes (by kernel_rfl) fun w hS => ?_) ?_
      rotate_left 1
      · skip
        go_simp
        try simp only [hln, hbb]
        refine gives_mk ?_ hS
        with_reducible rfl
      refine all_done ?_ ?_ _
      · kernel_rfl
      intro w6 hw6
      have HX6 : Hid (Ext w3 w6) := Lib.hid (HX.out.trans hw6)
      clear a3 hln hbb hw6 HX
      go_simp
      go_wp2
      go_loopw [11] (fun i wr => ∃ j : Nat, j ≤ m.length ∧ i = .int .i64 j ∧ (∀ e ∈ m.take j, e.may = true ∧ e.dt ≤ 1000000) ∧ Ext w3 wr) (fun i _ => m.length - (intOf i).toNat)
      case atStart => exact ⟨0, by omega, rfl, by simp, HX6.out⟩
      case round =>
        clear HX6
        obtain ⟨j, hj, rfl, hmay, hx⟩ := hrel
        have HX := Lib.hid hx
        have HMAY := Lib.hid hmay
        clear hx hmay
        by_cases hlt : j < m.length
        · have HT : Hid (m.take (j + 1) = m.take j ++ [m[j]]) := Lib.hid (by rw [List.take_succ_eq_append_getElem hlt])
          obtain ⟨A5, c5, hAA, hEE⟩ := HEM3.out
          obtain ⟨b, o, hbo1, hb, hc⟩ := hEE (by omega)
          simp only [Value.slice.injEq, true_and] at hAA
          obtain ⟨rfl, rfl⟩ := hAA
          subst hbo1
          have HEL : Hid (EvCell w3 b (o + j * 4) m[j]) := Lib.hid (hc j _ (List.getElem?_eq_getElem hlt))
          have HSZ := Lib.hid (HALL.out m[j] (List.getElem_mem hlt))
          clear hc hEE
          generalize m[j] = e at *
          obtain ⟨k', d', xs', t'⟩ := e
          obtain ⟨A2, c2, e0, e1, e2, e3, hi⟩ := HEL.out.ext HX.out hb
          have HI := Lib.hid hi
          have hz1 : xs'.length ≤ 20 := by have := HSZ.out; unfold Ev.short1 at this; simp at this; omega
          simp only at e0 e1 e2 e3
          clear hi
          cases hm : Ev.may ⟨k', d', xs', t'⟩ with
          | false =>
            have HM := Lib.hid hm
            clear hm
            go_wp2_with fail
            refine (rmay_k' k' d' xs' t' false HM.out _ _ _ HI.out (by omega)).mono ?_
            rintro r w4 ⟨rfl, hx4⟩
            go_wp2
            go_ret
            exact ⟨rfl, HW3.out.trans (HX.out.trans hx4)⟩
          | true =>
            have HM := Lib.hid hm
            clear hm
            go_wp2_with fail
            refine (rmay_k' k' d' xs' t' true HM.out _ _ _ HI.out (by omega)).mono ?_
            rintro r w4 ⟨rfl, hx4⟩
            have HX4 := Lib.hid (HX.out.trans hx4)
            clear e0 e1 e2 e3 hx4
            obtain ⟨A2, c2, e0, e1, e2, e3, hi⟩ := HEL.out.ext HX4.out hb
            simp only at e0 e1 e2 e3
            clear hi
            by_cases hd : d' ≤ 1000000
            · go_wp2
              go_roundw
              case rel =>
                refine ⟨j + 1, by omega, by go_num, ?_, HX4.out⟩
                rw [HT.out]
                intro x hx
                rcases List.mem_append.1 hx with hx | hx
                · exact HMAY.out x hx
                · rw [List.mem_singleton.1 hx]; exact ⟨HM.out, hd⟩
              case measure => simp [intOf]; omega
            · have hd' : 1000000 < d' := by omega
              clear hd
              go_wp2
              go_ret
              exact ⟨rfl, HW3.out.trans HX4.out⟩
        · obtain rfl : j = m.length := by omega
          have hmm : ∀ e ∈ m, e.may = true := fun e he => by have := HMAY.out; rw [List.take_length] at this; exact (this e he).1
          have HMORE := Lib.hid (Bt.more HE.out hmm HALL.out hml hbo)
          have HZM : Hid (∀ e ∈ m, e.args.length ≤ 1000 ∧ e.text.size ≤ 1000000) := Lib.hid fun e he => by
            have := HALL.out e he; unfold Ev.short1 at this; simp at this; omega
          have hes : (Ev.encs m).size ≤ 30000 := by
            have h1 := Ev.catL_le m fun e he => ⟨hmm e he, HALL.out e he⟩
            have h2 : (Ev.encs m).size = (Ev.catL m).length := by rw [← Ev.encs_cat m hmm]; simp
            omega
          clear hmm HMAY
          obtain ⟨em, hhm⟩ : ∃ b, Ev.encs m = b := ⟨_, rfl⟩
          have HHM := Lib.hid hhm
          rw [hhm] at HMORE hes
          clear hhm
          obtain ⟨bt, hbt⟩ : ∃ b, bo ++ em = b := ⟨_, rfl⟩
          rw [hbt] at HMORE
          have HBT := Lib.hid hbt
          clear hbt
          obtain ⟨a0, a1, a2, a3⟩ := HA3.out _ HX.out
          go_wp2
          clear a0 a1 a2 a3
          have HW8 : Hid (wr.alloc (.cells #[.int .i64 g, .int .i64 st, .int .i64 ba, .string bo] 23) = wr.alloc (.cells #[.int .i64 g, .int .i64 st, .int .i64 ba, .string bo] 23)) := Lib.hid rfl
          refine region_g 6 (fun v => Ext (wr.alloc (.cells #[.int .i64 g, .int .i64 st, .int .i64 ba, .string bo] 23)) v) (fun v => Ext (wr.alloc (.cells #[.int .i64 g, .int .i64 st, .int .i64 ba, .string bo] 23)) v) (by kernel_rfl) (Ext.refl _).drew ?_
          have HG' : ∀ (l : Array Bool) v, Ext (wr.alloc (.cells #[.int .i64 g, .int .i64 st, .int .i64 ba, .string bo] 23)) v → l.getD 6 false = false → Ext (wr.alloc (.cells #[.int .i64 g, .int .i64 st, .int .i64 ba, .string bo] 23)) v := fun _ _ h _ => h
          have HGG := Lib.hid HG.out
          clear HG
          have HG := HG'
          clear HG'
          have K3 : ∀ v, Ext (wr.alloc (.cells #[.int .i64 g, .int .i64 st, .int .i64 ba, .string bo] 23)) v → v.cell? ⟨w.heap.size, 3, none⟩ = some (.string bo) := fun v hv => (HA3.out v ((HX.out.alloc _).trans hv)).2.2.2
          have h99 : (9223372036854775807 < bo.size + em.size) = False := by simp; omega
          have hbt := HBT.out
          refine g_take (HG _) (i := 0) (v := ?_) rfl (by kernel_rfl) (by kernel_rfl) (by kernel_rfl) (by kernel_rfl) (by kernel_rfl) (fun _ _ _ h => h) (Still.yes (by kernel_rfl) fun w hS => ?_) ?_
          rotate_left 1
          · skip
            go_simp
            refine gives_mk ?_ rfl
            with_reducible rfl
          refine g_take (HG _) (i := 1) (v := ?_) rfl (by kernel_rfl) (by kernel_rfl) (by kernel_rfl) (by kernel_rfl) (by kernel_rfl) (fun _ _ _ h => h) (Still.yes (by kernel_rfl) fun w hS => ?_) ?_
          rotate_left 1
          · skip
            go_simp
            refine gives_mk ?_ rfl
            with_reducible rfl
          refine g_take (HG _) (i := 2) (v := ?_) rfl (by kernel_rfl) (by kernel_rfl) (by kernel_rfl) (by kernel_rfl) (by kernel_rfl) (fun _ _ _ h => h) (Still.yes (by kernel_rfl) fun w hS => ?_) ?_
          rotate_left 1
          · skip
            go_simp
            refine gives_mk ?_ rfl
            with_reducible rfl
          refine g_turn (BStr (wr.alloc (.cells #[.int .i64 g, .int .i64 st, .int .i64 ba, .string bo] 23)) em) (k := 3) (by kernel_rfl) (fun _ _ h _ => h.2) (fun v hv => ?_)
          refine at_call (S := fun _ => True) rfl (by kernel_rfl) (by go_simp; (try exact ⟨rfl, rfl⟩)) (rbytes_T _ _ m em HHM.out v (HEM3.out.ext ((HX.out.alloc _).trans hv)) HZM.out (by omega) hv) ?_
          rintro u ⟨_, rfl, _⟩
          replace HG : ∀ (l : Array Bool) v, BStr (wr.alloc (.cells #[.int .i64 g, .int .i64 st, .int .i64 ba, .string bo] 23)) em (.string em) v → l.getD 6 false = false → Ext (wr.alloc (.cells #[.int .i64 g, .int .i64 st, .int .i64 ba, .string bo] 23)) v := fun _ _ h _ => h.2
          refine g_free (HG _) (i := 4) (v := ?_) rfl (by kernel_rfl) (by kernel_rfl) (by kernel_rfl) (by kernel_rfl) (fun _ _ _ h => h) (Still.yes (by kernel_rfl) fun w hS => ?_) ?_
          rotate_left 1
          · skip
            go_simp
            try simp only [h99, if_false, hbt]
            refine gives_mk ?_ rfl
            with_reducible rfl
          refine g_free (HG _) (i := 5) (v := ?_) rfl (by kernel_rfl) (by kernel_rfl) (by kernel_rfl) (by kernel_rfl) (fun _ _ _ h => h) (Still.yes (by kernel_rfl) fun w hS => ?_) ?_
          rotate_left 1
          · skip
            go_simp
            refine gives_mk ?_ rfl
            with_reducible rfl
          refine g_turn (BC6 wr g st ba bt) (k := 6) (by kernel_rfl) (fun _ _ _ hz => absurd hz (by decide +kernel)) (fun v hv => ?_)
          refine at_skip rfl (by kernel_rfl) ?_ ?_
          · have hzb := hv.2.blk (blk_new wr (.cells #[.int .i64 g, .int .i64 st, .int .i64 ba, .string bo] 23))
            have z3 := blk_cell hzb 3 (.string bo) rfl
            have y3 := frozen_of_row _ _ 3 _ _ hzb
            have HZB := Lib.hid hzb
            have HV := Lib.hid hv.2
            clear hzb hv K3 h99 hbt HG
            go_simp
            first | exact ⟨blk_set HZB.out 3 (.string bt), (((Ext.refl wr).alloc _).trans HV.out).setCell (Nat.le_refl _) _⟩ | exact ⟨_, rfl, blk_set HZB.out 3 (.string bt), (((Ext.refl wr).alloc _).trans HV.out).setCell (Nat.le_refl _) _⟩
          refine g_done (by kernel_rfl) ?_ _
          intro w8 hw8
          have HB8 := Lib.hid hw8.1
          have HX8 := Lib.hid hw8.2
          clear K3 h99 hbt HG hw8
          go_simp
          obtain ⟨b0, b1, b2, b3⟩ := C4.of HB8.out (Ext.refl w8)
          rcases HMORE.out with ⟨us, hus, hul, hut⟩ | ⟨p, hp⟩
          · have HUS := Lib.hid hus
            have HUT := Lib.hid hut
            have HUL := Lib.hid hul
            clear hus hut hul HMORE
            go_wp2_with fail
            refine (bevents_cap g st ba bt (l ++ m) us 0 0 HUS.out _).mono ?_
            rintro r w9 ⟨A9, c9, A9', c9', rfl, hev, htv, hx9, hcap⟩
            have HEV9 := Lib.hid hev
            have HTV9 := Lib.hid htv
            have HX9 : Hid (Ext w3 w9) := Lib.hid (HX.out.trans (HX8.out.trans hx9))
            have HCAP := Lib.hid hcap
            clear b0 b1 b2 b3 hev htv hx9 hcap
            have hN : OwnB (w9.alloc (.cells #[] 41)) w9.heap.size (.slice (some ⟨w9.heap.size, 0, none⟩) 0 0) [] :=
              ⟨[], World.ownsRow_made (base := w9.heap.size) (e := 41) (size := 4) w9 #[] 0 (Nat.le_refl _) (by decide) rfl, rfl, fun j e h => by simp at h⟩
            obtain ⟨u1, w10, hr1, hu1, hx10⟩ := OwnB.append 28 hN ((Ext.refl w9).alloc _) (HEV.out.ext HX9.out) (by simp; omega)
            obtain ⟨u2, w11, hr2, hu2, hx11⟩ := OwnB.append 28 hu1 hx10 (HEM3.out.ext HX9.out) (by simp; omega)
            have HU2 := Lib.hid hu2.evs
            have HX11 := Lib.hid hx11
            have HR1 := Lib.hid hr1
            have HR2 := Lib.hid hr2
            clear hN hr1 hr2 hu1 hu2 hx10 hx11
            simp only [List.nil_append] at HU2
            have hlen : ((us.length : Int) == (ts.length : Int) + (m.length : Int)) = true := by have := HUL.out; simp; omega
            have hr1 := HR1.out
            have hr2 := HR2.out
            clear HR1 HR2
            go_wp2_with (at_builtin; generalize hgoal : wpList _ _ _ _ _ _ = G)
            subst hgoal
            refine wpList_append_run (v := .slice (some ⟨w9.heap.size, 0, none⟩) 0 0) (xv := .slice A l.length c) ?hw _ _ 28 rfl rfl rfl hr1 ?_
            case hw => kernel_rfl
            clear hr1
            go_wp2_with (at_builtin; generalize hgoal : wpList _ _ _ _ _ _ = G)
            subst hgoal
            refine wpList_append_run (v := u1) (xv := .slice Am m.length cm) ?hw _ _ 28 rfl rfl rfl hr2 ?_
            case hw => kernel_rfl
            clear hr2
            obtain ⟨A11, c11, hu2f, _⟩ := HU2.out
            rw [List.length_append] at hu2f
            subst hu2f
            have HEV11 : Hid (EvsAt w11 (.slice A9 (l.length + m.length) c9) (l ++ m)) := Lib.hid (by
              have h := HEV9.out.ext HX11.out
              rwa [List.length_append] at h)
            have HZL : Hid (∀ e ∈ l ++ m, e.args.length ≤ 1000) := Lib.hid fun e he => by
              rcases List.mem_append.1 he with he | he
              · exact (HSM.out e he).1
              · exact (HZM.out e he).1
            go_wp2_with fail
            refine (rall_same _ _ (l ++ m) _ HEV11.out HU2.out HZL.out (by simp; omega)).mono ?_
            rintro r w12 ⟨rfl, hx12⟩
            have HX12 : Hid (Ext w9 w12) := Lib.hid (HX11.out.trans hx12)
            have HT12 : Hid (IntsAt w12 (.slice A' ts.length c') ts) := Lib.hid (HTV.out.ext (HX9.out.trans HX12.out))
            clear hx12
            rcases HCAP.out with hcp | ⟨g9, n9, cc9, hcp, hle9⟩
            · simp only [Value.slice.injEq] at hcp
              obtain ⟨rfl, hu0, rfl⟩ := hcp
              obtain rfl : us = [] := List.eq_nil_of_length_eq_zero hu0
              obtain rfl : ts = [] := List.eq_nil_of_length_eq_zero (by have := HUL.out; simp at this; omega)
              go_wp2_with fail
              refine (rints_eq _ _ [] [] true rfl _ (ints_nil' _) HT12.out (by simp)).mono ?_
              rintro r w13 ⟨rfl, hx13⟩
              go_wp2
              go_ret
              exact ⟨rfl, HW3.out.trans (HX9.out.trans (HX12.out.trans hx13))⟩
            · simp only [Value.slice.injEq] at hcp
              obtain ⟨rfl, rfl, rfl⟩ := hcp
              have hle8 : ts.length ≤ us.length := by have := HUL.out; omega
              have HC12 : Hid (IntsAt w12 (.slice (some ⟨g9, 0, none⟩) ts.length c9') ts) := Lib.hid (by
                have h := ints_cut (HTV9.out.ext HX12.out) hle8
                rwa [HUT.out] at h)
              have s0 : (0 : Int) ≤ (ts.length : Int) := by omega
              have s1 : (ts.length : Int) ≤ (c9' : Int) := by omega
              go_wp2_with fail
              refine (rints_eq _ _ ts ts true (by simp) _ HC12.out HT12.out (by omega)).mono ?_
              rintro r w13 ⟨rfl, hx13⟩
              go_wp2
              go_ret
              exact ⟨rfl, HW3.out.trans (HX9.out.trans (HX12.out.trans hx13))⟩
          · have HP := Lib.hid hp
            clear hp HMORE
            go_wp2_with fail
            refine (bevents_cap g st ba bt [] [] p 11 HP.out _).mono ?_
            rintro r w9 ⟨A9, c9, A9', c9', rfl, hev, htv, hx9, _⟩
            clear hev htv
            go_wp2
            go_ret
            exact ⟨rfl, HW3.out.trans (HX.out.trans (HX8.out.trans hx9))⟩
theorem walk_BatchTimes (b : Bt) (v : Value) (m : List Ev) (w : World) (hb : BtIn b) (h : EvsAt w v m) (hl : m.length ≤ maxLen) (_ : ∀ e ∈ m, EvIn e) :
    Calls Try.prog 5 #[b.val, v] w fun e w' => e = .returned (.bool true) ∧ Ext w w' := by
  obtain ⟨g, st, ba, bo⟩ := b
  have h0 := h
  obtain ⟨Am, cm, rfl, _⟩ := h0
  by_cases h1 : bo.size ≤ 3000
  · cases hsh : Ev.short m with
    | false => exact btimes_out g st ba bo Am cm m w hb.1 hl h _ hsh (.inr ⟨h1, rfl⟩)
    | true =>
      have h60 := (Ev.short_all hsh).2
      rcases he : Bt.events ⟨g, st, ba, bo⟩ with ⟨l, ts, pe, qe⟩
      by_cases hq : qe = 0
      · exact btimes_ok g st ba bo Am cm m w h1 h60 h hsh l ts pe qe hq he
      · obtain ⟨rfl, rfl, hp⟩ := Bt.bad he hq
        exact btimes_bad g st ba bo Am cm m w h1 h60 h hsh pe qe hq he hp
  · exact btimes_out g st ba bo Am cm m w hb.1 hl h _ rfl (.inl (by omega))

end Go.Proofs.Ytlbhpgieehallaa
