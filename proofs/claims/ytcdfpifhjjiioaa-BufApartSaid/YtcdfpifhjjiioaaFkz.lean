/-
  Several texts in one: Fjp, Fk.
-/
import Derived.Test.YtcdfpifhjjiioaaFi
import Derived.Test.YtcdfpifhjjiioaaEq
set_option linter.unusedVariables false
set_option linter.unusedSimpArgs false
namespace Go.Proofs.Ytcdfpifhjjiioaa
open Go.RowKit

theorem Bu.later_may {d : Int} (h : Ev.ok d = true) : Ev.may ⟨8, d, [], ⟨#[]⟩⟩ = true := by
  rw [Ev.may_eq2 (e := ⟨8, d, [], ⟨#[]⟩⟩) h rfl rfl]
  rfl
theorem Bu.enc_pos {e : Ev} (h : e.may = true) : 0 < e.enc.size := by
  rw [Ev.enc_size h]; unfold Ev.encL; simp
theorem Bu.cut (a b : ByteArray) : (a ++ b).extract 0 a.size = a := by
  apply ByteArray.ext
  apply Array.toList_inj.1
  rw [Lib.extract_data]
  simp
/-- What is put behind the last one, or first. -/
theorem Bu.later_put (m ba la : Int) (bo : ByteArray) (t : Int) (h1 : bo.size ≤ 3000) (h0 : 0 ≤ t) (h2 : t < 4611686018427387904) (hl : 0 ≤ la) :
    (¬ bo.size = 0 → la ≤ t → ∃ bq : ByteArray, Bu.put ⟨m, ba, la, bo⟩ t ⟨8, 7, [], ⟨#[]⟩⟩ = (⟨m, ba, t, bq⟩, true) ∧ bo.size < bq.size ∧ bq.size ≤ 100000 ∧ bq.extract 0 bo.size = bo) ∧
    (bo.size = 0 → ∃ bq : ByteArray, Bu.put ⟨m, ba, la, bo⟩ t ⟨8, 7, [], ⟨#[]⟩⟩ = (⟨m, t, t, bq⟩, true) ∧ bo.size < bq.size ∧ bq.size ≤ 100000 ∧ bq.extract 0 bo.size = bo) := by
  have hok : Ev.ok t = true := Ev.ok_wi.2 (by unfold Wi.ok; omega)
  have key : ∀ d, Ev.ok d = true → bo.size < (bo ++ Ev.enc ⟨8, d, [], ⟨#[]⟩⟩).size ∧ (bo ++ Ev.enc ⟨8, d, [], ⟨#[]⟩⟩).size ≤ 100000 ∧ (bo ++ Ev.enc ⟨8, d, [], ⟨#[]⟩⟩).extract 0 bo.size = bo := fun d hd => by
    have hm := Bu.later_may hd
    have h3 := Bu.enc_pos hm
    have h4 := Ev.encL_le hm (show (0 : Nat) < Va.most by decide)
    rw [← Ev.enc_size hm] at h4
    have h5 : (⟨8, d, [], ⟨#[]⟩⟩ : Ev).text.size = 0 := rfl
    have h6 : (⟨8, d, [], ⟨#[]⟩⟩ : Ev).args.length = 0 := rfl
    rw [ByteArray.size_append]
    exact ⟨by omega, by omega, Bu.cut _ _⟩
  refine ⟨fun hb hle => ?_, fun hb => ?_⟩
  · have hw : IntKind.i64.wrap (t - la) = t - la := IntWalk.i64_in _ (by omega)
    have hd : Ev.ok (t - la) = true := Ev.ok_wi.2 (by unfold Wi.ok; omega)
    have e := Bu.put_more (b := ⟨m, ba, la, bo⟩) (t := t) (e := ⟨8, 7, [], ⟨#[]⟩⟩) hb hok hle
    simp only [hw, Bu.later_may hd, if_true] at e
    exact ⟨_, e, key _ hd⟩
  · have hd : Ev.ok 0 = true := by decide
    have e := Bu.put_empty (b := ⟨m, ba, la, bo⟩) (t := t) (e := ⟨8, 7, [], ⟨#[]⟩⟩) hb hok
    simp only [Bu.later_may hd, if_true] at e
    exact ⟨_, e, key _ hd⟩
theorem Bu.first {t : Int} {k d : Int} {xs : List Int} {tx : ByteArray} {c : Bu} (h : Bu.put ⟨1, 0, 0, ⟨#[]⟩⟩ t ⟨k, d, xs, tx⟩ = (c, true)) : Ev.ok t = true ∧ Ev.may ⟨k, 0, xs, tx⟩ = true ∧ c = ⟨1, t, t, ⟨#[]⟩ ++ Ev.enc ⟨k, 0, xs, tx⟩⟩ := by
  cases ht : Ev.ok t with
  | false => rw [Bu.put_no ht] at h; simp at h
  | true =>
    rw [Bu.put_empty rfl ht] at h
    simp only at h
    by_cases hm : Ev.may ⟨k, 0, xs, tx⟩ = true
    · rw [if_pos hm] at h
      simp only [Prod.mk.injEq, and_true] at h
      exact ⟨rfl, hm, h.symm⟩
    · rw [if_neg hm] at h; simp at h
theorem Bu.second {t : Int} {k d : Int} {xs : List Int} {tx bo : ByteArray} {c : Bu} (hb : ¬ bo.size = 0) (ht : Ev.ok t = true) (h : Bu.put ⟨1, t, t, bo⟩ t ⟨k, d, xs, tx⟩ = (c, true)) : Ev.may ⟨k, 0, xs, tx⟩ = true ∧ c = ⟨1, t, t, bo ++ Ev.enc ⟨k, 0, xs, tx⟩⟩ := by
  have hw : IntKind.i64.wrap (t - t) = 0 := by rw [Int.sub_self]; rfl
  rw [Bu.put_more hb ht (Int.le_refl _)] at h
  simp only [hw] at h
  by_cases hm : Ev.may ⟨k, 0, xs, tx⟩ = true
  · rw [if_pos hm] at h
    simp only [Prod.mk.injEq, and_true] at h
    exact ⟨hm, h.symm⟩
  · rw [if_neg hm] at h; simp at h
theorem Bu.first_mk {t : Int} {k d : Int} {xs : List Int} {tx : ByteArray} (ht : Ev.ok t = true) (hm : Ev.may ⟨k, 0, xs, tx⟩ = true) : Bu.put ⟨1, 0, 0, ⟨#[]⟩⟩ t ⟨k, d, xs, tx⟩ = (⟨1, t, t, ⟨#[]⟩ ++ Ev.enc ⟨k, 0, xs, tx⟩⟩, true) := by
  rw [Bu.put_empty rfl ht]
  simp only
  rw [if_pos hm]
theorem Bu.second_mk {t : Int} {k d : Int} {xs : List Int} {tx bo : ByteArray} (hb : ¬ bo.size = 0) (ht : Ev.ok t = true) (hm : Ev.may ⟨k, 0, xs, tx⟩ = true) : Bu.put ⟨1, t, t, bo⟩ t ⟨k, d, xs, tx⟩ = (⟨1, t, t, bo ++ Ev.enc ⟨k, 0, xs, tx⟩⟩, true) := by
  have hw : IntKind.i64.wrap (t - t) = 0 := by rw [Int.sub_self]; rfl
  rw [Bu.put_more hb ht (Int.le_refl _)]
  simp only [hw]
  rw [if_pos hm]
theorem Bu.empty_size (e : ByteArray) : ((⟨#[]⟩ : ByteArray) ++ e).size = e.size := by rw [ByteArray.size_append]; exact Nat.zero_add _
theorem Ev.enc_short {k d : Int} {xs : List Int} {tx : ByteArray} (hx : xs.length ≤ 20) (ht : tx.size ≤ 300) : (Ev.enc ⟨k, d, xs, tx⟩).size ≤ 1000 := by
  cases hm : Ev.may ⟨k, d, xs, tx⟩ with
  | false => unfold Ev.enc; rw [hm]; exact Nat.zero_le _
  | true =>
    rw [Ev.enc_size hm]
    have := Ev.encL_le hm (by unfold Va.most; simp only; omega)
    simp only at this
    omega
theorem Bu.put_size {b : Bu} {t : Int} {k d : Int} {xs : List Int} {tx : ByteArray} (hx : xs.length ≤ 20) (ht : tx.size ≤ 300) : (Bu.put b t ⟨k, d, xs, tx⟩).1.body.size ≤ b.body.size + 1000 := by
  have h0 : Bu.zero.body.size ≤ b.body.size + 1000 := Nat.zero_le _
  have key : ∀ d', (b.body ++ Ev.enc ⟨k, d', xs, tx⟩).size ≤ b.body.size + 1000 := fun d' => by
    have := @Ev.enc_short k d' xs tx hx ht
    rw [ByteArray.size_append]; omega
  cases ht0 : Ev.ok t with
  | false => rw [Bu.put_no ht0]; exact h0
  | true =>
    by_cases hb : b.body.size = 0
    · rw [Bu.put_empty hb ht0]
      split
      · exact key _
      · exact h0
    · by_cases hl : b.last ≤ t
      · rw [Bu.put_more hb ht0 hl]
        split
        · exact key _
        · exact h0
      · rw [Bu.put_early hb (by omega)]; exact h0
theorem Ev.enc_comm {a b : Ev} (ha : a.may = true) (hb : b.may = true) (ta : a.text.size < Va.most) (tb : b.text.size < Va.most) : (((⟨#[]⟩ : ByteArray) ++ a.enc ++ b.enc).toList == ((⟨#[]⟩ : ByteArray) ++ b.enc ++ a.enc).toList) = Ev.sameB a b := by
  have hd : ∀ x y : Ev, x.may = true → y.may = true → ((⟨#[]⟩ : ByteArray) ++ x.enc ++ y.enc).toList = x.encL ++ y.encL := fun x y hx hy => by
    rw [ByteArray.toList_eq]
    simp [ByteArray.data_append, Ev.enc_data hx, Ev.enc_data hy]
  rw [hd a b ha hb, hd b a hb ha]
  by_cases h : a = b
  · subst h
    rw [(Ev.sameB_iff a a).2 rfl]; exact beq_self_eq_true _
  · have h1 : Ev.sameB a b = false := by
      cases hs : Ev.sameB a b with
      | false => rfl
      | true => exact absurd ((Ev.sameB_iff a b).1 hs) h
    rw [h1, beq_eq_false_iff_ne]
    intro he
    have e1 := Ev.dec_enc ha ta b.encL
    have e2 := Ev.dec_enc hb tb a.encL
    rw [he, e2] at e1
    simp at e1
    exact h e1.1.symm
/-- Either both pairs of calls put both events, or neither does. -/
theorem Bu.apart (t : Int) (k d k' d' : Int) (xs xs' : List Int) (tx tx' : ByteArray) (hx : xs.length ≤ 20) (hx' : xs'.length ≤ 20) (ht : tx.size ≤ 300) (ht' : tx'.size ≤ 300) :
    (∃ (e1 e2 bd bf : ByteArray) (r : Bool), Bu.put ⟨1, 0, 0, ⟨#[]⟩⟩ t ⟨k, d, xs, tx⟩ = (⟨1, t, t, e1⟩, true) ∧ Bu.put ⟨1, t, t, e1⟩ t ⟨k', d', xs', tx'⟩ = (⟨1, t, t, bd⟩, true) ∧ Bu.put ⟨1, 0, 0, ⟨#[]⟩⟩ t ⟨k', d', xs', tx'⟩ = (⟨1, t, t, e2⟩, true) ∧ Bu.put ⟨1, t, t, e2⟩ t ⟨k, d, xs, tx⟩ = (⟨1, t, t, bf⟩, true) ∧
      e1.size ≤ 1000000 ∧ e2.size ≤ 1000000 ∧ Ev.sameB ⟨k, 0, xs, tx⟩ ⟨k', 0, xs', tx'⟩ = r ∧ (bd.toList == bf.toList) = r) ∨
    (∃ (c0 c1 c2 : Int) (c3 : ByteArray) (p : Bool) (d0 d1 d2 : Int) (d3 : ByteArray) (q : Bool) (e0 e1 e2 : Int) (e3 : ByteArray) (r : Bool) (f0 f1 f2 : Int) (f3 : ByteArray) (s : Bool),
      Bu.put ⟨1, 0, 0, ⟨#[]⟩⟩ t ⟨k, d, xs, tx⟩ = (⟨c0, c1, c2, c3⟩, p) ∧ Bu.put ⟨c0, c1, c2, c3⟩ t ⟨k', d', xs', tx'⟩ = (⟨d0, d1, d2, d3⟩, q) ∧ Bu.put ⟨1, 0, 0, ⟨#[]⟩⟩ t ⟨k', d', xs', tx'⟩ = (⟨e0, e1, e2, e3⟩, r) ∧ Bu.put ⟨e0, e1, e2, e3⟩ t ⟨k, d, xs, tx⟩ = (⟨f0, f1, f2, f3⟩, s) ∧
      c3.size ≤ 1000000 ∧ e3.size ≤ 1000000 ∧ (p && q) = false ∧ (r && s) = false) := by
  by_cases hall : Ev.ok t = true ∧ Ev.may ⟨k, 0, xs, tx⟩ = true ∧ Ev.may ⟨k', 0, xs', tx'⟩ = true
  · obtain ⟨h1, h2, h3⟩ := hall
    have z1 := Bu.enc_pos h2
    have z2 := Bu.enc_pos h3
    have y1 := @Ev.enc_short k 0 xs tx hx ht
    have y2 := @Ev.enc_short k' 0 xs' tx' hx' ht'
    exact .inl ⟨_, _, _, _, _, Bu.first_mk h1 h2, Bu.second_mk (by rw [Bu.empty_size]; omega) h1 h3, Bu.first_mk h1 h3, Bu.second_mk (by rw [Bu.empty_size]; omega) h1 h2,
      by rw [Bu.empty_size]; omega, by rw [Bu.empty_size]; omega, rfl, Ev.enc_comm h2 h3 (by unfold Va.most; simp only; omega) (by unfold Va.most; simp only; omega)⟩
  · right
    have key : ∀ (k d k' d' : Int) (xs xs' : List Int) (tx tx' : ByteArray) (c e : Bu) (p q : Bool), Bu.put ⟨1, 0, 0, ⟨#[]⟩⟩ t ⟨k, d, xs, tx⟩ = (c, p) → Bu.put c t ⟨k', d', xs', tx'⟩ = (e, q) → p = true → q = true → Ev.ok t = true ∧ Ev.may ⟨k, 0, xs, tx⟩ = true ∧ Ev.may ⟨k', 0, xs', tx'⟩ = true := fun k d k' d' xs xs' tx tx' c e p q h1 h2 hp hq => by
      subst hp hq
      obtain ⟨a1, a2, rfl⟩ := Bu.first h1
      have z1 := Bu.enc_pos a2
      exact ⟨a1, a2, (Bu.second (by rw [Bu.empty_size]; omega) a1 h2).1⟩
    have s1 := @Bu.put_size ⟨1, 0, 0, ⟨#[]⟩⟩ t k d xs tx hx ht
    have s2 := @Bu.put_size ⟨1, 0, 0, ⟨#[]⟩⟩ t k' d' xs' tx' hx' ht'
    rcases hP : Bu.put ⟨1, 0, 0, ⟨#[]⟩⟩ t ⟨k, d, xs, tx⟩ with ⟨⟨c0, c1, c2, c3⟩, p⟩
    rcases hQ : Bu.put ⟨c0, c1, c2, c3⟩ t ⟨k', d', xs', tx'⟩ with ⟨⟨d0, d1, d2, d3⟩, q⟩
    rcases hR : Bu.put ⟨1, 0, 0, ⟨#[]⟩⟩ t ⟨k', d', xs', tx'⟩ with ⟨⟨e0, e1, e2, e3⟩, r⟩
    rcases hS : Bu.put ⟨e0, e1, e2, e3⟩ t ⟨k, d, xs, tx⟩ with ⟨⟨f0, f1, f2, f3⟩, s⟩
    rw [hP] at s1
    rw [hR] at s2
    have s0 : (⟨#[]⟩ : ByteArray).size = 0 := rfl
    simp only [s0] at s1 s2
    refine ⟨c0, c1, c2, c3, p, d0, d1, d2, d3, q, e0, e1, e2, e3, r, f0, f1, f2, f3, s, rfl, hQ, rfl, hS, by omega, by omega, ?_, ?_⟩
    · cases p with
      | false => rfl
      | true => cases q with
        | false => rfl
        | true => exact absurd (key _ _ _ _ _ _ _ _ _ _ _ _ hP hQ rfl rfl) hall
    · cases r with
      | false => rfl
      | true => cases s with
        | false => rfl
        | true => obtain ⟨x1, x2, x3⟩ := key _ _ _ _ _ _ _ _ _ _ _ _ hR hS rfl rfl; exact absurd ⟨x1, x3, x2⟩ hall

set_option maxRecDepth 100000 in
set_option maxHeartbeats 1000000 in
theorem uapart_short (A A' : Option Addr) (c c' : Nat) (k d k' d' : Int) (xs xs' : List Int) (t t' : ByteArray) (n : Int) (w : World) (hI : IntsAt w (.slice A xs.length c) xs) (hI' : IntsAt w (.slice A' xs'.length c') xs') (hsh : Ev.short [⟨k, d, xs, t⟩, ⟨k', d', xs', t'⟩] = false) :
    Calls Try.prog 7 #[.agg #[.int .i64 k, .int .i64 d, .slice A xs.length c, .string t], .agg #[.int .i64 k', .int .i64 d', .slice A' xs'.length c', .string t'], .int .i64 n] w fun e w' => e = .returned (.bool true) ∧ Ext w w' := by
  have HSH := Lib.hid hsh; clear hsh
  have HA : Hid (∀ v, Ext ((w.alloc (.cells #[.int .i64 k, .int .i64 d, .slice A xs.length c, .string t] 28)).alloc (.cells #[.int .i64 k', .int .i64 d', .slice A' xs'.length c', .string t'] 28)) v → BoxA w (.int .i64 k) (.int .i64 d) (.slice A xs.length c) (.string t) v w.heap.size) := Lib.hid fun v hv => by
    have hb := hv.blk (blk_alloc (blk_new w (.cells #[.int .i64 k, .int .i64 d, .slice A xs.length c, .string t] 28)) (.cells #[.int .i64 k', .int .i64 d', .slice A' xs'.length c', .string t'] 28))
    exact ⟨blk_cell hb 0 _ rfl, blk_cell hb 1 _ rfl, blk_cell hb 2 _ rfl, blk_cell hb 3 _ rfl⟩
  have HB : Hid (∀ v, Ext ((w.alloc (.cells #[.int .i64 k, .int .i64 d, .slice A xs.length c, .string t] 28)).alloc (.cells #[.int .i64 k', .int .i64 d', .slice A' xs'.length c', .string t'] 28)) v → BoxA w (.int .i64 k') (.int .i64 d') (.slice A' xs'.length c') (.string t') v (w.heap.size + 1)) := Lib.hid fun v hv => by
    have hb := hv.blk (blk_new (w.alloc (.cells #[.int .i64 k, .int .i64 d, .slice A xs.length c, .string t] 28)) (.cells #[.int .i64 k', .int .i64 d', .slice A' xs'.length c', .string t'] 28))
    rw [World.size_alloc] at hb
    exact ⟨blk_cell hb 0 _ rfl, blk_cell hb 1 _ rfl, blk_cell hb 2 _ rfl, blk_cell hb 3 _ rfl⟩
  have HI1 : Hid (∀ v, Ext ((w.alloc (.cells #[.int .i64 k, .int .i64 d, .slice A xs.length c, .string t] 28)).alloc (.cells #[.int .i64 k', .int .i64 d', .slice A' xs'.length c', .string t'] 28)) v → IntsAt v (.slice A xs.length c) xs) := Lib.hid fun v hv => hI.ext ((((Ext.refl w).alloc _).alloc _).trans hv)
  have HI2 : Hid (∀ v, Ext ((w.alloc (.cells #[.int .i64 k, .int .i64 d, .slice A xs.length c, .string t] 28)).alloc (.cells #[.int .i64 k', .int .i64 d', .slice A' xs'.length c', .string t'] 28)) v → IntsAt v (.slice A' xs'.length c') xs') := Lib.hid fun v hv => hI'.ext ((((Ext.refl w).alloc _).alloc _).trans hv)
  go_enter Try.func7, Try.ntmps7
  go_wp2_with fail
  refine (ufixed_yes _).mono ?_
  rintro r w1 ⟨rfl, hx1⟩
  have HX1 := Lib.hid hx1
  clear hx1
  obtain ⟨a0, a1, a2, a3⟩ := HA.out _ HX1.out
  obtain ⟨b0, b1, b2, b3⟩ := HB.out _ HX1.out
  clear hI hI'
  go_wp2_with fail
  refine (short_eq _ _ false HSH.out _ (evs_two _ ⟨k, d, xs, t⟩ ⟨k', d', xs', t'⟩ A A' c c' (HI1.out _ HX1.out) (HI2.out _ HX1.out)) (by simp)).mono ?_
  rintro r w2 ⟨rfl, rfl⟩
  go_wp2_with fail
  refine (ufixed_yes _).mono ?_
  rintro r w2 ⟨rfl, hx2⟩
  go_wp2
  go_ret
  exact ⟨rfl, ((((Ext.refl w).alloc _).alloc _).trans (HX1.out.alloc _)).trans hx2⟩
set_option maxRecDepth 100000 in
set_option maxHeartbeats 1000000 in
theorem uapart_no (A A' : Option Addr) (c c' : Nat) (k d k' d' : Int) (xs xs' : List Int) (t t' : ByteArray) (n : Int) (w : World) (hI : IntsAt w (.slice A xs.length c) xs) (hI' : IntsAt w (.slice A' xs'.length c') xs') (hsh : Ev.short [⟨k, d, xs, t⟩, ⟨k', d', xs', t'⟩] = true) (hz : xs.length ≤ 20) (hz' : xs'.length ≤ 20) (ht : t.size ≤ 300) (ht' : t'.size ≤ 300)
    (c0 c1 c2 : Int) (c3 : ByteArray) (p : Bool) (d0 d1 d2 : Int) (d3 : ByteArray) (q : Bool) (e0 e1 e2 : Int) (e3 : ByteArray) (r : Bool) (f0 f1 f2 : Int) (f3 : ByteArray) (s : Bool)
    (p1 : Bu.put ⟨1, 0, 0, ⟨#[]⟩⟩ n ⟨k, d, xs, t⟩ = (⟨c0, c1, c2, c3⟩, p)) (p2 : Bu.put ⟨c0, c1, c2, c3⟩ n ⟨k', d', xs', t'⟩ = (⟨d0, d1, d2, d3⟩, q)) (p3 : Bu.put ⟨1, 0, 0, ⟨#[]⟩⟩ n ⟨k', d', xs', t'⟩ = (⟨e0, e1, e2, e3⟩, r)) (p4 : Bu.put ⟨e0, e1, e2, e3⟩ n ⟨k, d, xs, t⟩ = (⟨f0, f1, f2, f3⟩, s))
    (s1 : c3.size ≤ 1000000) (s2 : e3.size ≤ 1000000) (hpq : (p && q) = false) (hrs : (r && s) = false) :
    Calls Try.prog 7 #[.agg #[.int .i64 k, .int .i64 d, .slice A xs.length c, .string t], .agg #[.int .i64 k', .int .i64 d', .slice A' xs'.length c', .string t'], .int .i64 n] w fun e w' => e = .returned (.bool true) ∧ Ext w w' := by
  have HSH := Lib.hid hsh; clear hsh
  have P1 := Lib.hid p1
  have P2 := Lib.hid p2
  have P3 := Lib.hid p3
  have P4 := Lib.hid p4
  have S1 := Lib.hid s1
  have S2 := Lib.hid s2
  have HPQ := Lib.hid hpq
  have HRS := Lib.hid hrs
  clear p1 p2 p3 p4 s1 s2 hpq hrs
  have HA : Hid (∀ v, Ext ((w.alloc (.cells #[.int .i64 k, .int .i64 d, .slice A xs.length c, .string t] 28)).alloc (.cells #[.int .i64 k', .int .i64 d', .slice A' xs'.length c', .string t'] 28)) v → BoxA w (.int .i64 k) (.int .i64 d) (.slice A xs.length c) (.string t) v w.heap.size) := Lib.hid fun v hv => by
    have hb := hv.blk (blk_alloc (blk_new w (.cells #[.int .i64 k, .int .i64 d, .slice A xs.length c, .string t] 28)) (.cells #[.int .i64 k', .int .i64 d', .slice A' xs'.length c', .string t'] 28))
    exact ⟨blk_cell hb 0 _ rfl, blk_cell hb 1 _ rfl, blk_cell hb 2 _ rfl, blk_cell hb 3 _ rfl⟩
  have HB : Hid (∀ v, Ext ((w.alloc (.cells #[.int .i64 k, .int .i64 d, .slice A xs.length c, .string t] 28)).alloc (.cells #[.int .i64 k', .int .i64 d', .slice A' xs'.length c', .string t'] 28)) v → BoxA w (.int .i64 k') (.int .i64 d') (.slice A' xs'.length c') (.string t') v (w.heap.size + 1)) := Lib.hid fun v hv => by
    have hb := hv.blk (blk_new (w.alloc (.cells #[.int .i64 k, .int .i64 d, .slice A xs.length c, .string t] 28)) (.cells #[.int .i64 k', .int .i64 d', .slice A' xs'.length c', .string t'] 28))
    rw [World.size_alloc] at hb
    exact ⟨blk_cell hb 0 _ rfl, blk_cell hb 1 _ rfl, blk_cell hb 2 _ rfl, blk_cell hb 3 _ rfl⟩
  have HI1 : Hid (∀ v, Ext ((w.alloc (.cells #[.int .i64 k, .int .i64 d, .slice A xs.length c, .string t] 28)).alloc (.cells #[.int .i64 k', .int .i64 d', .slice A' xs'.length c', .string t'] 28)) v → IntsAt v (.slice A xs.length c) xs) := Lib.hid fun v hv => hI.ext ((((Ext.refl w).alloc _).alloc _).trans hv)
  have HI2 : Hid (∀ v, Ext ((w.alloc (.cells #[.int .i64 k, .int .i64 d, .slice A xs.length c, .string t] 28)).alloc (.cells #[.int .i64 k', .int .i64 d', .slice A' xs'.length c', .string t'] 28)) v → IntsAt v (.slice A' xs'.length c') xs') := Lib.hid fun v hv => hI'.ext ((((Ext.refl w).alloc _).alloc _).trans hv)
  go_enter Try.func7, Try.ntmps7
  go_wp2_with fail
  refine (ufixed_yes _).mono ?_
  rintro r w1 ⟨rfl, hx1⟩
  have HX1 := Lib.hid hx1
  clear hx1
  obtain ⟨a0, a1, a2, a3⟩ := HA.out _ HX1.out
  obtain ⟨b0, b1, b2, b3⟩ := HB.out _ HX1.out
  clear hI hI'
  go_wp2_with fail
  refine (short_eq _ _ true HSH.out _ (evs_two _ ⟨k, d, xs, t⟩ ⟨k', d', xs', t'⟩ A A' c c' (HI1.out _ HX1.out) (HI2.out _ HX1.out)) (by simp)).mono ?_
  rintro r w2 ⟨rfl, rfl⟩
  have HX2 : Hid (Ext ((w.alloc (.cells #[.int .i64 k, .int .i64 d, .slice A xs.length c, .string t] 28)).alloc (.cells #[.int .i64 k', .int .i64 d', .slice A' xs'.length c', .string t'] 28)) (w1.alloc (.cells #[.int .i64 k, .int .i64 d, .slice A xs.length c, .string t, .int .i64 k', .int .i64 d', .slice A' xs'.length c', .string t'] 28))) := Lib.hid (HX1.out.alloc _)
  clear a0 a1 a2 a3 b0 b1 b2 b3
  obtain ⟨a0, a1, a2, a3⟩ := HA.out _ HX2.out
  go_wp2_with fail
  refine (bput_k 1 0 0 _ n k d xs t _ _ _ _ _ P1.out A c _ (by decide) (HI1.out _ HX2.out) (by omega) (by omega)).mono ?_
  rintro r w2 ⟨rfl, hx2⟩
  have HX3 : Hid (Ext ((w.alloc (.cells #[.int .i64 k, .int .i64 d, .slice A xs.length c, .string t] 28)).alloc (.cells #[.int .i64 k', .int .i64 d', .slice A' xs'.length c', .string t'] 28)) (w2.alloc (.cells #[.int .i64 c0, .int .i64 c1, .int .i64 c2, .string c3] 23))) := Lib.hid ((HX2.out.trans hx2).alloc _)
  clear a0 a1 a2 a3 hx2
  obtain ⟨b0, b1, b2, b3⟩ := HB.out _ HX3.out
  go_wp2_with fail
  refine (bput_k _ _ _ _ n k' d' xs' t' _ _ _ _ _ P2.out A' c' _ S1.out (HI2.out _ HX3.out) (by omega) (by omega)).mono ?_
  rintro r w3 ⟨rfl, hx3⟩
  have HX4 : Hid (Ext ((w.alloc (.cells #[.int .i64 k, .int .i64 d, .slice A xs.length c, .string t] 28)).alloc (.cells #[.int .i64 k', .int .i64 d', .slice A' xs'.length c', .string t'] 28)) (w3.alloc (.cells #[.int .i64 d0, .int .i64 d1, .int .i64 d2, .string d3] 23))) := Lib.hid ((HX3.out.trans hx3).alloc _)
  have hx3' := hx3
  clear b0 b1 b2 b3 hx3
  obtain ⟨b0, b1, b2, b3⟩ := HB.out _ HX4.out
  go_wp2_with fail
  refine (bput_k 1 0 0 _ n k' d' xs' t' _ _ _ _ _ P3.out A' c' _ (by decide) (HI2.out _ HX4.out) (by omega) (by omega)).mono ?_
  rintro r w4 ⟨rfl, hx4⟩
  have HX5 : Hid (Ext (w3.alloc (.cells #[.int .i64 d0, .int .i64 d1, .int .i64 d2, .string d3] 23)) (w4.alloc (.cells #[.int .i64 e0, .int .i64 e1, .int .i64 e2, .string e3] 23))) := Lib.hid (hx4.alloc _)
  clear b0 b1 b2 b3 hx4
  obtain ⟨a0, a1, a2, a3⟩ := HA.out _ (HX4.out.trans HX5.out)
  go_wp2_with fail
  refine (bput_k _ _ _ _ n k d xs t _ _ _ _ _ P4.out A c _ S2.out (HI1.out _ (HX4.out.trans HX5.out)) (by omega) (by omega)).mono ?_
  rintro r w5 ⟨rfl, hx5⟩
  have HX6 : Hid (Ext (w3.alloc (.cells #[.int .i64 d0, .int .i64 d1, .int .i64 d2, .string d3] 23)) (w5.alloc (.cells #[.int .i64 f0, .int .i64 f1, .int .i64 f2, .string f3] 23))) := Lib.hid ((HX5.out.trans hx5).alloc _)
  have hx5' := HX5.out.trans hx5
  clear a0 a1 a2 a3 hx5
  have hpq := HPQ.out
  have hrs := HRS.out
  clear HPQ HRS P1 P2 P3 P4
  cases p <;> cases q <;> simp at hpq <;> cases r <;> cases s <;> simp at hrs
  all_goals
    go_wp2
    go_ret
    exact ⟨rfl, (((Ext.refl w).alloc _).alloc _).trans (HX4.out.trans HX6.out)⟩
/-- What lies where, behind both stores. -/
def AP (w : World) (ca cb : Array Value) (gd gf : Nat) (od of : Obj) (A A' : Option Addr) (c c' : Nat) (xs xs' : List Int) (v : World) : Prop :=
  v.heap[w.heap.size]? = some (.cells ca 28 (0, 0)) ∧ v.heap[w.heap.size + 1]? = some (.cells cb 28 (0, 0)) ∧ v.heap[gd]? = some od ∧ v.heap[gf]? = some of ∧ IntsAt v (.slice A xs.length c) xs ∧ IntsAt v (.slice A' xs'.length c') xs' ∧ Ext w v
theorem AP.trans {w : World} {ca cb : Array Value} {gd gf : Nat} {od of : Obj} {A A' : Option Addr} {c c' : Nat} {xs xs' : List Int} {v v' : World} (h : AP w ca cb gd gf od of A A' c c' xs xs' v) (hx : Ext v v') : AP w ca cb gd gf od of A A' c c' xs xs' v' :=
  ⟨hx.blk h.1, hx.blk h.2.1, hx.blk h.2.2.1, hx.blk h.2.2.2.1, h.2.2.2.2.1.ext hx, h.2.2.2.2.2.1.ext hx, h.2.2.2.2.2.2.trans hx⟩
theorem AP.mk {w v : World} {gd gf : Nat} {od of : Obj} {A A' : Option Addr} {c c' : Nat} {xs xs' : List Int} {k d k' d' : Int} {t t' : ByteArray} (h1 : v.heap[w.heap.size]? = some (.cells #[.int .i64 k, .int .i64 d, .slice A xs.length c, .string t] 28 (0, 0))) (h2 : v.heap[w.heap.size + 1]? = some (.cells #[.int .i64 k', .int .i64 d', .slice A' xs'.length c', .string t'] 28 (0, 0)))
    (h3 : v.heap[gd]? = some od) (h4 : v.heap[gf]? = some of) (n3 : w.heap.size + 1 < gd) (n4 : w.heap.size + 1 < gf) (hI : IntsAt w (.slice A xs.length c) xs) (hI' : IntsAt w (.slice A' xs'.length c') xs') (hx : Ext w v) :
    AP w #[.int .i64 k, .int .i64 0, .slice A xs.length c, .string t] #[.int .i64 k', .int .i64 0, .slice A' xs'.length c', .string t'] gd gf od of A A' c c' xs xs' ((v.setCell ⟨w.heap.size, 1, none⟩ (.int .i64 0)).setCell ⟨w.heap.size + 1, 1, none⟩ (.int .i64 0)).drew := by
  have hx' : Ext w ((v.setCell ⟨w.heap.size, 1, none⟩ (.int .i64 0)).setCell ⟨w.heap.size + 1, 1, none⟩ (.int .i64 0)) := (hx.setCell (Nat.le_refl _) _).setCell (Nat.le_succ _) _
  refine ⟨?_, ?_, ?_, ?_, hI.ext hx'.drew, hI'.ext hx'.drew, hx'.drew⟩
  · exact blk_set_other (blk_set h1 1 (.int .i64 0)) _ (by simp) _
  · exact blk_set (blk_set_other h2 _ (by simp) _) 1 (.int .i64 0)
  · exact blk_set_other (blk_set_other h3 _ (by simp only; omega) _) _ (by simp only; omega) _
  · exact blk_set_other (blk_set_other h4 _ (by simp only; omega) _) _ (by simp only; omega) _
set_option maxRecDepth 100000 in
set_option maxHeartbeats 1000000 in
theorem uapart_ok (A A' : Option Addr) (c c' : Nat) (k d k' d' : Int) (xs xs' : List Int) (t t' : ByteArray) (n : Int) (w : World) (hI : IntsAt w (.slice A xs.length c) xs) (hI' : IntsAt w (.slice A' xs'.length c') xs') (hsh : Ev.short [⟨k, d, xs, t⟩, ⟨k', d', xs', t'⟩] = true) (hz : xs.length ≤ 20) (hz' : xs'.length ≤ 20) (ht : t.size ≤ 300) (ht' : t'.size ≤ 300)
    (e1 e2 bd bf : ByteArray) (r : Bool) (p1 : Bu.put ⟨1, 0, 0, ⟨#[]⟩⟩ n ⟨k, d, xs, t⟩ = (⟨1, n, n, e1⟩, true)) (p2 : Bu.put ⟨1, n, n, e1⟩ n ⟨k', d', xs', t'⟩ = (⟨1, n, n, bd⟩, true)) (p3 : Bu.put ⟨1, 0, 0, ⟨#[]⟩⟩ n ⟨k', d', xs', t'⟩ = (⟨1, n, n, e2⟩, true)) (p4 : Bu.put ⟨1, n, n, e2⟩ n ⟨k, d, xs, t⟩ = (⟨1, n, n, bf⟩, true))
    (s1 : e1.size ≤ 1000000) (s2 : e2.size ≤ 1000000) (hs : Ev.sameB ⟨k, 0, xs, t⟩ ⟨k', 0, xs', t'⟩ = r) (hr : (bd.toList == bf.toList) = r) :
    Calls Try.prog 7 #[.agg #[.int .i64 k, .int .i64 d, .slice A xs.length c, .string t], .agg #[.int .i64 k', .int .i64 d', .slice A' xs'.length c', .string t'], .int .i64 n] w fun e w' => e = .returned (.bool true) ∧ Ext w w' := by
  have HSH := Lib.hid hsh; clear hsh
  have P1 := Lib.hid p1
  have P2 := Lib.hid p2
  have P3 := Lib.hid p3
  have P4 := Lib.hid p4
  have S1 := Lib.hid s1
  have S2 := Lib.hid s2
  have HS := Lib.hid hs
  have HR := Lib.hid hr
  have HI := Lib.hid hI
  have HI' := Lib.hid hI'
  clear p1 p2 p3 p4 s1 s2 hs hr
  have HA : Hid (∀ v, Ext ((w.alloc (.cells #[.int .i64 k, .int .i64 d, .slice A xs.length c, .string t] 28)).alloc (.cells #[.int .i64 k', .int .i64 d', .slice A' xs'.length c', .string t'] 28)) v → BoxA w (.int .i64 k) (.int .i64 d) (.slice A xs.length c) (.string t) v w.heap.size) := Lib.hid fun v hv => by
    have hb := hv.blk (blk_alloc (blk_new w (.cells #[.int .i64 k, .int .i64 d, .slice A xs.length c, .string t] 28)) (.cells #[.int .i64 k', .int .i64 d', .slice A' xs'.length c', .string t'] 28))
    exact ⟨blk_cell hb 0 _ rfl, blk_cell hb 1 _ rfl, blk_cell hb 2 _ rfl, blk_cell hb 3 _ rfl⟩
  have HB : Hid (∀ v, Ext ((w.alloc (.cells #[.int .i64 k, .int .i64 d, .slice A xs.length c, .string t] 28)).alloc (.cells #[.int .i64 k', .int .i64 d', .slice A' xs'.length c', .string t'] 28)) v → BoxA w (.int .i64 k') (.int .i64 d') (.slice A' xs'.length c') (.string t') v (w.heap.size + 1)) := Lib.hid fun v hv => by
    have hb := hv.blk (blk_new (w.alloc (.cells #[.int .i64 k, .int .i64 d, .slice A xs.length c, .string t] 28)) (.cells #[.int .i64 k', .int .i64 d', .slice A' xs'.length c', .string t'] 28))
    rw [World.size_alloc] at hb
    exact ⟨blk_cell hb 0 _ rfl, blk_cell hb 1 _ rfl, blk_cell hb 2 _ rfl, blk_cell hb 3 _ rfl⟩
  have HI1 : Hid (∀ v, Ext ((w.alloc (.cells #[.int .i64 k, .int .i64 d, .slice A xs.length c, .string t] 28)).alloc (.cells #[.int .i64 k', .int .i64 d', .slice A' xs'.length c', .string t'] 28)) v → IntsAt v (.slice A xs.length c) xs) := Lib.hid fun v hv => hI.ext ((((Ext.refl w).alloc _).alloc _).trans hv)
  have HI2 : Hid (∀ v, Ext ((w.alloc (.cells #[.int .i64 k, .int .i64 d, .slice A xs.length c, .string t] 28)).alloc (.cells #[.int .i64 k', .int .i64 d', .slice A' xs'.length c', .string t'] 28)) v → IntsAt v (.slice A' xs'.length c') xs') := Lib.hid fun v hv => hI'.ext ((((Ext.refl w).alloc _).alloc _).trans hv)
  go_enter Try.func7, Try.ntmps7
  go_wp2_with fail
  refine (ufixed_yes _).mono ?_
  rintro r w1 ⟨rfl, hx1⟩
  have HX1 := Lib.hid hx1
  clear hx1
  obtain ⟨a0, a1, a2, a3⟩ := HA.out _ HX1.out
  obtain ⟨b0, b1, b2, b3⟩ := HB.out _ HX1.out
  clear hI hI'
  go_wp2_with fail
  refine (short_eq _ _ true HSH.out _ (evs_two _ ⟨k, d, xs, t⟩ ⟨k', d', xs', t'⟩ A A' c c' (HI1.out _ HX1.out) (HI2.out _ HX1.out)) (by simp)).mono ?_
  rintro r w2 ⟨rfl, rfl⟩
  have HX2 : Hid (Ext ((w.alloc (.cells #[.int .i64 k, .int .i64 d, .slice A xs.length c, .string t] 28)).alloc (.cells #[.int .i64 k', .int .i64 d', .slice A' xs'.length c', .string t'] 28)) (w1.alloc (.cells #[.int .i64 k, .int .i64 d, .slice A xs.length c, .string t, .int .i64 k', .int .i64 d', .slice A' xs'.length c', .string t'] 28))) := Lib.hid (HX1.out.alloc _)
  clear a0 a1 a2 a3 b0 b1 b2 b3
  obtain ⟨a0, a1, a2, a3⟩ := HA.out _ HX2.out
  go_wp2_with fail
  refine (bput_k 1 0 0 _ n k d xs t _ _ _ _ _ P1.out A c _ (by decide) (HI1.out _ HX2.out) (by omega) (by omega)).mono ?_
  rintro r w2 ⟨rfl, hx2⟩
  have HX3 : Hid (Ext ((w.alloc (.cells #[.int .i64 k, .int .i64 d, .slice A xs.length c, .string t] 28)).alloc (.cells #[.int .i64 k', .int .i64 d', .slice A' xs'.length c', .string t'] 28)) (w2.alloc (.cells #[.int .i64 1, .int .i64 n, .int .i64 n, .string e1] 23))) := Lib.hid ((HX2.out.trans hx2).alloc _)
  clear a0 a1 a2 a3 hx2
  obtain ⟨b0, b1, b2, b3⟩ := HB.out _ HX3.out
  go_wp2_with fail
  refine (bput_k _ _ _ _ n k' d' xs' t' _ _ _ _ _ P2.out A' c' _ S1.out (HI2.out _ HX3.out) (by omega) (by omega)).mono ?_
  rintro r w3 ⟨rfl, hx3⟩
  have HX4 : Hid (Ext ((w.alloc (.cells #[.int .i64 k, .int .i64 d, .slice A xs.length c, .string t] 28)).alloc (.cells #[.int .i64 k', .int .i64 d', .slice A' xs'.length c', .string t'] 28)) (w3.alloc (.cells #[.int .i64 1, .int .i64 n, .int .i64 n, .string bd] 23))) := Lib.hid ((HX3.out.trans hx3).alloc _)
  have hx3' := hx3
  clear b0 b1 b2 b3 hx3
  obtain ⟨b0, b1, b2, b3⟩ := HB.out _ HX4.out
  go_wp2_with fail
  refine (bput_k 1 0 0 _ n k' d' xs' t' _ _ _ _ _ P3.out A' c' _ (by decide) (HI2.out _ HX4.out) (by omega) (by omega)).mono ?_
  rintro r w4 ⟨rfl, hx4⟩
  have HX5 : Hid (Ext (w3.alloc (.cells #[.int .i64 1, .int .i64 n, .int .i64 n, .string bd] 23)) (w4.alloc (.cells #[.int .i64 1, .int .i64 n, .int .i64 n, .string e2] 23))) := Lib.hid (hx4.alloc _)
  clear b0 b1 b2 b3 hx4
  obtain ⟨a0, a1, a2, a3⟩ := HA.out _ (HX4.out.trans HX5.out)
  go_wp2_with fail
  refine (bput_k _ _ _ _ n k d xs t _ _ _ _ _ P4.out A c _ S2.out (HI1.out _ (HX4.out.trans HX5.out)) (by omega) (by omega)).mono ?_
  rintro r w5 ⟨rfl, hx5⟩
  have HX6 : Hid (Ext (w3.alloc (.cells #[.int .i64 1, .int .i64 n, .int .i64 n, .string bd] 23)) (w5.alloc (.cells #[.int .i64 1, .int .i64 n, .int .i64 n, .string bf] 23))) := Lib.hid ((HX5.out.trans hx5).alloc _)
  have hx5' := HX5.out.trans hx5
  clear a0 a1 a2 a3 hx5
  have HW : Hid (AP w #[.int .i64 k, .int .i64 0, .slice A xs.length c, .string t] #[.int .i64 k', .int .i64 0, .slice A' xs'.length c', .string t'] w3.heap.size w5.heap.size (.cells #[.int .i64 1, .int .i64 n, .int .i64 n, .string bd] 23) (.cells #[.int .i64 1, .int .i64 n, .int .i64 n, .string bf] 23) A A' c c' xs xs' (((w5.alloc (.cells #[.int .i64 1, .int .i64 n, .int .i64 n, .string bf] 23)).setCell ⟨w.heap.size, 1, none⟩ (.int .i64 0)).setCell ⟨w.heap.size + 1, 1, none⟩ (.int .i64 0)).drew) := Lib.hid (by
    have hx := HX4.out.trans HX6.out
    have z4 : w.heap.size + 1 < w3.heap.size := by have := (HX3.out.trans hx3').size; simp only [World.size_alloc] at this; omega
    have z6 : w.heap.size + 1 < w5.heap.size := by have := hx5'.size; simp only [World.size_alloc] at this; omega
    refine AP.mk (d := d) (d' := d') (hx.blk (blk_alloc (blk_new w _) _)) ?_ (HX6.out.blk (blk_new w3 _)) (blk_new w5 _) z4 z6 HI.out HI'.out ((((Ext.refl w).alloc _).alloc _).trans hx)
    have hb := hx.blk (blk_new (w.alloc (.cells #[.int .i64 k, .int .i64 d, .slice A xs.length c, .string t] 28)) (.cells #[.int .i64 k', .int .i64 d', .slice A' xs'.length c', .string t'] 28))
    rwa [World.size_alloc] at hb)
  have hxx := HX4.out.trans HX6.out
  have hba := hxx.blk (blk_alloc (blk_new w (.cells #[.int .i64 k, .int .i64 d, .slice A xs.length c, .string t] 28)) (.cells #[.int .i64 k', .int .i64 d', .slice A' xs'.length c', .string t'] 28))
  have hbb := hxx.blk (blk_new (w.alloc (.cells #[.int .i64 k, .int .i64 d, .slice A xs.length c, .string t] 28)) (.cells #[.int .i64 k', .int .i64 d', .slice A' xs'.length c', .string t'] 28))
  rw [World.size_alloc] at hbb
  have a1 := blk_cell hba 1 _ rfl
  have b1 := blk_cell hbb 1 _ rfl
  have y1 := frozen_of_row _ _ 1 _ _ hba
  have x1 := frozen_of_row _ _ 1 _ _ hbb
  clear hba hbb hxx
  go_wp2
  clear a1 b1 y1 x1
  generalize hq : (((w5.alloc (.cells #[.int .i64 1, .int .i64 n, .int .i64 n, .string bf] 23)).setCell ⟨w.heap.size, 1, none⟩ (.int .i64 0)).setCell ⟨w.heap.size + 1, 1, none⟩ (.int .i64 0)).drew = w6 at *
  generalize hgd : w3.heap.size = gd at *
  generalize hgf : w5.heap.size = gf at *
  refine region_all (AP w #[.int .i64 k, .int .i64 0, .slice A xs.length c, .string t] #[.int .i64 k', .int .i64 0, .slice A' xs'.length c', .string t'] gd gf (.cells #[.int .i64 1, .int .i64 n, .int .i64 n, .string bd] 23) (.cells #[.int .i64 1, .int .i64 n, .int .i64 n, .string bf] 23) A A' c c' xs xs') (by kernel_rfl) (hq ▸ HW.out) ?_
  clear hq hgd hgf
  have K00 : ∀ v, AP w #[.int .i64 k, .int .i64 0, .slice A xs.length c, .string t] #[.int .i64 k', .int .i64 0, .slice A' xs'.length c', .string t'] gd gf (.cells #[.int .i64 1, .int .i64 n, .int .i64 n, .string bd] 23) (.cells #[.int .i64 1, .int .i64 n, .int .i64 n, .string bf] 23) A A' c c' xs xs' v → v.cell? ⟨w.heap.size, 0, none⟩ = some (.int .i64 k) := fun v h => blk_cell h.1 0 _ rfl
  have K01 : ∀ v, AP w #[.int .i64 k, .int .i64 0, .slice A xs.length c, .string t] #[.int .i64 k', .int .i64 0, .slice A' xs'.length c', .string t'] gd gf (.cells #[.int .i64 1, .int .i64 n, .int .i64 n, .string bd] 23) (.cells #[.int .i64 1, .int .i64 n, .int .i64 n, .string bf] 23) A A' c c' xs xs' v → v.cell? ⟨w.heap.size, 1, none⟩ = some (.int .i64 0) := fun v h => blk_cell h.1 1 _ rfl
  have K02 : ∀ v, AP w #[.int .i64 k, .int .i64 0, .slice A xs.length c, .string t] #[.int .i64 k', .int .i64 0, .slice A' xs'.length c', .string t'] gd gf (.cells #[.int .i64 1, .int .i64 n, .int .i64 n, .string bd] 23) (.cells #[.int .i64 1, .int .i64 n, .int .i64 n, .string bf] 23) A A' c c' xs xs' v → v.cell? ⟨w.heap.size, 2, none⟩ = some (.slice A xs.length c) := fun v h => blk_cell h.1 2 _ rfl
  have K03 : ∀ v, AP w #[.int .i64 k, .int .i64 0, .slice A xs.length c, .string t] #[.int .i64 k', .int .i64 0, .slice A' xs'.length c', .string t'] gd gf (.cells #[.int .i64 1, .int .i64 n, .int .i64 n, .string bd] 23) (.cells #[.int .i64 1, .int .i64 n, .int .i64 n, .string bf] 23) A A' c c' xs xs' v → v.cell? ⟨w.heap.size, 3, none⟩ = some (.string t) := fun v h => blk_cell h.1 3 _ rfl
  have K10 : ∀ v, AP w #[.int .i64 k, .int .i64 0, .slice A xs.length c, .string t] #[.int .i64 k', .int .i64 0, .slice A' xs'.length c', .string t'] gd gf (.cells #[.int .i64 1, .int .i64 n, .int .i64 n, .string bd] 23) (.cells #[.int .i64 1, .int .i64 n, .int .i64 n, .string bf] 23) A A' c c' xs xs' v → v.cell? ⟨w.heap.size + 1, 0, none⟩ = some ((.int .i64 k')) := fun v h => blk_cell h.2.1 0 _ rfl
  have K11 : ∀ v, AP w #[.int .i64 k, .int .i64 0, .slice A xs.length c, .string t] #[.int .i64 k', .int .i64 0, .slice A' xs'.length c', .string t'] gd gf (.cells #[.int .i64 1, .int .i64 n, .int .i64 n, .string bd] 23) (.cells #[.int .i64 1, .int .i64 n, .int .i64 n, .string bf] 23) A A' c c' xs xs' v → v.cell? ⟨w.heap.size + 1, 1, none⟩ = some (.int .i64 0) := fun v h => blk_cell h.2.1 1 _ rfl
  have K12 : ∀ v, AP w #[.int .i64 k, .int .i64 0, .slice A xs.length c, .string t] #[.int .i64 k', .int .i64 0, .slice A' xs'.length c', .string t'] gd gf (.cells #[.int .i64 1, .int .i64 n, .int .i64 n, .string bd] 23) (.cells #[.int .i64 1, .int .i64 n, .int .i64 n, .string bf] 23) A A' c c' xs xs' v → v.cell? ⟨w.heap.size + 1, 2, none⟩ = some (.slice A' xs'.length c') := fun v h => blk_cell h.2.1 2 _ rfl
  have K13 : ∀ v, AP w #[.int .i64 k, .int .i64 0, .slice A xs.length c, .string t] #[.int .i64 k', .int .i64 0, .slice A' xs'.length c', .string t'] gd gf (.cells #[.int .i64 1, .int .i64 n, .int .i64 n, .string bd] 23) (.cells #[.int .i64 1, .int .i64 n, .int .i64 n, .string bf] 23) A A' c c' xs xs' v → v.cell? ⟨w.heap.size + 1, 3, none⟩ = some (.string t') := fun v h => blk_cell h.2.1 3 _ rfl
  have D0 : ∀ v, AP w #[.int .i64 k, .int .i64 0, .slice A xs.length c, .string t] #[.int .i64 k', .int .i64 0, .slice A' xs'.length c', .string t'] gd gf (.cells #[.int .i64 1, .int .i64 n, .int .i64 n, .string bd] 23) (.cells #[.int .i64 1, .int .i64 n, .int .i64 n, .string bf] 23) A A' c c' xs xs' v → v.cell? ⟨gd, 0, none⟩ = some (.int .i64 1) := fun v h => blk_cell h.2.2.1 0 _ rfl
  have D1 : ∀ v, AP w #[.int .i64 k, .int .i64 0, .slice A xs.length c, .string t] #[.int .i64 k', .int .i64 0, .slice A' xs'.length c', .string t'] gd gf (.cells #[.int .i64 1, .int .i64 n, .int .i64 n, .string bd] 23) (.cells #[.int .i64 1, .int .i64 n, .int .i64 n, .string bf] 23) A A' c c' xs xs' v → v.cell? ⟨gd, 1, none⟩ = some (.int .i64 n) := fun v h => blk_cell h.2.2.1 1 _ rfl
  have D2 : ∀ v, AP w #[.int .i64 k, .int .i64 0, .slice A xs.length c, .string t] #[.int .i64 k', .int .i64 0, .slice A' xs'.length c', .string t'] gd gf (.cells #[.int .i64 1, .int .i64 n, .int .i64 n, .string bd] 23) (.cells #[.int .i64 1, .int .i64 n, .int .i64 n, .string bf] 23) A A' c c' xs xs' v → v.cell? ⟨gd, 2, none⟩ = some (.int .i64 n) := fun v h => blk_cell h.2.2.1 2 _ rfl
  have D3 : ∀ v, AP w #[.int .i64 k, .int .i64 0, .slice A xs.length c, .string t] #[.int .i64 k', .int .i64 0, .slice A' xs'.length c', .string t'] gd gf (.cells #[.int .i64 1, .int .i64 n, .int .i64 n, .string bd] 23) (.cells #[.int .i64 1, .int .i64 n, .int .i64 n, .string bf] 23) A A' c c' xs xs' v → v.cell? ⟨gd, 3, none⟩ = some (.string bd) := fun v h => blk_cell h.2.2.1 3 _ rfl
  have F0 : ∀ v, AP w #[.int .i64 k, .int .i64 0, .slice A xs.length c, .string t] #[.int .i64 k', .int .i64 0, .slice A' xs'.length c', .string t'] gd gf (.cells #[.int .i64 1, .int .i64 n, .int .i64 n, .string bd] 23) (.cells #[.int .i64 1, .int .i64 n, .int .i64 n, .string bf] 23) A A' c c' xs xs' v → v.cell? ⟨gf, 0, none⟩ = some (.int .i64 1) := fun v h => blk_cell h.2.2.2.1 0 _ rfl
  have F1 : ∀ v, AP w #[.int .i64 k, .int .i64 0, .slice A xs.length c, .string t] #[.int .i64 k', .int .i64 0, .slice A' xs'.length c', .string t'] gd gf (.cells #[.int .i64 1, .int .i64 n, .int .i64 n, .string bd] 23) (.cells #[.int .i64 1, .int .i64 n, .int .i64 n, .string bf] 23) A A' c c' xs xs' v → v.cell? ⟨gf, 1, none⟩ = some (.int .i64 n) := fun v h => blk_cell h.2.2.2.1 1 _ rfl
  have F2 : ∀ v, AP w #[.int .i64 k, .int .i64 0, .slice A xs.length c, .string t] #[.int .i64 k', .int .i64 0, .slice A' xs'.length c', .string t'] gd gf (.cells #[.int .i64 1, .int .i64 n, .int .i64 n, .string bd] 23) (.cells #[.int .i64 1, .int .i64 n, .int .i64 n, .string bf] 23) A A' c c' xs xs' v → v.cell? ⟨gf, 2, none⟩ = some (.int .i64 n) := fun v h => blk_cell h.2.2.2.1 2 _ rfl
  have F3 : ∀ v, AP w #[.int .i64 k, .int .i64 0, .slice A xs.length c, .string t] #[.int .i64 k', .int .i64 0, .slice A' xs'.length c', .string t'] gd gf (.cells #[.int .i64 1, .int .i64 n, .int .i64 n, .string bd] 23) (.cells #[.int .i64 1, .int .i64 n, .int .i64 n, .string bf] 23) A A' c c' xs xs' v → v.cell? ⟨gf, 3, none⟩ = some (.string bf) := fun v h => blk_cell h.2.2.2.1 3 _ rfl
  cases r with
  | true =>
    have hr := HR.out
    refine all_take (i := 0) (v := ?_) rfl (by kernel_rfl) (by kernel_rfl) (by kernel_rfl) (fun _ _ _ h => h) (Tame.yes (by kernel_rfl) fun w hS => ?_) ?_
    rotate_left 1
    · skip
      go_simp
      try simp only [hr]
      refine gives_mk ?_ hS
      with_reducible rfl
    refine all_take (i := 1) (v := ?_) rfl (by kernel_rfl) (by kernel_rfl) (by kernel_rfl) (fun _ _ _ h => h) (Tame.yes (by kernel_rfl) fun w hS => ?_) ?_
    rotate_left 1
    · skip
      go_simp
      try simp only [hr]
      refine gives_mk ?_ hS
      with_reducible rfl
    refine all_take (i := 2) (v := ?_) rfl (by kernel_rfl) (by kernel_rfl) (by kernel_rfl) (fun _ _ _ h => h) (Tame.yes (by kernel_rfl) fun w hS => ?_) ?_
    rotate_left 1
    · skip
      go_simp
      try simp only [hr]
      refine gives_mk ?_ hS
      with_reducible rfl
    refine all_take (i := 3) (v := ?_) rfl (by kernel_rfl) (by kernel_rfl) (by kernel_rfl) (fun _ _ _ h => h) (Tame.yes (by kernel_rfl) fun w hS => ?_) ?_
    rotate_left 1
    · skip
      go_simp
      try simp only [hr]
      refine gives_mk ?_ hS
      with_reducible rfl
    refine all_take (i := 4) (v := ?_) rfl (by kernel_rfl) (by kernel_rfl) (by kernel_rfl) (fun _ _ _ h => h) (Tame.yes (by kernel_rfl) fun w hS => ?_) ?_
    rotate_left 1
    · skip
      go_simp
      try simp only [hr]
      refine gives_mk ?_ hS
      with_reducible rfl
    refine all_take (i := 5) (v := .bool true) rfl (by kernel_rfl) (by kernel_rfl) (by kernel_rfl) (fun _ _ _ h => h) (Tame.yes (by kernel_rfl) fun w hS => ?_) ?_
    · go_simp
      refine gives_call ((same_k k 0 xs t k' 0 xs' t' true HS.out _ _ _ _ _ hS.2.2.2.2.1 hS.2.2.2.2.2.1 (by omega)).mono ?_)
      exact fun r w2 ⟨he, hx⟩ => ⟨he, hS.trans hx⟩
    refine all_take (i := 6) (v := ?_) rfl (by kernel_rfl) (by kernel_rfl) (by kernel_rfl) (fun _ _ _ h => h) (Tame.yes (by kernel_rfl) fun w hS => ?_) ?_
    rotate_left 1
    · skip
      go_simp
      try simp only [hr]
      refine gives_mk ?_ hS
      with_reducible rfl
    refine all_take (i := 7) (v := ?_) rfl (by kernel_rfl) (by kernel_rfl) (by kernel_rfl) (fun _ _ _ h => h) (Tame.yes (by kernel_rfl) fun w hS => ?_) ?_
    rotate_left 1
    · skip
      go_simp
      try simp only [hr]
      refine gives_mk ?_ hS
      with_reducible rfl
    refine all_take (i := 8) (v := ?_) rfl (by kernel_rfl) (by kernel_rfl) (by kernel_rfl) (fun _ _ _ h => h) (Tame.yes (by kernel_rfl) fun w hS => ?_) ?_
    rotate_left 1
    · skip
      go_simp
      try simp only [hr]
      refine gives_mk ?_ hS
      with_reducible rfl
    refine all_take (i := 9) (v := ?_) rfl (by kernel_rfl) (by kernel_rfl) (by kernel_rfl) (fun _ _ _ h => h) (Tame.yes (by kernel_rfl) fun w hS => ?_) ?_
    rotate_left 1
    · skip
      go_simp
      try simp only [hr]
      refine gives_mk ?_ hS
      with_reducible rfl
    refine all_take (i := 10) (v := ?_) rfl (by kernel_rfl) (by kernel_rfl) (by kernel_rfl) (fun _ _ _ h => h) (Tame.yes (by kernel_rfl) fun w hS => ?_) ?_
    rotate_left 1
    · skip
      go_simp
      try simp only [hr]
      refine gives_mk ?_ hS
      with_reducible rfl
    refine all_take (i := 11) (v := ?_) rfl (by kernel_rfl) (by kernel_rfl) (by kernel_rfl) (fun _ _ _ h => h) (Tame.yes (by kernel_rfl) fun w hS => ?_) ?_
    rotate_left 1
    · skip
      go_simp
      try simp only [hr]
      refine gives_mk ?_ hS
      with_reducible rfl
    refine all_take (i := 12) (v := ?_) rfl (by kernel_rfl) (by kernel_rfl) (by kernel_rfl) (fun _ _ _ h => h) (Tame.yes (by kernel_rfl) fun w hS => ?_) ?_
    rotate_left 1
    · skip
      go_simp
      try simp only [hr]
      refine gives_mk ?_ hS
      with_reducible rfl
    refine all_take (i := 13) (v := ?_) rfl (by kernel_rfl) (by kernel_rfl) (by kernel_rfl) (fun _ _ _ h => h) (Tame.yes (by kernel_rfl) fun w hS => ?_) ?_
    rotate_left 1
    · skip
      go_simp
      try simp only [hr]
      refine gives_mk ?_ hS
      with_reducible rfl
    refine all_take (i := 14) (v := ?_) rfl (by kernel_rfl) (by kernel_rfl) (by kernel_rfl) (fun _ _ _ h => h) (Tame.yes (by kernel_rfl) fun w hS => ?_) ?_
    rotate_left 1
    · skip
      go_simp
      try simp only [hr]
      refine gives_mk ?_ hS
      with_reducible rfl
    refine all_take (i := 15) (v := ?_) rfl (by kernel_rfl) (by kernel_rfl) (by kernel_rfl) (fun _ _ _ h => h) (Tame.yes (by kernel_rfl) fun w hS => ?_) ?_
    rotate_left 1
    · skip
      go_simp
      try simp only [hr]
      refine gives_mk ?_ hS
      with_reducible rfl
    refine all_take (i := 16) (v := ?_) rfl (by kernel_rfl) (by kernel_rfl) (by kernel_rfl) (fun _ _ _ h => h) (Tame.yes (by kernel_rfl) fun w hS => ?_) ?_
    rotate_left 1
    · skip
      go_simp
      try simp only [hr]
      refine gives_mk ?_ hS
      with_reducible rfl
    refine all_take (i := 17) (v := ?_) rfl (by kernel_rfl) (by kernel_rfl) (by kernel_rfl) (fun _ _ _ h => h) (Tame.yes (by kernel_rfl) fun w hS => ?_) ?_
    rotate_left 1
    · skip
      go_simp
      try simp only [hr]
      refine gives_mk ?_ hS
      with_reducible rfl
    refine all_take (i := 18) (v := ?_) rfl (by kernel_rfl) (by kernel_rfl) (by kernel_rfl) (fun _ _ _ h => h) (Tame.yes (by kernel_rfl) fun w hS => ?_) ?_
    rotate_left 1
    · skip
      go_simp
      try simp only [hr]
      refine gives_mk ?_ hS
      with_reducible rfl
    refine all_take (i := 19) (v := ?_) rfl (by kernel_rfl) (by kernel_rfl) (by kernel_rfl) (fun _ _ _ h => h) (Tame.yes (by kernel_rfl) fun w hS => ?_) ?_
    rotate_left 1
    · skip
      go_simp
      try simp only [hr]
      refine gives_mk ?_ hS
      with_reducible rfl
    refine all_done (by kernel_rfl) ?_ _
    intro w7 hw7
    have HW7 := Lib.hid hw7.2.2.2.2.2.2
    clear hw7 hr K00 K01 K02 K03 K10 K11 K12 K13 D0 D1 D2 D3 F0 F1 F2 F3
    go_simp
    go_wp2
    go_ret
    exact ⟨rfl, HW7.out⟩
  | false =>
    have hr := HR.out
    refine all_take (i := 0) (v := ?_) rfl (by kernel_rfl) (by kernel_rfl) (by kernel_rfl) (fun _ _ _ h => h) (Tame.yes (by kernel_rfl) fun w hS => ?_) ?_
    rotate_left 1
    · skip
      go_simp
      try simp only [hr]
      refine gives_mk ?_ hS
      with_reducible rfl
    refine all_take (i := 1) (v := ?_) rfl (by kernel_rfl) (by kernel_rfl) (by kernel_rfl) (fun _ _ _ h => h) (Tame.yes (by kernel_rfl) fun w hS => ?_) ?_
    rotate_left 1
    · skip
      go_simp
      try simp only [hr]
      refine gives_mk ?_ hS
      with_reducible rfl
    refine all_take (i := 2) (v := ?_) rfl (by kernel_rfl) (by kernel_rfl) (by kernel_rfl) (fun _ _ _ h => h) (Tame.yes (by kernel_rfl) fun w hS => ?_) ?_
    rotate_left 1
    · skip
      go_simp
      try simp only [hr]
      refine gives_mk ?_ hS
      with_reducible rfl
    refine all_take (i := 3) (v := ?_) rfl (by kernel_rfl) (by kernel_rfl) (by kernel_rfl) (fun _ _ _ h => h) (Tame.yes (by kernel_rfl) fun w hS => ?_) ?_
    rotate_left 1
    · skip
      go_simp
      try simp only [hr]
      refine gives_mk ?_ hS
      with_reducible rfl
    refine all_take (i := 4) (v := ?_) rfl (by kernel_rfl) (by kernel_rfl) (by kernel_rfl) (fun _ _ _ h => h) (Tame.yes (by kernel_rfl) fun w hS => ?_) ?_
    rotate_left 1
    · skip
      go_simp
      try simp only [hr]
      refine gives_mk ?_ hS
      with_reducible rfl
    refine all_take (i := 5) (v := .bool false) rfl (by kernel_rfl) (by kernel_rfl) (by kernel_rfl) (fun _ _ _ h => h) (Tame.yes (by kernel_rfl) fun w hS => ?_) ?_
    · go_simp
      refine gives_call ((same_k k 0 xs t k' 0 xs' t' false HS.out _ _ _ _ _ hS.2.2.2.2.1 hS.2.2.2.2.2.1 (by omega)).mono ?_)
      exact fun r w2 ⟨he, hx⟩ => ⟨he, hS.trans hx⟩
    refine all_take (i := 6) (v := ?_) rfl (by kernel_rfl) (by kernel_rfl) (by kernel_rfl) (fun _ _ _ h => h) (Tame.yes (by kernel_rfl) fun w hS => ?_) ?_
    rotate_left 1
    · skip
      go_simp
      try simp only [hr]
      refine gives_mk ?_ hS
      with_reducible rfl
    refine all_take (i := 7) (v := ?_) rfl (by kernel_rfl) (by kernel_rfl) (by kernel_rfl) (fun _ _ _ h => h) (Tame.yes (by kernel_rfl) fun w hS => ?_) ?_
    rotate_left 1
    · skip
      go_simp
      try simp only [hr]
      refine gives_mk ?_ hS
      with_reducible rfl
    refine all_take (i := 8) (v := ?_) rfl (by kernel_rfl) (by kernel_rfl) (by kernel_rfl) (fun _ _ _ h => h) (Tame.yes (by kernel_rfl) fun w hS => ?_) ?_
    rotate_left 1
    · skip
      go_simp
      try simp only [hr]
      refine gives_mk ?_ hS
      with_reducible rfl
    refine all_take (i := 9) (v := ?_) rfl (by kernel_rfl) (by kernel_rfl) (by kernel_rfl) (fun _ _ _ h => h) (Tame.yes (by kernel_rfl) fun w hS => ?_) ?_
    rotate_left 1
    · skip
      go_simp
      try simp only [hr]
      refine gives_mk ?_ hS
      with_reducible rfl
    refine all_take (i := 10) (v := ?_) rfl (by kernel_rfl) (by kernel_rfl) (by kernel_rfl) (fun _ _ _ h => h) (Tame.yes (by kernel_rfl) fun w hS => ?_) ?_
    rotate_left 1
    · skip
      go_simp
      try simp only [hr]
      refine gives_mk ?_ hS
      with_reducible rfl
    refine all_take (i := 11) (v := ?_) rfl (by kernel_rfl) (by kernel_rfl) (by kernel_rfl) (fun _ _ _ h => h) (Tame.yes (by kernel_rfl) fun w hS => ?_) ?_
    rotate_left 1
    · skip
      go_simp
      try simp only [hr]
      refine gives_mk ?_ hS
      with_reducible rfl
    refine all_take (i := 12) (v := ?_) rfl (by kernel_rfl) (by kernel_rfl) (by kernel_rfl) (fun _ _ _ h => h) (Tame.yes (by kernel_rfl) fun w hS => ?_) ?_
    rotate_left 1
    · skip
      go_simp
      try simp only [hr]
      refine gives_mk ?_ hS
      with_reducible rfl
    refine all_take (i := 13) (v := ?_) rfl (by kernel_rfl) (by kernel_rfl) (by kernel_rfl) (fun _ _ _ h => h) (Tame.yes (by kernel_rfl) fun w hS => ?_) ?_
    rotate_left 1
    · skip
      go_simp
      try simp only [hr]
      refine gives_mk ?_ hS
      with_reducible rfl
    refine all_take (i := 14) (v := ?_) rfl (by kernel_rfl) (by kernel_rfl) (by kernel_rfl) (fun _ _ _ h => h) (Tame.yes (by kernel_rfl) fun w hS => ?_) ?_
    rotate_left 1
    · skip
      go_simp
      try simp only [hr]
      refine gives_mk ?_ hS
      with_reducible rfl
    refine all_take (i := 15) (v := ?_) rfl (by kernel_rfl) (by kernel_rfl) (by kernel_rfl) (fun _ _ _ h => h) (Tame.yes (by kernel_rfl) fun w hS => ?_) ?_
    rotate_left 1
    · skip
      go_simp
      try simp only [hr]
      refine gives_mk ?_ hS
      with_reducible rfl
    refine all_take (i := 16) (v := ?_) rfl (by kernel_rfl) (by kernel_rfl) (by kernel_rfl) (fun _ _ _ h => h) (Tame.yes (by kernel_rfl) fun w hS => ?_) ?_
    rotate_left 1
    · skip
      go_simp
      try simp only [hr]
      refine gives_mk ?_ hS
      with_reducible rfl
    refine all_take (i := 17) (v := ?_) rfl (by kernel_rfl) (by kernel_rfl) (by kernel_rfl) (fun _ _ _ h => h) (Tame.yes (by kernel_rfl) fun w hS => ?_) ?_
    rotate_left 1
    · skip
      go_simp
      try simp only [hr]
      refine gives_mk ?_ hS
      with_reducible rfl
    refine all_take (i := 18) (v := ?_) rfl (by kernel_rfl) (by kernel_rfl) (by kernel_rfl) (fun _ _ _ h => h) (Tame.yes (by kernel_rfl) fun w hS => ?_) ?_
    rotate_left 1
    · skip
      go_simp
      try simp only [hr]
      refine gives_mk ?_ hS
      with_reducible rfl
    refine all_take (i := 19) (v := ?_) rfl (by kernel_rfl) (by kernel_rfl) (by kernel_rfl) (fun _ _ _ h => h) (Tame.yes (by kernel_rfl) fun w hS => ?_) ?_
    rotate_left 1
    · skip
      go_simp
      try simp only [hr]
      refine gives_mk ?_ hS
      with_reducible rfl
    refine all_done (by kernel_rfl) ?_ _
    intro w7 hw7
    have HW7 := Lib.hid hw7.2.2.2.2.2.2
    clear hw7 hr K00 K01 K02 K03 K10 K11 K12 K13 D0 D1 D2 D3 F0 F1 F2 F3
    go_simp
    go_wp2
    go_ret
    exact ⟨rfl, HW7.out⟩
theorem walk_BufApart (v : Value) (a : Ev) (u : Value) (b : Ev) (n : Int) (w : World) (ha : EvAt w v a) (_ : EvIn a) (hb : EvAt w u b) (_ : EvIn b) (_ : (Lit.int .i64 n).wf = true) :
    Calls Try.prog 7 #[v, u, .int .i64 n] w fun e w' => e = .returned (.bool true) ∧ Ext w w' := by
  obtain ⟨A, c, rfl, hI⟩ := ha
  obtain ⟨A', c', rfl, hI'⟩ := hb
  obtain ⟨k, d, xs, t⟩ := a
  obtain ⟨k', d', xs', t'⟩ := b
  cases hsh : Ev.short [⟨k, d, xs, t⟩, ⟨k', d', xs', t'⟩] with
  | false => exact uapart_short A A' c c' k d k' d' xs xs' t t' n w hI hI' hsh
  | true =>
    obtain ⟨h1, h2, h3, h4⟩ := Ev.short_two hsh
    simp only at h1 h2 h3 h4
    rcases Bu.apart n k d k' d' xs xs' t t' h1 h3 h2 h4 with ⟨e1, e2, bd, bf, r, p1, p2, p3, p4, s1, s2, hs, hr⟩ | ⟨c0, c1, c2, c3, p, d0, d1, d2, d3, q, e0, e1, e2, e3, r, f0, f1, f2, f3, s, p1, p2, p3, p4, s1, s2, hpq, hrs⟩
    · exact uapart_ok A A' c c' k d k' d' xs xs' t t' n w hI hI' hsh h1 h3 h2 h4 e1 e2 bd bf r p1 p2 p3 p4 s1 s2 hs hr
    · exact uapart_no A A' c c' k d k' d' xs xs' t t' n w hI hI' hsh h1 h3 h2 h4 c0 c1 c2 c3 p d0 d1 d2 d3 q e0 e1 e2 e3 r f0 f1 f2 f3 s p1 p2 p3 p4 s1 s2 hpq hrs

end Go.Proofs.Ytcdfpifhjjiioaa
