/-
  The walk of the statement BatchPlace.
-/
import Derived.Test.YtlbhpgieehallaaBl
import Derived.Test.YtlbhpgieehallaaLe
set_option linter.unusedVariables false
set_option linter.unusedSimpArgs false
namespace Go.Proofs.Ytlbhpgieehallaa
open Go.RowKit

theorem Ev.encs_cat : ∀ (l : List Ev), (∀ e ∈ l, e.may = true) → (Ev.encs l).data.toList = Ev.catL l
  | [], _ => rfl
  | e :: l, h => by
    have h1 := Ev.encs_cat l fun x hx => h x (by simp [hx])
    have h2 : e.enc.data.toList = e.encL := by unfold Ev.enc; rw [if_pos (h e (by simp))]
    unfold Ev.encs at h1 ⊢
    simp only [List.map_cons, List.flatten_cons] at h1 ⊢
    have e1 : Ev.catL (e :: l) = e.encL ++ Ev.catL l := by simp [Ev.catL]
    rw [e1, h2]
    exact congrArg (e.encL ++ ·) h1
theorem Bt.sum_le : ∀ (l : List Ev), (∀ e ∈ l, e.may = true ∧ e.dt ≤ 1000000) → 0 ≤ Bt.sum l ∧ Bt.sum l ≤ 1000000 * l.length
  | [], _ => by simp [Bt.sum]
  | e :: l, h => by
    obtain ⟨i1, i2⟩ := Bt.sum_le l fun x hx => h x (by simp [hx])
    obtain ⟨hm, hd⟩ := h e (by simp)
    have h1 := Ev.ok_wi.1 (Ev.may_dt hm)
    unfold Wi.ok at h1
    rw [Bt.sum_cons, List.length_cons]
    omega
theorem Bt.place {l : List Ev} {s : ByteArray} (h : ∀ e ∈ l, e.may = true ∧ e.dt ≤ 1000000) (hsh : ∀ e ∈ l, Ev.short1 e = true) (hl : l.length ≤ 60) (hs : s.size ≤ 1000) :
    Bt.events ⟨1, 0, 0, (Ev.encs l ++ ⟨#[0]⟩) ++ s⟩ = ([], [], (Ev.encs l).size, 30) := by
  have hcat := Ev.encs_cat l fun e he => (h e he).1
  have hz1 := Ev.catL_le l fun e he => ⟨(h e he).1, hsh e he⟩
  have hez : (Ev.encs l).size = (Ev.catL l).length := by rw [← hcat]; simp
  have hbz : ((Ev.encs l ++ ⟨#[0]⟩) ++ s).size = (Ev.catL l).length + 1 + s.size := by rw [ByteArray.size_append, ByteArray.size_append, hez]; rfl
  have hbd : ((Ev.encs l ++ ⟨#[0]⟩) ++ s).data.toList = Ev.catL l ++ (0 :: s.data.toList) := by
    rw [ByteArray.data_append, ByteArray.data_append, Array.toList_append, Array.toList_append, hcat]; simp
  have hm : Bt.may ⟨1, 0, 0, (Ev.encs l ++ ⟨#[0]⟩) ++ s⟩ = true := by
    unfold Bt.may
    have h1 : Ev.ok 1 = true := by decide
    have h0 : Ev.ok 0 = true := by decide
    simp only [h1, h0, hbz]
    simp
    omega
  have hll : l.length ≤ (Ev.catL l).length := by
    clear hcat hz1 hez hbz hbd hm hsh hl
    induction l with
    | nil => exact Nat.le_refl _
    | cons e l ih =>
      have h1 := ih fun x hx => h x (by simp [hx])
      have e1 : Ev.catL (e :: l) = e.encL ++ Ev.catL l := by simp [Ev.catL]
      rw [e1, List.length_append, List.length_cons]
      have : 0 < e.encL.length := by unfold Ev.encL; simp
      omega
  obtain ⟨hs0, hs1⟩ := Bt.sum_le l h
  unfold Bt.events
  rw [if_pos hm]
  simp only
  generalize ((Ev.encs l ++ ⟨#[0]⟩) ++ s) = B at *
  have hf : B.size + 1 = l.length + ((B.size - l.length) + 1) := by omega
  rw [hf]
  rcases Bt.run_list B l ((B.size - l.length) + 1) 0 0 (0 :: s.data.toList) (fun e he => ⟨(h e he).1, by have := hsh e he; unfold Ev.short1 at this; simp at this; unfold Va.most; omega⟩) (by rw [List.drop_zero, hbd]) with h1 | ⟨_, h2⟩
  · have hr : Bt.run B ((B.size - l.length) + 1) (0 + Bt.sum l) (0 + (Ev.catL l).length) = ([], [], (Ev.catL l).length, 30) := by
      unfold Bt.run
      rw [Nat.zero_add, if_neg (by omega), hbd, List.drop_left]
      have hd : Ev.dec (0 :: s.data.toList) = (Ev.zero, 0, 30) := by
        simp only [Ev.dec]
        rw [if_neg (by decide)]
      rw [hd]
      rfl
    rw [h1, hr, Bt.comb_err _ _ _ _ (by decide), hez]
  · exact absurd ⟨by omega, by omega⟩ h2
theorem rmay_k' (k d : Int) (xs : List Int) (t : ByteArray) (b : Bool) (h : Ev.may ⟨k, d, xs, t⟩ = b) (A : Option Addr) (c : Nat) (w : World) (hI : IntsAt w (.slice A xs.length c) xs) (hn : xs.length ≤ 1000000) :
    Calls Try.prog 21 #[.agg #[.int .i64 k, .int .i64 d, .slice A xs.length c, .string t]] w fun r w' => r = .returned (.bool b) ∧ Ext w w' :=
  rmay_b _ ⟨k, d, xs, t⟩ b h w ⟨A, c, rfl, hI⟩ hn
theorem short_eq' (v : Value) (l : List Ev) (b : Bool) (hb : Ev.short l = b) (w : World) (h : EvsAt w v l) (hn : l.length ≤ 9223372036854775807) :
    Calls Try.prog 19 #[v] w fun e w' => e = .returned (.bool b) ∧ w = w' := by subst hb; exact short_any v l w h hn
set_option maxRecDepth 100000 in
set_option maxHeartbeats 1000000 in
theorem bplace_out (v : Value) (l : List Ev) (s : ByteArray) (w : World) (h : EvsAt w v l) (hl : l.length ≤ maxLen) (hs : s.size ≤ maxLen) (sh : Bool) (hsh : Ev.short l = sh) (ho : sh = false ∨ (sh = true ∧ 1000 < s.size)) :
    Calls Try.prog 7 #[v, .string s] w fun e w' => e = .returned (.bool true) ∧ Ext w w' := by
  unfold maxLen at hs
  have HSH := Lib.hid hsh
  clear hsh
  rcases ho with rfl | ⟨rfl, h1⟩
  all_goals
    go_enter Try.func7, Try.ntmps7
    go_wp2_with fail
    refine (bfixed_yes _).mono ?_
    rintro r w1 ⟨rfl, hx1⟩
    go_wp2_with fail
    refine (short_eq' v l _ HSH.out _ (h.ext hx1) hl).mono ?_
    rintro r w2 ⟨rfl, rfl⟩
    go_wp2_with fail
    refine (bfixed_yes _).mono ?_
    rintro r w2 ⟨rfl, hx2⟩
    go_wp2
    go_ret
    exact ⟨rfl, hx1.trans hx2⟩
set_option maxRecDepth 100000 in
set_option maxHeartbeats 1000000 in
theorem bplace_in (A : Option Addr) (c : Nat) (l : List Ev) (s : ByteArray) (w : World) (hA : 0 < l.length → ∃ b o, A = some ⟨b, o, none⟩ ∧ b < w.heap.size ∧ ∀ j e, l[j]? = some e → EvCell w b (o + j * 4) e) (hsh : Ev.short l = true) (hs : s.size ≤ 1000) :
    Calls Try.prog 7 #[.slice A l.length c, .string s] w fun e w' => e = .returned (.bool true) ∧ Ext w w' := by
  have HEv : Hid (EvsAt w (.slice A l.length c) l) := Lib.hid ⟨A, c, rfl, hA⟩
  have HA := Lib.hid hA
  have HSH := Lib.hid hsh
  have hsh2 := hsh
  unfold Ev.short at hsh2
  simp only [Bool.and_eq_true, List.all_eq_true, decide_eq_true_eq] at hsh2
  obtain ⟨hall, h60⟩ := hsh2
  have HALL := Lib.hid hall
  clear hA hsh hall
  go_enter Try.func7, Try.ntmps7
  go_wp2_with fail
  refine (bfixed_yes _).mono ?_
  rintro r w1 ⟨rfl, hx1⟩
  have HX1 := Lib.hid hx1
  clear hx1
  go_wp2_with fail
  refine (short_eq' _ l true HSH.out _ (HEv.out.ext HX1.out) (by omega)).mono ?_
  rintro r w2 ⟨rfl, rfl⟩
  go_wp2
  go_loopw [5] (fun i wr => ∃ j : Nat, j ≤ l.length ∧ i = .int .i64 j ∧ (∀ e ∈ l.take j, e.may = true ∧ e.dt ≤ 1000000) ∧ Ext w wr) (fun i _ => l.length - (intOf i).toNat)
  case atStart => exact ⟨0, by omega, rfl, by simp, HX1.out⟩
  case round =>
    clear HX1
    obtain ⟨j, hj, rfl, hmay, hx⟩ := hrel
    have HX := Lib.hid hx
    have HMAY := Lib.hid hmay
    clear hx hmay
    by_cases hlt : j < l.length
    · have HT : Hid (l.take (j + 1) = l.take j ++ [l[j]]) := Lib.hid (by rw [List.take_succ_eq_append_getElem hlt])
      obtain ⟨b, o, rfl, hb, hc⟩ := HA.out (by omega)
      have HEL : Hid (EvCell w b (o + j * 4) l[j]) := Lib.hid (hc j _ (List.getElem?_eq_getElem hlt))
      have HSZ := Lib.hid (HALL.out l[j] (List.getElem_mem hlt))
      clear hc
      generalize l[j] = e at *
      obtain ⟨k', d', xs', t'⟩ := e
      obtain ⟨A', c', e0, e1, e2, e3, hi⟩ := HEL.out.ext HX.out hb
      have HI := Lib.hid hi
      have hz1 : xs'.length ≤ 20 := by have := HSZ.out; unfold Ev.short1 at this; simp at this; omega
      simp only at e0 e1 e2 e3
      clear hi
      cases hm : Ev.may ⟨k', d', xs', t'⟩ with
      | false =>
        have HM := Lib.hid hm
        clear hm
        go_wp2_with fail
        refine (rmay_k' k' d' xs' t' false HM.out _ _ _ HI.out (by omega)).mono ?_
        rintro r w4 ⟨rfl, hx4⟩
        go_wp2
        go_ret
        exact ⟨rfl, HX.out.trans hx4⟩
      | true =>
        have HM := Lib.hid hm
        clear hm
        go_wp2_with fail
        refine (rmay_k' k' d' xs' t' true HM.out _ _ _ HI.out (by omega)).mono ?_
        rintro r w4 ⟨rfl, hx4⟩
        have HX4 := Lib.hid (HX.out.trans hx4)
        clear e0 e1 e2 e3 hx4
        obtain ⟨A2, c2, e0, e1, e2, e3, hi⟩ := HEL.out.ext HX4.out hb
        simp only at e0 e1 e2 e3
        clear hi
        by_cases hd : d' ≤ 1000000
        · go_wp2
          go_roundw
          case rel =>
            refine ⟨j + 1, by omega, by go_num, ?_, HX4.out⟩
            rw [HT.out]
            intro x hx
            rcases List.mem_append.1 hx with hx | hx
            · exact HMAY.out x hx
            · rw [List.mem_singleton.1 hx]; exact ⟨HM.out, hd⟩
          case measure => simp [intOf]; omega
        · have hd' : 1000000 < d' := by omega
          clear hd
          go_wp2
          go_ret
          exact ⟨rfl, HX4.out⟩
    · obtain rfl : j = l.length := by omega
      have hm : ∀ e ∈ l, e.may = true ∧ e.dt ≤ 1000000 := by have := HMAY.out; rwa [List.take_length] at this
      have HPL := Lib.hid (Bt.place (s := s) hm HALL.out h60 hs)
      have HZ : Hid (∀ e ∈ l, e.args.length ≤ 1000 ∧ e.text.size ≤ 1000000) := Lib.hid fun e he => by
        have := HALL.out e he; unfold Ev.short1 at this; simp at this; omega
      have hes : (Ev.encs l).size ≤ 30000 := by
        have h1 := Ev.catL_le l fun e he => ⟨(hm e he).1, HALL.out e he⟩
        have h2 : (Ev.encs l).size = (Ev.catL l).length := by rw [← Ev.encs_cat l fun e he => (hm e he).1]; simp
        omega
      clear hm HMAY
      obtain ⟨hd, hhd⟩ : ∃ b, Ev.encs l = b := ⟨_, rfl⟩
      have HHD := Lib.hid hhd
      rw [hhd] at HPL hes
      clear hhd
      go_wp2_with fail
      refine (rbytes_eq _ l hd HHD.out _ (HEv.out.ext HX.out) HZ.out (by omega)).mono ?_
      rintro r w4 ⟨rfl, hx4⟩
      have HX4 := Lib.hid (HX.out.trans hx4)
      clear hx4
      go_wp2_with fail
      refine (bevents_eq 1 0 0 _ [] [] _ 30 HPL.out _).mono ?_
      rintro r w5 ⟨A2, c2, A2', c2', rfl, hev, htv, hx5⟩
      clear hev htv
      go_wp2
      go_ret
      exact ⟨by simp, HX4.out.trans hx5⟩
theorem walk_BatchPlace (v : Value) (l : List Ev) (s : ByteArray) (w : World) (h : EvsAt w v l) (hl : l.length ≤ maxLen) (_ : ∀ e ∈ l, EvIn e) (hs : s.size ≤ maxLen) :
    Calls Try.prog 7 #[v, .string s] w fun e w' => e = .returned (.bool true) ∧ Ext w w' := by
  cases hsh : Ev.short l with
  | false => exact bplace_out v l s w h hl hs _ hsh (.inl rfl)
  | true =>
    by_cases h1 : s.size ≤ 1000
    · obtain ⟨A, c, rfl, hA⟩ := h
      exact bplace_in A c l s w hA hsh h1
    · exact bplace_out v l s w h hl hs _ hsh (.inr ⟨rfl, by omega⟩)

end Go.Proofs.Ytlbhpgieehallaa
