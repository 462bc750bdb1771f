/-
  Contracts of package batch: which batches may be, and a batch's bytes.
-/
import Derived.Test.YtlbhpgieehallaaBa
import Derived.Test.YtlbhpgieehallaaEv
set_option linter.unusedVariables false
set_option linter.unusedSimpArgs false
namespace Go.Proofs.Ytlbhpgieehallaa
open Go.RowKit

theorem bnumber_any (n : Int) (w : World) : Calls Try.prog 31 #[.int .i64 n] w fun e w' => e = .returned (.bool (Ev.ok n)) ∧ w = w' := by
  unfold Ev.ok
  by_cases h : 0 ≤ n
  · by_cases h2 : n < 4611686018427387904
    · rw [decide_eq_true (show 0 ≤ n ∧ n < 4611686018427387904 from ⟨h, h2⟩)]
      go_enter Try.func31, Try.ntmps31
      go_wp2
      go_ret
      exact ⟨rfl, rfl⟩
    · rw [decide_eq_false (show ¬ (0 ≤ n ∧ n < 4611686018427387904) by omega)]
      have hd : decide (n < 4611686018427387904) = false := by simp; omega
      clear h2
      go_enter Try.func31, Try.ntmps31
      go_wp2
      go_ret
      exact ⟨rfl, rfl⟩
  · rw [decide_eq_false (show ¬ (0 ≤ n ∧ n < 4611686018427387904) by omega)]
    have hd : decide (0 ≤ n) = false := by simp; omega
    go_enter Try.func31, Try.ntmps31
    go_wp2
    go_ret
    exact ⟨rfl, rfl⟩
theorem bnumber_eq (n : Int) (b : Bool) (h : Ev.ok n = b) (w : World) : Calls Try.prog 31 #[.int .i64 n] w fun e w' => e = .returned (.bool b) ∧ w = w' := by subst h; exact bnumber_any n w

set_option maxRecDepth 100000 in
set_option maxHeartbeats 1000000 in
theorem bmay_any (g st ba : Int) (bo : ByteArray) (w : World) : Calls Try.prog 13 #[.agg #[.int .i64 g, .int .i64 st, .int .i64 ba, .string bo]] w fun e w' => e = .returned (.bool (Bt.may ⟨g, st, ba, bo⟩)) ∧ Ext w w' := by
  by_cases h0 : 0 < g
  · cases h1 : Ev.ok g with
    | false =>
      rw [show Bt.may ⟨g, st, ba, bo⟩ = false by simp [Bt.may, h1]]
      have H1 := Lib.hid h1
      clear h1
      go_enter Try.func13, Try.ntmps13
      go_wp2_with fail
      refine (bnumber_eq g false H1.out _).mono ?_
      rintro r w1 ⟨rfl, rfl⟩
      go_wp2
      go_ret
      exact ⟨rfl, (Ext.refl w).alloc _⟩
    | true =>
      cases h2 : Ev.ok st with
      | false =>
        rw [show Bt.may ⟨g, st, ba, bo⟩ = false by simp [Bt.may, h2]]
        have H1 := Lib.hid h1
        have H2 := Lib.hid h2
        clear h1 h2
        go_enter Try.func13, Try.ntmps13
        go_wp2_with fail
        refine (bnumber_eq g true H1.out _).mono ?_
        rintro r w1 ⟨rfl, rfl⟩
        go_wp2_with fail
        refine (bnumber_eq st false H2.out _).mono ?_
        rintro r w1 ⟨rfl, rfl⟩
        go_wp2
        go_ret
        exact ⟨rfl, (Ext.refl w).alloc _⟩
      | true =>
        cases h3 : Ev.ok ba with
        | false =>
          rw [show Bt.may ⟨g, st, ba, bo⟩ = false by simp [Bt.may, h3]]
          have H1 := Lib.hid h1
          have H2 := Lib.hid h2
          have H3 := Lib.hid h3
          clear h1 h2 h3
          go_enter Try.func13, Try.ntmps13
          go_wp2_with fail
          refine (bnumber_eq g true H1.out _).mono ?_
          rintro r w1 ⟨rfl, rfl⟩
          go_wp2_with fail
          refine (bnumber_eq st true H2.out _).mono ?_
          rintro r w1 ⟨rfl, rfl⟩
          go_wp2_with fail
          refine (bnumber_eq ba false H3.out _).mono ?_
          rintro r w1 ⟨rfl, rfl⟩
          go_wp2
          go_ret
          exact ⟨rfl, (Ext.refl w).alloc _⟩
        | true =>
          have HB : Hid (Bt.may ⟨g, st, ba, bo⟩ = decide (bo.size ≤ 65536)) := Lib.hid (by simp [Bt.may, h1, h2, h3, h0])
          have H1 := Lib.hid h1
          have H2 := Lib.hid h2
          have H3 := Lib.hid h3
          clear h1 h2 h3
          rw [HB.out]
          clear HB
          go_enter Try.func13, Try.ntmps13
          go_wp2_with fail
          refine (bnumber_eq g true H1.out _).mono ?_
          rintro r w1 ⟨rfl, rfl⟩
          go_wp2_with fail
          refine (bnumber_eq st true H2.out _).mono ?_
          rintro r w1 ⟨rfl, rfl⟩
          go_wp2_with fail
          refine (bnumber_eq ba true H3.out _).mono ?_
          rintro r w1 ⟨rfl, rfl⟩
          go_wp2
          go_ret
          exact ⟨by simp; omega, (Ext.refl w).alloc _⟩
  · rw [show Bt.may ⟨g, st, ba, bo⟩ = false by simp [Bt.may, h0]]
    go_enter Try.func13, Try.ntmps13
    go_wp2
    go_ret
    exact ⟨rfl, (Ext.refl w).alloc _⟩
theorem bmay_eq (g st ba : Int) (bo : ByteArray) (b : Bool) (h : Bt.may ⟨g, st, ba, bo⟩ = b) (w : World) : Calls Try.prog 13 #[.agg #[.int .i64 g, .int .i64 st, .int .i64 ba, .string bo]] w fun e w' => e = .returned (.bool b) ∧ Ext w w' := by
  subst h; exact bmay_any g st ba bo w

theorem Bt.enc_str {g st ba : Int} {bo : ByteArray} (h : Bt.may ⟨g, st, ba, bo⟩ = true) : (⟨#[66]⟩ : ByteArray) ++ Wi.nums [g, st, ba] ++ (Va.puts bo.size ++ bo) = Bt.enc ⟨g, st, ba, bo⟩ := by
  obtain ⟨_, h2, _⟩ := Bt.may_parts h
  unfold Wi.nums Bt.enc
  rw [Wi.numsL_ok _ (fun x hx => Ev.ok_wi.1 (h2 x hx)), if_pos h]
  unfold Bt.encL
  apply ByteArray.ext
  apply Array.toList_inj.1
  simp [Va.puts]
theorem Bt.nums_size {g st ba : Int} {bo : ByteArray} (h : Bt.may ⟨g, st, ba, bo⟩ = true) : (Wi.nums [g, st, ba]).size ≤ 27 := by
  obtain ⟨_, h2, _⟩ := Bt.may_parts h
  have h3 : ∀ x ∈ [g, st, ba], Wi.ok x := fun x hx => Ev.ok_wi.1 (h2 x hx)
  unfold Wi.nums
  rw [Wi.numsL_ok _ h3]
  have := Wi.cat_len _ h3
  show (⟨(Wi.cat [g, st, ba]).toArray⟩ : ByteArray).size ≤ 27
  rw [size_mk]
  exact this
def BRow (W : World) (g st ba : Int) (u : Value) (v : World) : Prop := ∃ b, u = .slice (some ⟨b, 0, none⟩) 3 3 ∧ IntsAt v (.slice (some ⟨b, 0, none⟩) 3 3) [g, st, ba] ∧ Ext W v
def BStr (W : World) (s : ByteArray) (u : Value) (v : World) : Prop := u = .string s ∧ Ext W v
theorem BRow.x {W : World} {g st ba : Int} {u : Value} {v : World} (h : BRow W g st ba u v) : Ext W v := by obtain ⟨_, _, _, h⟩ := h; exact h
theorem ints_row3 (v : World) (g st ba : Int) : IntsAt (v.alloc (.cells #[.int .i64 g, .int .i64 st, .int .i64 ba] 3)) (.slice (some ⟨v.heap.size, 0, none⟩) 3 3) [g, st, ba] := ints_new v _ [g, st, ba]
theorem nums_T (W : World) (g st ba : Int) (u : Value) (v : World) (h : IntsAt v u [g, st, ba]) (hx : Ext W v) : Calls Try.prog 34 #[u] v fun e w' => ∃ x, e = .returned x ∧ BStr W (Wi.nums [g, st, ba]) x w' :=
  (nums_any u [g, st, ba] v h (by simp)).mono fun _ _ ⟨he, hx'⟩ => ⟨_, he, rfl, hx.trans hx'⟩
theorem text_T (W : World) (s : ByteArray) (hs : s.size ≤ 140737488351232) (v : World) (hx : Ext W v) : Calls Try.prog 35 #[.string s] v fun e w' => ∃ x, e = .returned x ∧ BStr W (Va.puts s.size ++ s) x w' :=
  (text_w s v hs).mono fun _ _ ⟨he, hx'⟩ => ⟨_, he, rfl, hx.trans hx'⟩
set_option maxRecDepth 100000 in
set_option maxHeartbeats 1000000 in
theorem benc_in (g st ba : Int) (bo : ByteArray) (w : World) (hm : Bt.may ⟨g, st, ba, bo⟩ = true) : Calls Try.prog 15 #[.agg #[.int .i64 g, .int .i64 st, .int .i64 ba, .string bo]] w fun e w' => e = .returned (.string (Bt.enc ⟨g, st, ba, bo⟩)) ∧ Ext w w' := by
  have HM := Lib.hid hm
  have HE := Lib.hid (Bt.enc_str hm)
  have hns := Bt.nums_size hm
  obtain ⟨_, _, hbo⟩ := Bt.may_parts hm
  simp only at hbo
  have h9 : (Va.puts bo.size).size ≤ 9 := by have := @Va.puts_nine (bo.size : Int) (by omega) (by omega); simpa using this
  clear hm
  go_enter Try.func15, Try.ntmps15
  go_wp2_with fail
  refine (bmay_eq g st ba bo true HM.out _).mono ?_
  rintro r w1 ⟨rfl, hx1⟩
  have HX1 := Lib.hid hx1
  clear hx1
  go_wp2
  have K0 : ∀ v, Ext w1 v → v.cell? ⟨w.heap.size, 0, none⟩ = some (.int .i64 g) := fun v hv => Ext.box (HX1.out.trans hv) 0 _ rfl
  have K1 : ∀ v, Ext w1 v → v.cell? ⟨w.heap.size, 1, none⟩ = some (.int .i64 st) := fun v hv => Ext.box (HX1.out.trans hv) 1 _ rfl
  have K2 : ∀ v, Ext w1 v → v.cell? ⟨w.heap.size, 2, none⟩ = some (.int .i64 ba) := fun v hv => Ext.box (HX1.out.trans hv) 2 _ rfl
  have K3 : ∀ v, Ext w1 v → v.cell? ⟨w.heap.size, 3, none⟩ = some (.string bo) := fun v hv => Ext.box (HX1.out.trans hv) 3 _ rfl
  have h99 : (9223372036854775807 < 1 + (Wi.nums [g, st, ba]).size) = False := by simp; omega
  have h98 : (9223372036854775807 < 1 + (Wi.nums [g, st, ba]).size + ((Va.puts bo.size).size + bo.size)) = False := by simp; omega
  refine region_g 99 (fun v => Ext w1 v) (fun v => Ext w1 v) (by kernel_rfl) (Ext.refl w1).drew ?_
  have HG : ∀ (l : Array Bool) v, Ext w1 v → l.getD 99 false = false → Ext w1 v := fun _ _ h _ => h
  refine g_take (HG _) (i := 0) (v := ?_) rfl (by kernel_rfl) (by kernel_rfl) (by kernel_rfl) (by kernel_rfl) (by kernel_rfl) (fun _ _ _ h => h) (Still.yes (by kernel_rfl) fun w hS => ?_) ?_
  rotate_left 1
  · skip
    go_simp
    refine gives_mk ?_ rfl
    with_reducible rfl
  refine g_take (HG _) (i := 1) (v := ?_) rfl (by kernel_rfl) (by kernel_rfl) (by kernel_rfl) (by kernel_rfl) (by kernel_rfl) (fun _ _ _ h => h) (Still.yes (by kernel_rfl) fun w hS => ?_) ?_
  rotate_left 1
  · skip
    go_simp
    refine gives_mk ?_ rfl
    with_reducible rfl
  refine g_take (HG _) (i := 2) (v := ?_) rfl (by kernel_rfl) (by kernel_rfl) (by kernel_rfl) (by kernel_rfl) (by kernel_rfl) (fun _ _ _ h => h) (Still.yes (by kernel_rfl) fun w hS => ?_) ?_
  rotate_left 1
  · skip
    go_simp
    refine gives_mk ?_ rfl
    with_reducible rfl
  refine g_take (HG _) (i := 3) (v := ?_) rfl (by kernel_rfl) (by kernel_rfl) (by kernel_rfl) (by kernel_rfl) (by kernel_rfl) (fun _ _ _ h => h) (Still.yes (by kernel_rfl) fun w hS => ?_) ?_
  rotate_left 1
  · skip
    go_simp
    refine gives_mk ?_ rfl
    with_reducible rfl
  refine g_take (HG _) (i := 4) (v := ?_) rfl (by kernel_rfl) (by kernel_rfl) (by kernel_rfl) (by kernel_rfl) (by kernel_rfl) (fun _ _ _ h => h) (Still.yes (by kernel_rfl) fun w hS => ?_) ?_
  rotate_left 1
  · skip
    go_simp
    refine gives_mk ?_ rfl
    with_reducible rfl
  refine g_take (HG _) (i := 5) (v := ?_) rfl (by kernel_rfl) (by kernel_rfl) (by kernel_rfl) (by kernel_rfl) (by kernel_rfl) (fun _ _ _ h => h) (Still.yes (by kernel_rfl) fun w hS => ?_) ?_
  rotate_left 1
  · skip
    go_simp
    refine gives_mk ?_ rfl
    with_reducible rfl
  refine g_take (HG _) (i := 9) (v := ?_) rfl (by kernel_rfl) (by kernel_rfl) (by kernel_rfl) (by kernel_rfl) (by kernel_rfl) (fun _ _ _ h => h) (Still.yes (by kernel_rfl) fun w hS => ?_) ?_
  rotate_left 1
  · skip
    go_simp
    refine gives_mk ?_ rfl
    with_reducible rfl
  refine g_take (HG _) (i := 10) (v := ?_) rfl (by kernel_rfl) (by kernel_rfl) (by kernel_rfl) (by kernel_rfl) (by kernel_rfl) (fun _ _ _ h => h) (Still.yes (by kernel_rfl) fun w hS => ?_) ?_
  rotate_left 1
  · skip
    go_simp
    refine gives_mk ?_ rfl
    with_reducible rfl
  refine g_turn (BRow w1 g st ba) (k := 6) (by kernel_rfl) (fun _ _ h _ => h.x) (fun v hv => ?_)
  refine at_value rfl (by kernel_rfl) (by go_simp; exact ⟨_, _, ⟨rfl, rfl⟩, v.heap.size, rfl, ints_row3 v g st ba, hv.alloc _⟩) ?_
  rintro u ⟨_, b, rfl, _⟩
  refine g_turn (BStr w1 (Wi.nums [g, st, ba])) (k := 7) (by kernel_rfl) (fun _ _ h _ => h.2) (fun v hv => ?_)
  obtain ⟨b', hb', hI, hvx⟩ := hv
  simp only [Value.slice.injEq, Option.some.injEq, Addr.mk.injEq, and_true] at hb'
  subst hb'
  refine at_call (S := fun _ => True) rfl (by kernel_rfl) (by go_simp; (try exact ⟨rfl, rfl⟩)) (nums_T w1 g st ba _ v hI hvx) ?_
  clear hI hvx
  rintro u ⟨_, rfl, _⟩
  have HG : ∀ (l : Array Bool) v, BStr w1 (Wi.nums [g, st, ba]) (.string (Wi.nums [g, st, ba])) v → l.getD 99 false = false → Ext w1 v := fun _ _ h _ => h.2
  refine g_free (HG _) (i := 8) (v := ?_) rfl (by kernel_rfl) (by kernel_rfl) (by kernel_rfl) (by kernel_rfl) (fun _ _ _ h => h) (Still.yes (by kernel_rfl) fun w hS => ?_) ?_
  rotate_left 1
  · skip
    go_simp
    try simp only [h99, if_false]
    refine gives_mk ?_ rfl
    with_reducible rfl
  refine g_turn (BStr w1 (Va.puts bo.size ++ bo)) (k := 11) (by kernel_rfl) (fun _ _ h _ => h.2) (fun v hv => ?_)
  refine at_call (S := fun _ => True) rfl (by kernel_rfl) (by go_simp; (try exact ⟨rfl, rfl⟩)) (text_T w1 bo (by omega) v hv.2) ?_
  rintro u ⟨_, rfl, _⟩
  have HG : ∀ (l : Array Bool) v, BStr w1 (Va.puts bo.size ++ bo) (.string (Va.puts bo.size ++ bo)) v → l.getD 99 false = false → Ext w1 v := fun _ _ h _ => h.2
  refine g_free (HG _) (i := 12) (v := ?_) rfl (by kernel_rfl) (by kernel_rfl) (by kernel_rfl) (by kernel_rfl) (fun _ _ _ h => h) (Still.yes (by kernel_rfl) fun w hS => ?_) ?_
  rotate_left 1
  · skip
    go_simp
    try simp only [h98, if_false]
    refine gives_mk ?_ rfl
    with_reducible rfl
  refine g_free (HG _) (i := 13) (v := ?_) rfl (by kernel_rfl) (by kernel_rfl) (by kernel_rfl) (by kernel_rfl) (fun _ _ _ h => h) (Still.yes (by kernel_rfl) fun w hS => ?_) ?_
  rotate_left 1
  · skip
    go_simp
    try simp only [h98, if_false]
    refine gives_mk ?_ rfl
    with_reducible rfl
  refine g_done (by kernel_rfl) ?_ _
  intro v hv
  have HV := Lib.hid hv.2
  clear K0 K1 K2 K3 hv h99 h98
  go_simp
  go_wp2
  go_ret
  exact ⟨by rw [← HE.out]; rfl, (((Ext.refl w).alloc _).trans HX1.out).trans HV.out⟩
set_option maxRecDepth 100000 in
set_option maxHeartbeats 1000000 in
theorem benc_any (g st ba : Int) (bo : ByteArray) (w : World) : Calls Try.prog 15 #[.agg #[.int .i64 g, .int .i64 st, .int .i64 ba, .string bo]] w fun e w' => e = .returned (.string (Bt.enc ⟨g, st, ba, bo⟩)) ∧ Ext w w' := by
  cases hm : Bt.may ⟨g, st, ba, bo⟩ with
  | true => exact benc_in g st ba bo w hm
  | false =>
    rw [Bt.enc_no hm]
    have HM := Lib.hid hm
    clear hm
    go_enter Try.func15, Try.ntmps15
    go_wp2_with fail
    refine (bmay_eq g st ba bo false HM.out _).mono ?_
    rintro r w1 ⟨rfl, hx1⟩
    go_wp2
    go_ret
    exact ⟨rfl, ((Ext.refl w).alloc _).trans hx1⟩
theorem benc_eq (g st ba : Int) (bo : ByteArray) (s : ByteArray) (h : Bt.enc ⟨g, st, ba, bo⟩ = s) (w : World) : Calls Try.prog 15 #[.agg #[.int .i64 g, .int .i64 st, .int .i64 ba, .string bo]] w fun e w' => e = .returned (.string s) ∧ Ext w w' := by
  subst h; exact benc_any g st ba bo w

end Go.Proofs.Ytlbhpgieehallaa
