/-
  Contracts of package batch: which batches may be, and a batch's bytes.
-/
import Derived.Test.YtcdfpifhjjiioaaBa
import Derived.Test.YtcdfpifhjjiioaaEv
set_option linter.unusedVariables false
set_option linter.unusedSimpArgs false
namespace Go.Proofs.Ytcdfpifhjjiioaa
open Go.RowKit

theorem bnumber_any (n : Int) (w : World) : Calls Try.prog 42 #[.int .i64 n] w fun e w' => e = .returned (.bool (Ev.ok n)) ∧ w = w' := by
  unfold Ev.ok
  by_cases h : 0 ≤ n
  · by_cases h2 : n < 4611686018427387904
    · rw [decide_eq_true (show 0 ≤ n ∧ n < 4611686018427387904 from ⟨h, h2⟩)]
      go_enter Try.func42, Try.ntmps42
      go_wp2
      go_ret
      exact ⟨rfl, rfl⟩
    · rw [decide_eq_false (show ¬ (0 ≤ n ∧ n < 4611686018427387904) by omega)]
      have hd : decide (n < 4611686018427387904) = false := by simp; omega
      clear h2
      go_enter Try.func42, Try.ntmps42
      go_wp2
      go_ret
      exact ⟨rfl, rfl⟩
  · rw [decide_eq_false (show ¬ (0 ≤ n ∧ n < 4611686018427387904) by omega)]
    have hd : decide (0 ≤ n) = false := by simp; omega
    go_enter Try.func42, Try.ntmps42
    go_wp2
    go_ret
    exact ⟨rfl, rfl⟩
theorem bnumber_eq (n : Int) (b : Bool) (h : Ev.ok n = b) (w : World) : Calls Try.prog 42 #[.int .i64 n] w fun e w' => e = .returned (.bool b) ∧ w = w' := by subst h; exact bnumber_any n w

set_option maxRecDepth 100000 in
set_option maxHeartbeats 1000000 in
theorem bmay_any (g st ba : Int) (bo : ByteArray) (w : World) : Calls Try.prog 23 #[.agg #[.int .i64 g, .int .i64 st, .int .i64 ba, .string bo]] w fun e w' => e = .returned (.bool (Bt.may ⟨g, st, ba, bo⟩)) ∧ Ext w w' := by
  by_cases h0 : 0 < g
  · cases h1 : Ev.ok g with
    | false =>
      rw [show Bt.may ⟨g, st, ba, bo⟩ = false by simp [Bt.may, h1]]
      have H1 := Lib.hid h1
      clear h1
      go_enter Try.func23, Try.ntmps23
      go_wp2_with fail
      refine (bnumber_eq g false H1.out _).mono ?_
      rintro r w1 ⟨rfl, rfl⟩
      go_wp2
      go_ret
      exact ⟨rfl, (Ext.refl w).alloc _⟩
    | true =>
      cases h2 : Ev.ok st with
      | false =>
        rw [show Bt.may ⟨g, st, ba, bo⟩ = false by simp [Bt.may, h2]]
        have H1 := Lib.hid h1
        have H2 := Lib.hid h2
        clear h1 h2
        go_enter Try.func23, Try.ntmps23
        go_wp2_with fail
        refine (bnumber_eq g true H1.out _).mono ?_
        rintro r w1 ⟨rfl, rfl⟩
        go_wp2_with fail
        refine (bnumber_eq st false H2.out _).mono ?_
        rintro r w1 ⟨rfl, rfl⟩
        go_wp2
        go_ret
        exact ⟨rfl, (Ext.refl w).alloc _⟩
      | true =>
        cases h3 : Ev.ok ba with
        | false =>
          rw [show Bt.may ⟨g, st, ba, bo⟩ = false by simp [Bt.may, h3]]
          have H1 := Lib.hid h1
          have H2 := Lib.hid h2
          have H3 := Lib.hid h3
          clear h1 h2 h3
          go_enter Try.func23, Try.ntmps23
          go_wp2_with fail
          refine (bnumber_eq g true H1.out _).mono ?_
          rintro r w1 ⟨rfl, rfl⟩
          go_wp2_with fail
          refine (bnumber_eq st true H2.out _).mono ?_
          rintro r w1 ⟨rfl, rfl⟩
          go_wp2_with fail
          refine (bnumber_eq ba false H3.out _).mono ?_
          rintro r w1 ⟨rfl, rfl⟩
          go_wp2
          go_ret
          exact ⟨rfl, (Ext.refl w).alloc _⟩
        | true =>
          have HB : Hid (Bt.may ⟨g, st, ba, bo⟩ = decide (bo.size ≤ 65536)) := Lib.hid (by simp [Bt.may, h1, h2, h3, h0])
          have H1 := Lib.hid h1
          have H2 := Lib.hid h2
          have H3 := Lib.hid h3
          clear h1 h2 h3
          rw [HB.out]
          clear HB
          go_enter Try.func23, Try.ntmps23
          go_wp2_with fail
          refine (bnumber_eq g true H1.out _).mono ?_
          rintro r w1 ⟨rfl, rfl⟩
          go_wp2_with fail
          refine (bnumber_eq st true H2.out _).mono ?_
          rintro r w1 ⟨rfl, rfl⟩
          go_wp2_with fail
          refine (bnumber_eq ba true H3.out _).mono ?_
          rintro r w1 ⟨rfl, rfl⟩
          go_wp2
          go_ret
          exact ⟨by simp; omega, (Ext.refl w).alloc _⟩
  · rw [show Bt.may ⟨g, st, ba, bo⟩ = false by simp [Bt.may, h0]]
    go_enter Try.func23, Try.ntmps23
    go_wp2
    go_ret
    exact ⟨rfl, (Ext.refl w).alloc _⟩
theorem bmay_eq (g st ba : Int) (bo : ByteArray) (b : Bool) (h : Bt.may ⟨g, st, ba, bo⟩ = b) (w : World) : Calls Try.prog 23 #[.agg #[.int .i64 g, .int .i64 st, .int .i64 ba, .string bo]] w fun e w' => e = .returned (.bool b) ∧ Ext w w' := by
  subst h; exact bmay_any g st ba bo w

theorem Bt.enc_str {g st ba : Int} {bo : ByteArray} (h : Bt.may ⟨g, st, ba, bo⟩ = true) : (⟨#[66]⟩ : ByteArray) ++ Wi.nums [g, st, ba] ++ (Va.puts bo.size ++ bo) = Bt.enc ⟨g, st, ba, bo⟩ := by
  obtain ⟨_, h2, _⟩ := Bt.may_parts h
  unfold Wi.nums Bt.enc
  rw [Wi.numsL_ok _ (fun x hx => Ev.ok_wi.1 (h2 x hx)), if_pos h]
  unfold Bt.encL
  apply ByteArray.ext
  apply Array.toList_inj.1
  simp [Va.puts]
theorem Bt.nums_size {g st ba : Int} {bo : ByteArray} (h : Bt.may ⟨g, st, ba, bo⟩ = true) : (Wi.nums [g, st, ba]).size ≤ 27 := by
  obtain ⟨_, h2, _⟩ := Bt.may_parts h
  have h3 : ∀ x ∈ [g, st, ba], Wi.ok x := fun x hx => Ev.ok_wi.1 (h2 x hx)
  unfold Wi.nums
  rw [Wi.numsL_ok _ h3]
  have := Wi.cat_len _ h3
  show (⟨(Wi.cat [g, st, ba]).toArray⟩ : ByteArray).size ≤ 27
  rw [size_mk]
  exact this
def BRow (W : World) (g st ba : Int) (u : Value) (v : World) : Prop := ∃ b, u = .slice (some ⟨b, 0, none⟩) 3 3 ∧ IntsAt v (.slice (some ⟨b, 0, none⟩) 3 3) [g, st, ba] ∧ Ext W v
def BStr (W : World) (s : ByteArray) (u : Value) (v : World) : Prop := u = .string s ∧ Ext W v
theorem BRow.x {W : World} {g st ba : Int} {u : Value} {v : World} (h : BRow W g st ba u v) : Ext W v := by obtain ⟨_, _, _, h⟩ := h; exact h
theorem ints_row3 (v : World) (g st ba : Int) : IntsAt (v.alloc (.cells #[.int .i64 g, .int .i64 st, .int .i64 ba] 3)) (.slice (some ⟨v.heap.size, 0, none⟩) 3 3) [g, st, ba] := ints_new v _ [g, st, ba]
theorem text_T (W : World) (s : ByteArray) (hs : s.size ≤ 140737488351232) (v : World) (hx : Ext W v) : Calls Try.prog 34 #[.string s] v fun e w' => ∃ x, e = .returned x ∧ BStr W (Va.puts s.size ++ s) x w' :=
  (text_w s v hs).mono fun _ _ ⟨he, hx'⟩ => ⟨_, he, rfl, hx.trans hx'⟩
end Go.Proofs.Ytcdfpifhjjiioaa
