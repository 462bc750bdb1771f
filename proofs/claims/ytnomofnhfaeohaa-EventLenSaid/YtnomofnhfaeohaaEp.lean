/-
  The walk of the statement EventExp: for every two numbers and every text it returns true.
-/
import Derived.Test.YtnomofnhfaeohaaEo
import Derived.Test.YtnomofnhfaeohaaLp
set_option linter.unusedVariables false
set_option linter.unusedSimpArgs false
namespace Go.Proofs.Ytnomofnhfaeohaa
open Go.RowKit

theorem Ev.dec_at {e : Ev} (h : e.may = true) (ht : e.text.size < Va.most) (s : ByteArray) (a : Nat) (r : List UInt8) (hs : s.data.toList.drop a = e.encL ++ r) (ha : a ≤ s.size) : Ev.decP s a = (e, ((a + e.encL.length : Nat) : Int), 0) := by
  rw [Ev.decP_nat s a ha, hs, Ev.dec_enc h ht r]
  simp
theorem Ev.enc_data {e : Ev} (h : e.may = true) : e.enc.data.toList = e.encL := by unfold Ev.enc; rw [if_pos h]
theorem Ev.enc_size {e : Ev} (h : e.may = true) : e.enc.size = e.encL.length := by
  have : e.enc.size = e.enc.data.toList.length := by simp
  rw [this, Ev.enc_data h]
theorem Ev.encL_le {e : Ev} (h : e.may = true) (ht : e.text.size < Va.most) : e.encL.length ≤ 19 + e.text.size + 9 * e.args.length := by
  have hd := Ev.ok_wi.1 (Ev.may_dt h)
  have h9 := Va.puts_nine hd.1 hd.2
  rw [Va.puts_size] at h9
  have h8 := Va.put_len_most ht
  unfold Ev.encL
  rw [List.length_cons, List.length_append]
  have : e.tailL.length ≤ 9 + e.text.size + 9 * e.args.length := by
    unfold Ev.tailL
    by_cases hx : Ki.exp e.kind = true
    · rw [if_pos hx, List.length_append]; simp at *; omega
    · rw [if_neg hx]
      have := Wi.cat_len e.args (fun x hx' => Ev.ok_wi.1 ((Ev.may_no h hx).2.2.1 x hx'))
      omega
  omega
theorem Ev.exp_may {k dt : Int} {s : ByteArray} (h0 : 128 ≤ k) (h1 : k ≤ 255) (h2 : 0 ≤ dt) (h3 : dt < 4611686018427387904) : Ev.may ⟨k, dt, [], s⟩ = true := by
  unfold Ev.may
  rw [if_pos (show Ki.exp k = true by unfold Ki.exp; exact decide_eq_true ⟨h0, h1⟩), show Ev.ok dt = true by unfold Ev.ok; exact decide_eq_true ⟨h2, h3⟩]
  rfl
theorem Ev.F9 : Ev.enc ⟨8, 0, [], ⟨#[]⟩⟩ = ⟨#[8, 0]⟩ := (Ev.enc_of_dec (L := [8, 0]) (by kernel_rfl)).2
theorem Ev.F10 : Ev.may ⟨8, 0, [], ⟨#[]⟩⟩ = true ∧ Ev.encL ⟨8, 0, [], ⟨#[]⟩⟩ = [8, 0] := by
  have h := Ev.enc_of_dec (L := [8, 0]) (e := ⟨8, 0, [], ⟨#[]⟩⟩) (by kernel_rfl)
  refine ⟨h.1, ?_⟩
  rw [← Ev.enc_data h.1, h.2]

set_option maxRecDepth 100000 in
set_option maxHeartbeats 1000000 in
theorem eexp_out (k dt : Int) (s : ByteArray) (w : World) (hs : s.size ≤ maxLen) (h : k < 128 ∨ 255 < k ∨ dt < 0 ∨ 4611686018427387904 ≤ dt ∨ 1000 < s.size) :
    Calls Try.prog 7 #[.int .i64 k, .int .i64 dt, .string s] w fun e w' => e = .returned (.bool true) ∧ Ext w w' := by
  unfold maxLen at hs
  rcases (by omega : k < 128 ∨ (128 ≤ k ∧ 255 < k) ∨ (128 ≤ k ∧ k ≤ 255 ∧ dt < 0) ∨ (128 ≤ k ∧ k ≤ 255 ∧ 0 ≤ dt ∧ 4611686018427387904 ≤ dt) ∨ (128 ≤ k ∧ k ≤ 255 ∧ 0 ≤ dt ∧ dt < 4611686018427387904 ∧ 1000 < s.size)) with h1 | ⟨h1, h2⟩ | ⟨h1, h2, h3⟩ | ⟨h1, h2, h3, h4⟩ | ⟨h1, h2, h3, h4, h5⟩
  all_goals
    clear h
    go_enter Try.func7, Try.ntmps7
    go_wp2_with fail
    refine (efixed_yes _).mono ?_
    rintro r w1 ⟨rfl, hx1⟩
    go_wp2_with fail
    refine (efixed_yes _).mono ?_
    rintro r w2 ⟨rfl, hx2⟩
    go_wp2
    go_ret
    exact ⟨rfl, hx1.trans hx2⟩
set_option maxRecDepth 100000 in
set_option maxHeartbeats 1000000 in
theorem eexp_in (k dt : Int) (s : ByteArray) (w : World) (h0 : 128 ≤ k) (h1 : k ≤ 255) (h2 : 0 ≤ dt) (h3 : dt < 4611686018427387904) (hs : s.size ≤ 1000) :
    Calls Try.prog 7 #[.int .i64 k, .int .i64 dt, .string s] w fun e w' => e = .returned (.bool true) ∧ Ext w w' := by
  have hm := Ev.exp_may (s := s) h0 h1 h2 h3
  have ht : s.size < Va.most := by unfold Va.most; omega
  have HD1 : Hid (Ev.decP (Ev.enc ⟨k, dt, [], s⟩ ++ ⟨#[8, 0]⟩) 0 = (⟨k, dt, [], s⟩, ((Ev.enc ⟨k, dt, [], s⟩).size : Int), 0)) := Lib.hid (by
    have := Ev.dec_at hm ht (Ev.enc ⟨k, dt, [], s⟩ ++ ⟨#[8, 0]⟩) 0 [8, 0] (by simp [Ev.enc_data hm]) (by simp)
    rw [Ev.enc_size hm]; simpa using this)
  have HD2 : Hid (Ev.decP (Ev.enc ⟨k, dt, [], s⟩ ++ ⟨#[8, 0]⟩) ((Ev.enc ⟨k, dt, [], s⟩).size : Int) = (⟨8, 0, [], ⟨#[]⟩⟩, (((Ev.enc ⟨k, dt, [], s⟩).size + 2 : Nat) : Int), 0)) := Lib.hid (by
    have := Ev.dec_at Ev.F10.1 (by decide) (Ev.enc ⟨k, dt, [], s⟩ ++ ⟨#[8, 0]⟩) (Ev.enc ⟨k, dt, [], s⟩).size [] (by
      rw [Ev.F10.2, ByteArray.data_append, Array.toList_append, Ev.enc_size hm, ← Ev.enc_data hm, List.drop_left]; rfl) (by simp)
    rw [Ev.F10.2] at this
    exact this)
  have hz : (Ev.enc ⟨k, dt, [], s⟩).size ≤ 1019 := by
    rw [Ev.enc_size hm]; have := Ev.encL_le hm ht; simp at this; omega
  have HE : Hid (∀ w, Calls Try.prog 14 #[.agg #[.int .i64 k, .int .i64 dt, .slice none 0 0, .string s]] w fun r w' => r = .returned (.string (Ev.enc ⟨k, dt, [], s⟩)) ∧ Ext w w') := Lib.hid (fun w => encode_k k dt [] s _ rfl none 0 w (ints_nil w) (by simp) (by omega))
  generalize Ev.enc ⟨k, dt, [], s⟩ = T at *
  clear hm ht
  have HSZ : Hid ((T ++ ⟨#[8, 0]⟩).size ≤ maxLen) := Lib.hid (by rw [ByteArray.size_append]; show T.size + 2 ≤ maxLen; unfold maxLen; omega)
  go_enter Try.func7, Try.ntmps7
  go_wp2_with fail
  refine (efixed_yes _).mono ?_
  rintro r w1 ⟨rfl, hx1⟩
  have HX1 := Lib.hid hx1; clear hx1
  go_wp2_with fail
  refine (HE.out _).mono ?_
  rintro r w2 ⟨rfl, hx2⟩
  have HX2 := Lib.hid (HX1.out.trans hx2); clear hx2
  go_wp2_with fail
  refine (encode_k 8 0 [] ⟨#[]⟩ _ Ev.F9 none 0 _ (ints_nil _) (by simp) (by decide)).mono ?_
  rintro r w3 ⟨rfl, hx3⟩
  have HX3 := Lib.hid (HX2.out.trans hx3); clear hx3
  go_wp2_with fail
  refine (decode_k _ _ _ _ _ _ _ _ HD1.out _ HSZ.out).mono ?_
  rintro r w4 ⟨A, c, rfl, hI, hx4⟩
  have HX4 := Lib.hid (HX3.out.trans hx4); clear hx4 hI
  go_wp2_with fail
  refine (encode_k 8 0 [] ⟨#[]⟩ _ Ev.F9 none 0 _ (ints_nil _) (by simp) (by decide)).mono ?_
  rintro r w5 ⟨rfl, hx5⟩
  have HX5 : Hid (Ext (w4.alloc (.cells #[.int .i64 k, .int .i64 dt, .slice A 0 c, .string s] 24)) w5) := Lib.hid hx5
  clear hx5
  go_wp2_with fail
  refine (decode_k _ _ _ _ _ _ _ _ HD2.out _ HSZ.out).mono ?_
  rintro r w6 ⟨A2, c2, rfl, hI, hx6⟩
  have HX6 := Lib.hid (HX5.out.trans hx6); clear hx6 hI
  have a0 : (w6.alloc (.cells #[.int .i64 8, .int .i64 0, .slice A2 0 c2, .string ⟨#[]⟩] 24)).cell? ⟨w4.heap.size, 0, none⟩ = some (.int .i64 k) := Ext.box (HX6.out.alloc _) 0 _ rfl
  have a1 : (w6.alloc (.cells #[.int .i64 8, .int .i64 0, .slice A2 0 c2, .string ⟨#[]⟩] 24)).cell? ⟨w4.heap.size, 1, none⟩ = some (.int .i64 dt) := Ext.box (HX6.out.alloc _) 1 _ rfl
  have a2 : (w6.alloc (.cells #[.int .i64 8, .int .i64 0, .slice A2 0 c2, .string ⟨#[]⟩] 24)).cell? ⟨w4.heap.size, 2, none⟩ = some (.slice A 0 c) := Ext.box (HX6.out.alloc _) 2 _ rfl
  have a3 : (w6.alloc (.cells #[.int .i64 8, .int .i64 0, .slice A2 0 c2, .string ⟨#[]⟩] 24)).cell? ⟨w4.heap.size, 3, none⟩ = some (.string s) := Ext.box (HX6.out.alloc _) 3 _ rfl
  go_wp2
  go_ret
  exact ⟨rfl, (HX4.out.trans (((Ext.refl w4).alloc _).trans HX6.out)).alloc _⟩
theorem walk_EventExp (k dt : Int) (s : ByteArray) (w : World) (_ : (Lit.int .i64 k).wf = true) (_ : (Lit.int .i64 dt).wf = true) (hs : s.size ≤ maxLen) :
    Calls Try.prog 7 #[.int .i64 k, .int .i64 dt, .string s] w fun e w' => e = .returned (.bool true) ∧ Ext w w' := by
  by_cases h : k < 128 ∨ 255 < k ∨ dt < 0 ∨ 4611686018427387904 ≤ dt ∨ 1000 < s.size
  · exact eexp_out k dt s w hs h
  · exact eexp_in k dt s w (by omega) (by omega) (by omega) (by omega) (by omega)

end Go.Proofs.Ytnomofnhfaeohaa
