/-
  The contract of layer 4's own helper 'fixed': it returns true.
-/
import Derived.Test.YtnomofnhfaeohaaEn
set_option linter.unusedVariables false
set_option linter.unusedSimpArgs false
namespace Go.Proofs.Ytnomofnhfaeohaa
open Go.RowKit

theorem Ev.enc_of_dec {L : List UInt8} {e : Ev} (h : Ev.dec L = (e, L.length, 0)) : e.may = true ∧ e.enc = ⟨L.toArray⟩ := by
  obtain ⟨h1, _, h2, r, h3⟩ := Ev.dec_ok h
  refine ⟨h1, ?_⟩
  unfold Ev.enc
  rw [if_pos h1]
  have : r = [] := by
    have := congrArg List.length h3
    rw [List.length_append] at this
    exact List.eq_nil_of_length_eq_zero (by omega)
  rw [this, List.append_nil] at h3
  rw [h3]
/-- What a call of Decode answers, part by part. -/
def DecK (k d : Int) (xs : List Int) (t : ByteArray) (p q : Int) (w : World) (r : Ending) (w' : World) : Prop :=
  ∃ A c, r = .returned (.tuple #[.agg #[.int .i64 k, .int .i64 d, .slice A xs.length c, .string t], .int .i64 p, .int .i64 q]) ∧ IntsAt w' (.slice A xs.length c) xs ∧ Ext w w'
theorem decode_k (s : ByteArray) (a : Int) (k d : Int) (xs : List Int) (t : ByteArray) (p q : Int) (h : Ev.decP s a = (⟨k, d, xs, t⟩, p, q)) (w : World) (hs : s.size ≤ maxLen) : Calls Try.prog 10 #[.string s, .int .i64 a] w (DecK k d xs t p q w) :=
  (decode_any s a w hs).mono fun r w' hd => by
    rw [h] at hd
    obtain ⟨v, rfl, ⟨A, c, rfl, hI⟩, hx⟩ := hd
    exact ⟨A, c, rfl, hI, hx⟩
theorem encode_k (k d : Int) (xs : List Int) (t b : ByteArray) (h : Ev.enc ⟨k, d, xs, t⟩ = b) (A : Option Addr) (c : Nat) (w : World) (hI : IntsAt w (.slice A xs.length c) xs) (hn : xs.length ≤ 9223372036854775807) (ht : t.size ≤ 140737488351232) :
    Calls Try.prog 14 #[.agg #[.int .i64 k, .int .i64 d, .slice A xs.length c, .string t]] w fun r w' => r = .returned (.string b) ∧ Ext w w' := by
  subst h; exact enc_e _ ⟨k, d, xs, t⟩ w ⟨A, c, rfl, hI⟩ hn ht
theorem may_k (k d : Int) (xs : List Int) (t : ByteArray) (b : Bool) (h : Ev.may ⟨k, d, xs, t⟩ = b) (A : Option Addr) (c : Nat) (w : World) (hI : IntsAt w (.slice A xs.length c) xs) (hn : xs.length ≤ 9223372036854775807) :
    Calls Try.prog 12 #[.agg #[.int .i64 k, .int .i64 d, .slice A xs.length c, .string t]] w fun r w' => r = .returned (.bool b) ∧ Ext w w' := by
  subst h; exact may_e _ ⟨k, d, xs, t⟩ w ⟨A, c, rfl, hI⟩ hn
theorem same_k (k d : Int) (xs : List Int) (t : ByteArray) (k' d' : Int) (xs' : List Int) (t' : ByteArray) (r : Bool) (hr : Ev.sameB ⟨k, d, xs, t⟩ ⟨k', d', xs', t'⟩ = r) (A : Option Addr) (c : Nat) (A' : Option Addr) (c' : Nat) (w : World) (hI : IntsAt w (.slice A xs.length c) xs) (hI' : IntsAt w (.slice A' xs'.length c') xs') (hn : xs.length ≤ 9223372036854775807) :
    Calls Try.prog 16 #[.agg #[.int .i64 k, .int .i64 d, .slice A xs.length c, .string t], .agg #[.int .i64 k', .int .i64 d', .slice A' xs'.length c', .string t']] w fun e w' => e = .returned (.bool r) ∧ Ext w w' :=
  same_eq _ _ ⟨k, d, xs, t⟩ ⟨k', d', xs', t'⟩ r hr w ⟨A, c, rfl, hI⟩ ⟨A', c', rfl, hI'⟩ hn
theorem ints_nil (w : World) : IntsAt w (.slice none 0 0) [] := ⟨none, 0, rfl, fun h => by simp at h⟩
theorem Ev.F1 : Ev.enc ⟨4, 300, [7, 2], ⟨#[]⟩⟩ = ⟨#[4, 172, 2, 7, 2]⟩ := (Ev.enc_of_dec (L := [4, 172, 2, 7, 2]) (by kernel_rfl)).2
theorem Ev.F2 : Ev.enc ⟨130, 0, [], ⟨#[97]⟩⟩ = ⟨#[130, 0, 1, 97]⟩ := (Ev.enc_of_dec (L := [130, 0, 1, 97]) (by kernel_rfl)).2
theorem Ev.F3 : Ev.may ⟨4, 300, [7, 2], ⟨#[]⟩⟩ = true := by kernel_rfl
theorem Ev.F4 : Ev.may ⟨4, 0, [], ⟨#[]⟩⟩ = false := by kernel_rfl
theorem Ev.F5 : Ev.decP (⟨#[120]⟩ ++ ⟨#[4, 172, 2, 7, 2]⟩) 1 = (⟨4, 300, [7, 2], ⟨#[]⟩⟩, 6, 0) := by kernel_rfl
theorem Ev.F6 : Ev.decP ⟨#[11, 0]⟩ 0 = (⟨0, 0, [], ⟨#[]⟩⟩, 0, 30) := by kernel_rfl
theorem Ev.F7 : Ev.decP ⟨#[4, 172]⟩ 0 = (⟨0, 0, [], ⟨#[]⟩⟩, 0, 10) := by kernel_rfl
theorem Ev.F8 : Ev.sameB ⟨4, 300, [7, 2], ⟨#[]⟩⟩ ⟨4, 300, [7, 2], ⟨#[]⟩⟩ = true := (Ev.sameB_iff _ _).2 rfl
theorem decode_k' (s s' : ByteArray) (hss : s = s') (a : Int) (k d : Int) (xs : List Int) (t : ByteArray) (p q : Int) (h : Ev.decP s' a = (⟨k, d, xs, t⟩, p, q)) (w : World) (hs : s'.size ≤ maxLen) : Calls Try.prog 10 #[.string s, .int .i64 a] w (DecK k d xs t p q w) := by
  subst hss; exact decode_k s a k d xs t p q h w hs

set_option maxRecDepth 100000 in
set_option maxHeartbeats 1000000 in
theorem efixed_yes (w : World) : Calls Try.prog 9 #[] w fun e w' => e = .returned (.bool true) ∧ Ext w w' := by
  go_enter Try.func9, Try.ntmps9
  have HA : Hid (IntsAt (w.alloc (.cells #[.int .i64 7, .int .i64 2] 3)) (.slice (some ⟨w.heap.size, 0, none⟩) 2 2) [7, 2]) := Lib.hid (ints_new w _ [7, 2])
  go_wp2_with fail
  refine (encode_k 4 300 [7, 2] ⟨#[]⟩ _ Ev.F1 _ _ _ (HA.out.ext ((Ext.refl _).alloc _)) (by simp) (by decide)).mono ?_
  rintro r w1 ⟨rfl, hx1⟩
  have HX1 := Lib.hid hx1
  clear hx1
  go_wp2_with fail
  refine (decode_k' _ _ rfl 1 _ _ _ _ _ _ Ev.F5 _ (by decide)).mono ?_
  rintro r w2 ⟨A, c, rfl, hI, hx2⟩
  have HX2 := Lib.hid hx2
  have HI := Lib.hid hI
  clear hx2 hI
  go_wp2_with fail
  refine (decode_k' _ _ rfl 0 _ _ _ _ _ _ Ev.F6 _ (by decide)).mono ?_
  rintro r w3 ⟨A3, c3, rfl, hI3, hx3⟩
  have HX3 := Lib.hid hx3
  clear hx3 hI3
  go_wp2_with fail
  refine (decode_k' _ ⟨#[4, 172]⟩ (by rfl) 0 _ _ _ _ _ _ Ev.F7 _ (by decide)).mono ?_
  rintro r w4 ⟨A4, c4, rfl, hI4, hx4⟩
  have HXB : Hid (Ext (w2.alloc (.cells #[.int .i64 4, .int .i64 300, .slice A 2 c, .string ⟨#[]⟩] 24)) (w4.alloc (.cells #[.int .i64 0, .int .i64 0, .slice A4 0 c4, .string ⟨#[]⟩] 24))) := Lib.hid ((HX3.out.trans ((Ext.refl w3).alloc _)).trans (hx4.trans ((Ext.refl w4).alloc _)))
  clear hx4 hI4 HX3
  have HXA : Hid (Ext ((w.alloc (.cells #[.int .i64 7, .int .i64 2] 3)).alloc (.cells #[.int .i64 4, .int .i64 300, .slice (some ⟨w.heap.size, 0, none⟩) 2 2, .string ⟨#[]⟩] 24)) (w4.alloc (.cells #[.int .i64 0, .int .i64 0, .slice A4 0 c4, .string ⟨#[]⟩] 24))) := Lib.hid (HX1.out.trans (HX2.out.trans (((Ext.refl w2).alloc _).trans HXB.out)))
  have HS1 : Hid (w.heap.size + 1 = (w.alloc (.cells #[.int .i64 7, .int .i64 2] 3)).heap.size) := Lib.hid (by simp)
  have a0 : (w4.alloc (.cells #[.int .i64 0, .int .i64 0, .slice A4 0 c4, .string ⟨#[]⟩] 24)).cell? ⟨w.heap.size + 1, 0, none⟩ = some (.int .i64 4) := by rw [HS1.out]; exact Ext.box HXA.out 0 _ rfl
  have a1 : (w4.alloc (.cells #[.int .i64 0, .int .i64 0, .slice A4 0 c4, .string ⟨#[]⟩] 24)).cell? ⟨w.heap.size + 1, 1, none⟩ = some (.int .i64 300) := by rw [HS1.out]; exact Ext.box HXA.out 1 _ rfl
  have a2 : (w4.alloc (.cells #[.int .i64 0, .int .i64 0, .slice A4 0 c4, .string ⟨#[]⟩] 24)).cell? ⟨w.heap.size + 1, 2, none⟩ = some (.slice (some ⟨w.heap.size, 0, none⟩) 2 2) := by rw [HS1.out]; exact Ext.box HXA.out 2 _ rfl
  have a3 : (w4.alloc (.cells #[.int .i64 0, .int .i64 0, .slice A4 0 c4, .string ⟨#[]⟩] 24)).cell? ⟨w.heap.size + 1, 3, none⟩ = some (.string ⟨#[]⟩) := by rw [HS1.out]; exact Ext.box HXA.out 3 _ rfl
  have b0 : (w4.alloc (.cells #[.int .i64 0, .int .i64 0, .slice A4 0 c4, .string ⟨#[]⟩] 24)).cell? ⟨w2.heap.size, 0, none⟩ = some (.int .i64 4) := Ext.box HXB.out 0 _ rfl
  have b1 : (w4.alloc (.cells #[.int .i64 0, .int .i64 0, .slice A4 0 c4, .string ⟨#[]⟩] 24)).cell? ⟨w2.heap.size, 1, none⟩ = some (.int .i64 300) := Ext.box HXB.out 1 _ rfl
  have b2 : (w4.alloc (.cells #[.int .i64 0, .int .i64 0, .slice A4 0 c4, .string ⟨#[]⟩] 24)).cell? ⟨w2.heap.size, 2, none⟩ = some (.slice A 2 c) := Ext.box HXB.out 2 _ rfl
  have b3 : (w4.alloc (.cells #[.int .i64 0, .int .i64 0, .slice A4 0 c4, .string ⟨#[]⟩] 24)).cell? ⟨w2.heap.size, 3, none⟩ = some (.string ⟨#[]⟩) := Ext.box HXB.out 3 _ rfl
  go_wp2_with fail
  refine (same_k 4 300 [7, 2] ⟨#[]⟩ 4 300 [7, 2] ⟨#[]⟩ true Ev.F8 _ _ _ _ _ ((HA.out.ext ((Ext.refl _).alloc _)).ext HXA.out) (HI.out.ext (((Ext.refl w2).alloc _).trans HXB.out)) (by simp)).mono ?_
  rintro r w6 ⟨rfl, hx6⟩
  have HX6 := Lib.hid hx6
  clear a0 a1 a2 a3 b0 b1 b2 b3 hx6
  have a0 : w6.cell? ⟨w.heap.size + 1, 0, none⟩ = some (.int .i64 4) := by rw [HS1.out]; exact Ext.box (HXA.out.trans HX6.out) 0 _ rfl
  have a1 : w6.cell? ⟨w.heap.size + 1, 1, none⟩ = some (.int .i64 300) := by rw [HS1.out]; exact Ext.box (HXA.out.trans HX6.out) 1 _ rfl
  have a2 : w6.cell? ⟨w.heap.size + 1, 2, none⟩ = some (.slice (some ⟨w.heap.size, 0, none⟩) 2 2) := by rw [HS1.out]; exact Ext.box (HXA.out.trans HX6.out) 2 _ rfl
  have a3 : w6.cell? ⟨w.heap.size + 1, 3, none⟩ = some (.string ⟨#[]⟩) := by rw [HS1.out]; exact Ext.box (HXA.out.trans HX6.out) 3 _ rfl
  go_wp2_with fail
  refine (may_k 4 300 [7, 2] ⟨#[]⟩ true Ev.F3 _ _ _ (((HA.out.ext ((Ext.refl _).alloc _)).ext HXA.out).ext HX6.out) (by simp)).mono ?_
  rintro r w7 ⟨rfl, hx7⟩
  have HX7 := Lib.hid hx7
  clear a0 a1 a2 a3 hx7
  go_wp2_with fail
  refine (may_k 4 0 [] ⟨#[]⟩ false Ev.F4 none 0 _ (ints_nil _) (by simp)).mono ?_
  rintro r w8 ⟨rfl, hx8⟩
  go_wp2_with fail
  refine (encode_k 130 0 [] ⟨#[97]⟩ _ Ev.F2 none 0 _ (ints_nil _) (by simp) (by decide)).mono ?_
  rintro r w9 ⟨rfl, hx9⟩
  go_wp2
  go_ret
  exact ⟨rfl, (((Ext.refl w).alloc _).alloc _).trans (HXA.out.trans (HX6.out.trans (HX7.out.trans (hx8.trans hx9))))⟩

end Go.Proofs.Ytnomofnhfaeohaa
