/-
  The contract of the document's Bytes, of events; layer 5's own helper 'fixed': it returns true.
-/
import Derived.Test.YtlbhpgieehallaaBe
import Derived.Test.YtlbhpgieehallaaEr
set_option linter.unusedVariables false
set_option linter.unusedSimpArgs false
namespace Go.Proofs.Ytlbhpgieehallaa
open Go.RowKit

def Ev.encs (l : List Ev) : ByteArray := ⟨((l.map fun e => e.enc.data.toList).flatten).toArray⟩
theorem Ev.encs_snoc (l : List Ev) (e : Ev) : Ev.encs l ++ e.enc = Ev.encs (l ++ [e]) := by
  apply ByteArray.ext
  apply Array.toList_inj.1
  rw [ByteArray.data_append, Array.toList_append]
  simp [Ev.encs]
theorem Ev.enc_le {e : Ev} (h1 : e.args.length ≤ 1000) (h2 : e.text.size ≤ 1000000) : e.enc.size ≤ 1100000 := by
  cases hm : e.may with
  | false => unfold Ev.enc; rw [hm]; exact Nat.zero_le _
  | true =>
    rw [Ev.enc_size hm]
    have := Ev.encL_le hm (by unfold Va.most; omega)
    omega
theorem Ev.encs_size (l : List Ev) (h : ∀ e ∈ l, e.args.length ≤ 1000 ∧ e.text.size ≤ 1000000) : (Ev.encs l).size ≤ 1100000 * l.length := by
  induction l with
  | nil => exact Nat.zero_le _
  | cons e l ih =>
    have h1 := ih fun x hx => h x (by simp [hx])
    obtain ⟨a1, a2⟩ := h e (by simp)
    have h2 := Ev.enc_le a1 a2
    have e1 : (Ev.encs (e :: l)).size = e.enc.size + (Ev.encs l).size := by
      have k1 : (Ev.encs l).size = ((l.map fun e => e.enc.data.toList).flatten).length := size_mk _
      have k2 : (Ev.encs (e :: l)).size = (((e :: l).map fun e => e.enc.data.toList).flatten).length := size_mk _
      rw [k1, k2]
      simp
    rw [e1, List.length_cons]
    omega
theorem renc_eq' (k d : Int) (xs : List Int) (t b : ByteArray) (h : Ev.enc ⟨k, d, xs, t⟩ = b) (A : Option Addr) (c : Nat) (w : World) (hI : IntsAt w (.slice A xs.length c) xs) (hn : xs.length ≤ 1000) (ht : t.size ≤ 1000000) :
    Calls Try.prog 39 #[.agg #[.int .i64 k, .int .i64 d, .slice A xs.length c, .string t]] w fun r w' => r = .returned (.string b) ∧ Ext w w' := by
  subst h; exact renc_e _ ⟨k, d, xs, t⟩ w ⟨A, c, rfl, hI⟩ hn ht
set_option maxRecDepth 100000 in
set_option maxHeartbeats 1000000 in
theorem rbytes_any (v : Value) (l : List Ev) (w : World) (h : EvsAt w v l) (hz : ∀ e ∈ l, e.args.length ≤ 1000 ∧ e.text.size ≤ 1000000) (hl : l.length ≤ 100000) :
    Calls Try.prog 20 #[v] w fun r w' => r = .returned (.string (Ev.encs l)) ∧ Ext w w' := by
  obtain ⟨A, c, rfl, hA⟩ := h
  have HA := Lib.hid hA
  have HZ := Lib.hid hz
  clear hA hz
  go_enter Try.func20, Try.ntmps20
  go_wp2
  go_loopw [3, 4] (fun sv i wr => ∃ j : Nat, j ≤ l.length ∧ sv = .string (Ev.encs (l.take j)) ∧ i = .int .i64 j ∧ Ext w wr) (fun _ i _ => l.length - (intOf i).toNat)
  case atStart => exact ⟨0, by omega, rfl, rfl, Ext.refl _⟩
  case round =>
    obtain ⟨j, hj, rfl, rfl, hx⟩ := hrel
    have HX := Lib.hid hx
    clear hx
    by_cases hlt : j < l.length
    · have HT : Hid (l.take (j + 1) = l.take j ++ [l[j]]) := Lib.hid (by rw [List.take_succ_eq_append_getElem hlt])
      have hs1 : (Ev.encs (l.take j)).size ≤ 1100000 * j := by
        have := Ev.encs_size (l.take j) (fun e he => HZ.out e (List.mem_of_mem_take he))
        rw [List.length_take] at this
        have h2 : min j l.length = j := by omega
        rw [h2] at this; exact this
      obtain ⟨z1, z2⟩ := HZ.out l[j] (List.getElem_mem hlt)
      have hs2 := Ev.enc_le z1 z2
      have HSN := Lib.hid (Ev.encs_snoc (l.take j) l[j])
      obtain ⟨b, o, rfl, hb, hc⟩ := HA.out (by omega)
      have HEL : Hid (EvCell w b (o + j * 4) l[j]) := Lib.hid (hc j _ (List.getElem?_eq_getElem hlt))
      clear hc
      generalize l[j] = e at *
      obtain ⟨k', d', xs', t'⟩ := e
      obtain ⟨A', c', e0, e1, e2, e3, hi⟩ := HEL.out.ext HX.out hb
      have HI := Lib.hid hi
      simp only at e0 e1 e2 e3 z1 z2
      clear hi
      generalize hen : Ev.enc ⟨k', d', xs', t'⟩ = en at *
      have HEN := Lib.hid hen
      clear hen
      go_wp2_with fail
      refine (renc_eq' k' d' xs' t' en HEN.out _ _ _ HI.out z1 z2).mono ?_
      rintro r w5 ⟨rfl, hx5⟩
      go_wp2
      go_roundw
      case rel => exact ⟨j + 1, by omega, by rw [HT.out, ← HSN.out], by go_num, HX.out.trans hx5⟩
      case measure => simp [intOf]; omega
    · obtain rfl : j = l.length := by omega
      rw [show l.take l.length = l from List.take_length]
      go_wp2
      go_ret
      exact ⟨rfl, HX.out⟩
theorem rbytes_eq (v : Value) (l : List Ev) (s : ByteArray) (hs : Ev.encs l = s) (w : World) (h : EvsAt w v l) (hz : ∀ e ∈ l, e.args.length ≤ 1000 ∧ e.text.size ≤ 1000000) (hl : l.length ≤ 100000) :
    Calls Try.prog 20 #[v] w fun r w' => r = .returned (.string s) ∧ Ext w w' := by
  subst hs; exact rbytes_any v l w h hz hl

theorem Bt.enc_of_dec {L : List UInt8} {b : Bt} (h : Bt.dec L = (b, L.length, 0)) : b.may = true ∧ b.enc = ⟨L.toArray⟩ := by
  obtain ⟨h1, h2, r, h3⟩ := Bt.dec_ok h
  refine ⟨h1, ?_⟩
  unfold Bt.enc
  rw [if_pos h1]
  have : r = [] := by
    have := congrArg List.length h3
    rw [List.length_append] at this
    exact List.eq_nil_of_length_eq_zero (by omega)
  rw [this, List.append_nil] at h3
  rw [h3]
theorem Bt.F1 : Ev.encs [⟨8, 5, [], ⟨#[]⟩⟩, ⟨8, 0, [], ⟨#[]⟩⟩] = ⟨#[8, 5, 8, 0]⟩ := by
  have h1 : Ev.enc ⟨8, 5, [], ⟨#[]⟩⟩ = ⟨#[8, 5]⟩ := (Ev.enc_of_dec (L := [8, 5]) (by kernel_rfl)).2
  have h2 : Ev.enc ⟨8, 0, [], ⟨#[]⟩⟩ = ⟨#[8, 0]⟩ := (Ev.enc_of_dec (L := [8, 0]) (by kernel_rfl)).2
  unfold Ev.encs
  simp [h1, h2]
theorem Bt.F2 : Bt.may ⟨1, 2, 100, ⟨#[8, 5, 8, 0]⟩⟩ = true ∧ Bt.enc ⟨1, 2, 100, ⟨#[8, 5, 8, 0]⟩⟩ = ⟨#[66, 1, 2, 100, 4, 8, 5, 8, 0]⟩ := Bt.enc_of_dec (L := [66, 1, 2, 100, 4, 8, 5, 8, 0]) (by kernel_rfl)
theorem Bt.F3 : Bt.decP (⟨#[120]⟩ ++ ⟨#[66, 1, 2, 100, 4, 8, 5, 8, 0]⟩) 1 = (⟨1, 2, 100, ⟨#[8, 5, 8, 0]⟩⟩, 10, 0) := by kernel_rfl
theorem Bt.F4 : Bt.events ⟨1, 2, 100, ⟨#[8, 5, 8, 0]⟩⟩ = ([⟨8, 5, [], ⟨#[]⟩⟩, ⟨8, 0, [], ⟨#[]⟩⟩], [105, 105], 0, 0) := by kernel_rfl
theorem Bt.F5 : Bt.decP ⟨#[120]⟩ 0 = (⟨0, 0, 0, ⟨#[]⟩⟩, 0, 50) := by kernel_rfl
theorem Bt.F6 : Bt.decP ⟨#[66, 0, 0, 0, 0]⟩ 0 = (⟨0, 0, 0, ⟨#[]⟩⟩, 0, 50) := by kernel_rfl
theorem Bt.F7 : Bt.may ⟨0, 0, 0, ⟨#[]⟩⟩ = false := by kernel_rfl
theorem bdecode_eq (s s' : ByteArray) (hss : s = s') (a : Int) (g st ba : Int) (bo : ByteArray) (p q : Int) (h : Bt.decP s' a = (⟨g, st, ba, bo⟩, p, q)) (w : World) (hs : s'.size ≤ maxLen) :
    Calls Try.prog 9 #[.string s, .int .i64 a] w fun r w' => r = .returned (.tuple #[.agg #[.int .i64 g, .int .i64 st, .int .i64 ba, .string bo], .int .i64 p, .int .i64 q]) ∧ Ext w w' := by
  subst hss
  have := bdecode_any s a w hs
  rw [h] at this
  exact this
theorem bevents_eq (g st ba : Int) (bo : ByteArray) (l : List Ev) (ts : List Int) (p q : Nat) (h : Bt.events ⟨g, st, ba, bo⟩ = (l, ts, p, q)) (w : World) :
    Calls Try.prog 11 #[.agg #[.int .i64 g, .int .i64 st, .int .i64 ba, .string bo]] w fun r w' => ∃ A c A' c', r = .returned (.tuple #[.slice A l.length c, .slice A' ts.length c', .int .i64 (p : Int), .int .i64 (q : Int)]) ∧ EvsAt w' (.slice A l.length c) l ∧ IntsAt w' (.slice A' ts.length c') ts ∧ Ext w w' := by
  refine (bevents_any g st ba bo w).mono ?_
  rw [h]
  rintro r w' ⟨ev, tv, rfl, hev, htv, hx, _⟩
  have h1 := hev
  have h2 := htv
  obtain ⟨A, c, rfl, _⟩ := h1
  obtain ⟨A', c', rfl, _⟩ := h2
  exact ⟨A, c, A', c', rfl, hev, htv, hx⟩
theorem evs_two0 (w : World) : EvsAt (w.alloc (.cells #[.int .i64 8, .int .i64 5, .slice none 0 0, .string ⟨#[]⟩, .int .i64 8, .int .i64 0, .slice none 0 0, .string ⟨#[]⟩] 41)) (.slice (some ⟨w.heap.size, 0, none⟩) 2 2) [⟨8, 5, [], ⟨#[]⟩⟩, ⟨8, 0, [], ⟨#[]⟩⟩] := by
  have hn := blk_new w (.cells #[.int .i64 8, .int .i64 5, .slice none 0 0, .string ⟨#[]⟩, .int .i64 8, .int .i64 0, .slice none 0 0, .string ⟨#[]⟩] 41)
  refine ⟨_, 2, rfl, fun _ => ⟨w.heap.size, 0, rfl, by simp, fun j e hj => ?_⟩⟩
  match j with
  | 0 => simp at hj; subst hj; exact ⟨none, 0, blk_cell hn 0 _ rfl, blk_cell hn 1 _ rfl, blk_cell hn 2 _ rfl, blk_cell hn 3 _ rfl, ints_nil' _⟩
  | 1 => simp at hj; subst hj; exact ⟨none, 0, blk_cell hn 4 _ rfl, blk_cell hn 5 _ rfl, blk_cell hn 6 _ rfl, blk_cell hn 7 _ rfl, ints_nil' _⟩
  | j + 2 => simp at hj
def C4 (x : Nat) (g st ba : Int) (bo : ByteArray) (v : World) : Prop := v.cell? ⟨x, 0, none⟩ = some (.int .i64 g) ∧ v.cell? ⟨x, 1, none⟩ = some (.int .i64 st) ∧ v.cell? ⟨x, 2, none⟩ = some (.int .i64 ba) ∧ v.cell? ⟨x, 3, none⟩ = some (.string bo)
theorem C4.of {x : Nat} {g st ba : Int} {bo : ByteArray} {wx v : World} (h : wx.heap[x]? = some (.cells #[.int .i64 g, .int .i64 st, .int .i64 ba, .string bo] 23 (0, 0))) (hv : Ext wx v) : C4 x g st ba bo v :=
  ⟨blk_cell (hv.blk h) 0 _ rfl, blk_cell (hv.blk h) 1 _ rfl, blk_cell (hv.blk h) 2 _ rfl, blk_cell (hv.blk h) 3 _ rfl⟩
set_option maxRecDepth 100000 in
set_option maxHeartbeats 4000000 in
theorem bfixed_gen (bo S : ByteArray) (F1 : Ev.encs [⟨8, 5, [], ⟨#[]⟩⟩, ⟨8, 0, [], ⟨#[]⟩⟩] = bo) (F20 : Bt.may ⟨1, 2, 100, bo⟩ = true) (F2 : Bt.enc ⟨1, 2, 100, bo⟩ = S) (F3 : Bt.decP (⟨#[120]⟩ ++ S) 1 = (⟨1, 2, 100, bo⟩, 10, 0))
    (F4 : Bt.events ⟨1, 2, 100, bo⟩ = ([⟨8, 5, [], ⟨#[]⟩⟩, ⟨8, 0, [], ⟨#[]⟩⟩], [105, 105], 0, 0)) (hcat : (⟨#[66, 1, 2, 100, 4]⟩ : ByteArray) ++ bo = S) (hS : S.size = 9) (hb : bo.size = 4) (w : World) : Calls Try.prog 8 #[] w fun e w' => e = .returned (.bool true) ∧ Ext w w' := by
  have HE := Lib.hid (evs_two0 w)
  have G1 := Lib.hid F1
  have G20 := Lib.hid F20
  have G2 := Lib.hid F2
  have G3 := Lib.hid F3
  have G4 := Lib.hid F4
  have GS := Lib.hid hS
  have GC := Lib.hid hcat
  clear F1 F20 F2 F3 F4 hcat
  go_enter Try.func8, Try.ntmps8
  go_wp2_with fail
  refine (rbytes_eq _ _ _ G1.out _ HE.out (by simp; decide) (by simp)).mono ?_
  rintro r w1 ⟨rfl, hx1⟩
  have HX1 : Hid (Ext w w1) := Lib.hid (((Ext.refl w).alloc _).trans hx1)
  clear hx1
  go_wp2_with fail
  refine (benc_eq 1 2 100 _ _ G2.out _).mono ?_
  rintro r w2 ⟨rfl, hx2⟩
  have HX2 := Lib.hid hx2
  clear hx2
  go_wp2_with fail
  refine (bdecode_eq _ _ rfl 1 _ _ _ _ _ _ G3.out _ (by rw [ByteArray.size_append, GS.out]; decide)).mono ?_
  rintro r w3 ⟨rfl, hx3⟩
  have HX3 := Lib.hid (HX2.out.trans (hx3.alloc (.cells #[.int .i64 1, .int .i64 2, .int .i64 100, .string bo] 23)))
  clear hx3
  have b0 := Ext.box HX3.out 0 (.int .i64 1) rfl
  have b1 := Ext.box HX3.out 1 (.int .i64 2) rfl
  have b2 := Ext.box HX3.out 2 (.int .i64 100) rfl
  have b3 := Ext.box HX3.out 3 (.string bo) rfl
  go_wp2_with fail
  refine (bevents_eq 1 2 100 _ _ _ _ _ G4.out _).mono ?_
  rintro r w4 ⟨A, c, A', c', rfl, hev, htv, hx4⟩
  have HX4 := Lib.hid hx4
  have HT4 := Lib.hid htv
  clear b0 b1 b2 b3 hx4 hev htv
  go_wp2_with fail
  refine (bdecode_eq _ _ rfl 0 _ _ _ _ _ _ Bt.F5 _ (by decide)).mono ?_
  rintro r w5 ⟨rfl, hx5⟩
  have HX5 := Lib.hid hx5
  clear hx5
  go_wp2_with fail
  refine (bdecode_eq _ _ rfl 0 _ _ _ _ _ _ Bt.F6 _ (by decide)).mono ?_
  rintro r w6 ⟨rfl, hx6⟩
  have HC7 : Hid (Ext (w3.alloc (.cells #[.int .i64 1, .int .i64 2, .int .i64 100, .string bo] 23)) (w6.alloc (.cells #[.int .i64 0, .int .i64 0, .int .i64 0, .string ⟨#[]⟩] 23))) := Lib.hid (((HX4.out.trans HX5.out).trans ((Ext.refl w5).alloc _)).trans (hx6.alloc _))
  have HB7 : Hid (Ext (w1.alloc (.cells #[.int .i64 1, .int .i64 2, .int .i64 100, .string bo] 23)) (w6.alloc (.cells #[.int .i64 0, .int .i64 0, .int .i64 0, .string ⟨#[]⟩] 23))) := Lib.hid (HX3.out.trans HC7.out)
  have HT7 : Hid (Ext w4 (w6.alloc (.cells #[.int .i64 0, .int .i64 0, .int .i64 0, .string ⟨#[]⟩] 23))) := Lib.hid ((HX5.out.trans ((Ext.refl w5).alloc _)).trans (hx6.alloc _))
  clear hx6 HX2 HX3 HX4 HX5
  have b0 := Ext.box HB7.out 0 (.int .i64 1) rfl
  have b1 := Ext.box HB7.out 1 (.int .i64 2) rfl
  have b2 := Ext.box HB7.out 2 (.int .i64 100) rfl
  have b3 := Ext.box HB7.out 3 (.string bo) rfl
  have d0 := Ext.box HC7.out 0 (.int .i64 1) rfl
  have d1 := Ext.box HC7.out 1 (.int .i64 2) rfl
  have d2 := Ext.box HC7.out 2 (.int .i64 100) rfl
  have d3 := Ext.box HC7.out 3 (.string bo) rfl
  have HI2 : Hid (IntsAt ((w6.alloc (.cells #[.int .i64 0, .int .i64 0, .int .i64 0, .string ⟨#[]⟩] 23)).alloc (.cells #[.int .i64 105, .int .i64 105] 3)) (.slice (some ⟨w6.heap.size + 1, 0, none⟩) 2 2) [105, 105]) := Lib.hid (by
    have h := ints_new (w6.alloc (.cells #[.int .i64 0, .int .i64 0, .int .i64 0, .string ⟨#[]⟩] 23)) 3 [105, 105]
    rw [World.size_alloc] at h
    exact h)
  have hcat := GC.out
  have hbe : (S.toList == S.toList) = true := by simp
  go_wp2_with fail
  refine (rints_eq _ _ [105, 105] [105, 105] true rfl _ (HT4.out.ext (HT7.out.trans ((Ext.refl _).alloc _))) HI2.out (by simp)).mono ?_
  rintro r w8 ⟨rfl, hx8⟩
  have HB8 : Hid (Ext (w1.alloc (.cells #[.int .i64 1, .int .i64 2, .int .i64 100, .string bo] 23)) w8) := Lib.hid ((HB7.out.alloc _).trans hx8)
  clear b0 b1 b2 b3 d0 d1 d2 d3 hx8
  have b0 := Ext.box HB8.out 0 (.int .i64 1) rfl
  have b1 := Ext.box HB8.out 1 (.int .i64 2) rfl
  have b2 := Ext.box HB8.out 2 (.int .i64 100) rfl
  have b3 := Ext.box HB8.out 3 (.string bo) rfl
  go_wp2_with fail
  refine (bmay_eq 1 2 100 _ true G20.out _).mono ?_
  rintro r w9 ⟨rfl, hx9⟩
  go_wp2_with fail
  refine (bmay_eq 0 0 0 _ false Bt.F7 _).mono ?_
  rintro r w10 ⟨rfl, hx10⟩
  go_wp2
  go_ret
  exact ⟨rfl, (HX1.out.alloc _).trans (HB8.out.trans (hx9.trans hx10))⟩
theorem bfixed_yes (w : World) : Calls Try.prog 8 #[] w fun e w' => e = .returned (.bool true) ∧ Ext w w' :=
  bfixed_gen ⟨#[8, 5, 8, 0]⟩ ⟨#[66, 1, 2, 100, 4, 8, 5, 8, 0]⟩ Bt.F1 Bt.F2.1 Bt.F2.2 Bt.F3 Bt.F4 rfl rfl rfl w

end Go.Proofs.Ytlbhpgieehallaa
