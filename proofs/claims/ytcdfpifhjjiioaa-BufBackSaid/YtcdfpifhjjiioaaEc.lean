/-
  The contract of event.Encode, and of the builder's WriteByte.
-/
import Derived.Test.YtcdfpifhjjiioaaEb
set_option linter.unusedVariables false
set_option linter.unusedSimpArgs false
namespace Go.Proofs.Ytcdfpifhjjiioaa
open Go.RowKit

set_option maxRecDepth 100000 in
set_option maxHeartbeats 1000000 in
theorem wbyte_any (B b : Nat) (l : List UInt8) (n : Int) (w : World) (h : Lib.IsBuilder 58 5 B b (Lib.byteCells l) w) (h0 : 0 ≤ n) (h1 : n < 256) (hlen : l.length + 1 ≤ 140737488355328) (hB0 : B ≤ w.heap.size) :
    Calls Try.prog 31 #[.pointer (some ⟨b, 0, none⟩), .int .u8 n] w fun e w' => e = .returned .nilIface ∧ Lib.IsBuilder 58 5 B b (Lib.byteCells (l ++ [UInt8.ofNat n.toNat])) w' ∧ Below B w w' := by
  obtain ⟨i0, hi, hz0, hz1, hz2⟩ := info_parts Try.infoU8
  go_enter Try.func31, Try.ntmps31
  go_wp2_with fail
  refine (check_any B b _ _ h).mono ?_
  rintro e w1 ⟨rfl, h1, hb1⟩
  obtain ⟨hB, v, hbk, hown, hne⟩ := h1
  have hlt : b < w1.heap.size := (Array.getElem?_eq_some_iff.1 hbk).1
  have c1 : w1.cell? ⟨b, 1, none⟩ = some v := by rw [Lib.cell_of_heap hbk]; rfl
  go_wp2_with (at_builtin; refine wpList_append_own _ rfl _ _ 56 rfl B 5 i0 (.int .u8 0) 1 1 Try.underlying56 hi hz0 hz1 hz2 rfl (by decide) _ _ _ rfl (hown.alloc _) ⟨w1.heap.size, 0, none⟩ 1 1 [.int .u8 n] rfl rfl ?c1 ?c2 ?c3 ?c4 ?c5 ?_)
  case c1 => exact one_new _ _ _
  case c2 => simp [Value.oneCell']
  case c3 => rw [Lib.byteCells_length]; unfold maxLen; omega
  case c4 => rw [Lib.byteCells_length]; omega
  case c5 => have := hb1.size; simp; omega
  intro v' w2 hown' hgrow _
  have hb2 : w2.heap[b]? = some (.cells #[.pointer (some ⟨b, 0, none⟩), v] 58 (0, 0)) := ((hgrow.block b (by simp; omega) (fun e => hne e.symm)).trans (Below.heap_alloc w1 _ b hlt)).trans hbk
  have d1 : w2.cell? ⟨b, 1, none⟩ = some v := by rw [Lib.cell_of_heap hb2]; rfl
  have f1 : w2.frozen? ⟨b, 1, none⟩ = false := Lib.frozen_of_heap hb2 1
  obtain ⟨ao, n', cap, rfl⟩ : ∃ ao n' cap, v' = .slice ao n' cap := by
    rcases hown'.2 with ⟨hv, _⟩ | ⟨g, cap, cur, hv, _⟩
    · exact ⟨_, _, _, hv⟩
    · exact ⟨_, _, _, hv⟩
  have HO := Lib.hid hown'; clear hown'
  go_wp2
  go_ret
  refine ⟨rfl, .inr ?_, ?_⟩
  · have e1 : Lib.byteCells (l ++ [UInt8.ofNat n.toNat]) = Lib.byteCells l ++ [.int .u8 n] := by
      rw [Lib.byteCells_append]
      congr 1
      simp [Lib.byteCells]
      omega
    rw [e1]
    exact Lib.BuilderAt.put hB hb2 (by simpa using HO.out) (by decide)
  · exact ((hb1.alloc (by have := hb1.size; omega) _).grown hgrow (by have := hb1.size; simp; omega) (fun k hk => (hown.lt k hk).1)).setCell (p := ⟨b, 1, none⟩) hB _

theorem may_b (v : Value) (e : Ev) (b : Bool) (hb : e.may = b) (w : World) (h : EvAt w v e) (hn : e.args.length ≤ 9223372036854775807) :
    Calls Try.prog 18 #[v] w fun r w' => r = .returned (.bool b) ∧ Ext w w' := by subst hb; exact may_e v e w h hn
theorem Ev.kind_le {e : Ev} (h : e.may = true) : 0 ≤ e.kind ∧ e.kind ≤ 255 := by
  rcases Ev.may_kind h with h | h
  · unfold Ki.known at h; have := of_decide_eq_true h; omega
  · unfold Ki.exp at h; have := of_decide_eq_true h; omega
theorem Ev.enc_exp {k d : Int} {t : ByteArray} (hm : Ev.may ⟨k, d, [], t⟩ = true) (hx : Ki.exp k = true) : (⟨(([UInt8.ofNat k.toNat] ++ (Va.puts d.toNat).data.toList) ++ (Va.puts t.size ++ t).data.toList).toArray⟩ : ByteArray) = Ev.enc ⟨k, d, [], t⟩ := by
  unfold Ev.enc; rw [if_pos hm]
  unfold Ev.encL Ev.tailL
  simp only
  rw [if_pos hx, ByteArray.data_append, Array.toList_append, Va.puts_list, Va.puts_list]
  simp
theorem Ev.enc_known {k d : Int} {xs : List Int} {t : ByteArray} (hm : Ev.may ⟨k, d, xs, t⟩ = true) (hx : Ki.exp k = false) : (⟨(([UInt8.ofNat k.toNat] ++ (Va.puts d.toNat).data.toList) ++ Wi.cat xs).toArray⟩ : ByteArray) = Ev.enc ⟨k, d, xs, t⟩ := by
  unfold Ev.enc; rw [if_pos hm]
  unfold Ev.encL Ev.tailL
  simp only
  rw [if_neg (by rw [hx]; simp), Va.puts_list]
  simp
set_option maxRecDepth 100000 in
set_option maxHeartbeats 1000000 in
theorem enc_exp (v : Value) (k d : Int) (xs : List Int) (t : ByteArray) (w : World) (h : EvAt w v ⟨k, d, xs, t⟩) (ht : t.size ≤ 140737488351232) (hm : Ev.may ⟨k, d, xs, t⟩ = true) (hx : Ki.exp k = true) :
    Calls Try.prog 19 #[v] w fun r w' => r = .returned (.string (Ev.enc ⟨k, d, xs, t⟩)) ∧ Ext w w' := by
  obtain ⟨A, c, rfl, hI⟩ := h
  simp only at *
  have HI := Lib.hid hI; clear hI
  have HM := Lib.hid hm
  obtain ⟨hk0, hk1⟩ := Ev.kind_le hm
  obtain ⟨hd0, hd1⟩ := Ev.ok_wi.1 (Ev.may_dt hm)
  have HD0 := Lib.hid hd0
  have HD1 := Lib.hid hd1
  simp only at hk0 hk1 HD0 HD1
  have hd9 := Va.puts_nine hd0 hd1
  clear hd0 hd1
  obtain rfl : xs = [] := Ev.may_exp hm hx
  have HX := Lib.hid hx
  have HE := Lib.hid (Ev.enc_exp hm hx)
  clear hm hx
  go_enter Try.func19, Try.ntmps19
  go_wp2_with fail
  refine (may_b _ ⟨k, d, [], t⟩ true HM.out _ ⟨A, c, rfl, HI.out.ext ((Ext.refl _).alloc _)⟩ (by simp)).mono ?_
  rintro r w1 ⟨rfl, hx1⟩
  have HX1 := Lib.hid hx1
  have c0 : (w1.alloc (.cells #[.pointer none, .slice none 0 0] 58)).cell? ⟨w.heap.size, 0, none⟩ = some (.int .i64 k) := Ext.box (hx1.alloc _) 0 (.int .i64 k) rfl
  have HF := Lib.hid (Lib.fresh_isBuilder 58 5 w1)
  have hz1 := hx1.size
  rw [World.size_alloc] at hz1
  clear hx1
  go_wp2_with fail
  refine (wbyte_any _ _ [] k _ HF.out hk0 (by omega) (by simp) (by simp)).mono ?_
  rintro r w2 ⟨rfl, hb2, hbl2⟩
  have HX2 : Hid (Ext w1 w2) := Lib.hid (Below.trans ((Ext.refl w1).alloc _) hbl2)
  have HB2 := Lib.hid hb2
  have hz2 := hbl2.size
  rw [World.size_alloc] at hz2
  clear c0 hb2 hbl2
  have c0 := Ext.box (HX1.out.trans HX2.out) 0 (.int .i64 k) rfl
  have c1 := Ext.box (HX1.out.trans HX2.out) 1 (.int .i64 d) rfl
  go_wp2_with fail
  refine (put_str d _ HD0.out HD1.out).mono ?_
  rintro r w3 ⟨rfl, hx3⟩
  have HX3 : Hid (Ext w1 w3) := Lib.hid (HX2.out.trans hx3)
  have HB3 := Lib.hid (isBuilder_ext HB2.out hx3 (by omega))
  have hz3 := hx3.size
  clear c0 c1 hx3 HB2
  go_wp2_with fail
  refine (write_any _ _ _ _ _ HB3.out (by simp; omega) (by omega)).mono ?_
  rintro r w4 ⟨rfl, hb4, hbl4⟩
  have HX4 : Hid (Ext w1 w4) := Lib.hid (Below.trans HX3.out hbl4)
  have HB4 := Lib.hid hb4
  have hz4 := hbl4.size
  clear hb4 hbl4 HB3
  have c0 := Ext.box (HX1.out.trans HX4.out) 0 (.int .i64 k) rfl
  have c2 := Ext.box (HX1.out.trans HX4.out) 2 (.slice A 0 c) rfl
  have c3 := Ext.box (HX1.out.trans HX4.out) 3 (.string t) rfl
  go_wp2_with fail
  refine (exp_eq k true HX.out _).mono ?_
  rintro r w5 ⟨rfl, rfl⟩
  go_wp2_with fail
  refine (text_w t _ ht).mono ?_
  rintro r w5 ⟨rfl, hx5⟩
  have HX5 : Hid (Ext w1 w5) := Lib.hid (HX4.out.trans hx5)
  have HB5 := Lib.hid (isBuilder_ext HB4.out hx5 (by omega))
  have hz5 := hx5.size
  have H9 : Hid ((Va.puts t.size).size ≤ 9) := Lib.hid (by have := @Va.puts_nine (t.size : Int) (by omega) (by omega); simpa using this)
  have HSZ : Hid ((Va.puts t.size ++ t).size ≤ 140737488351241) := Lib.hid (by have := H9.out; simp; omega)
  generalize hq : Va.puts t.size ++ t = q at *
  clear c0 c2 c3 hx5 HB4
  go_wp2_with fail
  refine (write_any _ _ _ _ _ HB5.out (by have := HSZ.out; simp; omega) (by omega)).mono ?_
  rintro r w6 ⟨rfl, hb6, hbl6⟩
  have HX6 : Hid (Ext w1 w6) := Lib.hid (Below.trans HX5.out hbl6)
  have HB6 := Lib.hid hb6
  have hz6 := hbl6.size
  clear hb6 hbl6 HB5
  have c2 := Ext.box (HX1.out.trans HX6.out) 2 (.slice A 0 c) rfl
  go_wp2
  go_loop [28] (fun i => i = .int .i64 0) (fun i => 0)
  case atStart => rfl
  case round =>
    subst hrel
    go_wp2_with fail
    refine (Try.Builder_String_any _ _ _ _ HB6.out (by omega)).mono ?_
    rintro r w7 ⟨rfl, hbl7⟩
    go_wp2
    go_ret
    exact ⟨by rw [← HE.out]; rfl, (((Ext.refl _).alloc _).trans HX1.out).trans (Below.trans HX6.out hbl7)⟩
set_option maxRecDepth 100000 in
set_option maxHeartbeats 1000000 in
theorem enc_known (v : Value) (k d : Int) (xs : List Int) (t : ByteArray) (w : World) (h : EvAt w v ⟨k, d, xs, t⟩) (hn : xs.length ≤ 1000) (hm : Ev.may ⟨k, d, xs, t⟩ = true) (hx : Ki.exp k = false) :
    Calls Try.prog 19 #[v] w fun r w' => r = .returned (.string (Ev.enc ⟨k, d, xs, t⟩)) ∧ Ext w w' := by
  obtain ⟨A, c, rfl, hI⟩ := h
  simp only at *
  have HI := Lib.hid hI; clear hI
  have HM := Lib.hid hm
  obtain ⟨hk0, hk1⟩ := Ev.kind_le hm
  obtain ⟨hd0, hd1⟩ := Ev.ok_wi.1 (Ev.may_dt hm)
  have HD0 := Lib.hid hd0
  have HD1 := Lib.hid hd1
  simp only at hk0 hk1 HD0 HD1
  have hd9 := Va.puts_nine hd0 hd1
  clear hd0 hd1
  have HX := Lib.hid hx
  have HE := Lib.hid (Ev.enc_known hm hx)
  have ho := (Ev.may_no hm (by rw [hx]; simp)).2.2.1
  have HO : Hid (∀ x ∈ xs, Wi.ok x) := Lib.hid fun x hx => Ev.ok_wi.1 (ho x hx)
  clear hm hx ho
  go_enter Try.func19, Try.ntmps19
  go_wp2_with fail
  refine (may_b _ ⟨k, d, xs, t⟩ true HM.out _ ⟨A, c, rfl, HI.out.ext ((Ext.refl _).alloc _)⟩ (by simp; omega)).mono ?_
  rintro r w1 ⟨rfl, hx1⟩
  have HX1 := Lib.hid hx1
  have c0 : (w1.alloc (.cells #[.pointer none, .slice none 0 0] 58)).cell? ⟨w.heap.size, 0, none⟩ = some (.int .i64 k) := Ext.box (hx1.alloc _) 0 (.int .i64 k) rfl
  have HF := Lib.hid (Lib.fresh_isBuilder 58 5 w1)
  have hz1 := hx1.size
  rw [World.size_alloc] at hz1
  clear hx1
  go_wp2_with fail
  refine (wbyte_any _ _ [] k _ HF.out hk0 (by omega) (by simp) (by simp)).mono ?_
  rintro r w2 ⟨rfl, hb2, hbl2⟩
  have HX2 : Hid (Ext w1 w2) := Lib.hid (Below.trans ((Ext.refl w1).alloc _) hbl2)
  have HB2 := Lib.hid hb2
  have hz2 := hbl2.size
  rw [World.size_alloc] at hz2
  clear c0 hb2 hbl2
  have c0 := Ext.box (HX1.out.trans HX2.out) 0 (.int .i64 k) rfl
  have c1 := Ext.box (HX1.out.trans HX2.out) 1 (.int .i64 d) rfl
  go_wp2_with fail
  refine (put_str d _ HD0.out HD1.out).mono ?_
  rintro r w3 ⟨rfl, hx3⟩
  have HX3 : Hid (Ext w1 w3) := Lib.hid (HX2.out.trans hx3)
  have HB3 := Lib.hid (isBuilder_ext HB2.out hx3 (by omega))
  have hz3 := hx3.size
  clear c0 c1 hx3 HB2
  go_wp2_with fail
  refine (write_any _ _ _ _ _ HB3.out (by simp; omega) (by omega)).mono ?_
  rintro r w4 ⟨rfl, hb4, hbl4⟩
  have HX4 : Hid (Ext w1 w4) := Lib.hid (Below.trans HX3.out hbl4)
  have HB4 := Lib.hid hb4
  have hz4 := hbl4.size
  clear hb4 hbl4 HB3
  have c0 := Ext.box (HX1.out.trans HX4.out) 0 (.int .i64 k) rfl
  have c2 := Ext.box (HX1.out.trans HX4.out) 2 (.slice A xs.length c) rfl
  go_wp2_with fail
  refine (exp_eq k false HX.out _).mono ?_
  rintro r w5 ⟨rfl, rfl⟩
  go_wp2
  clear c0 c2
  generalize hp : [UInt8.ofNat k.toNat] ++ (Va.puts d.toNat).data.toList = pre at *
  have HP : Hid (pre.length ≤ 10) := Lib.hid (by rw [← hp]; simp at hd9 ⊢; omega)
  have HPE := Lib.hid hp
  clear hp
  go_loopw [28] (fun i wr => ∃ j : Nat, j ≤ xs.length ∧ i = .int .i64 j ∧ Lib.IsBuilder 58 5 w1.heap.size w1.heap.size (Lib.byteCells (pre ++ Wi.cat (xs.take j))) wr ∧ Ext w1 wr ∧ w1.heap.size + 1 ≤ wr.heap.size) (fun i _ => xs.length - (intOf i).toNat)
  case atStart => exact ⟨0, by omega, rfl, by rw [← HPE.out]; simpa [Wi.cat] using HB4.out, HX4.out, by omega⟩
  case round =>
    obtain ⟨j, hj, rfl, hbd, hx, hsz⟩ := hrel
    have HB := Lib.hid hbd; clear hbd
    by_cases hlt : j < xs.length
    · obtain ⟨A', c', hAA, hII⟩ := HI.out
      obtain ⟨b, o, rfl, hb, hc⟩ := hII (by omega)
      simp only [Value.slice.injEq, true_and] at hAA
      obtain ⟨rfl, rfl⟩ := hAA
      have hcell : wr.cell? ⟨b, o + j, none⟩ = some (.int .i64 xs[j]) := by
        rw [Below.cell ((((Ext.refl w).alloc _).trans HX1.out).trans hx) hb]; exact hc j _ (List.getElem?_eq_getElem hlt)
      clear hc hII
      have HT : Hid (xs.take (j + 1) = xs.take j ++ [xs[j]]) := Lib.hid (by rw [List.take_succ_eq_append_getElem hlt])
      obtain ⟨o1, o2⟩ := HO.out xs[j] (List.getElem_mem hlt)
      have HL : Hid ((Wi.cat (xs.take j)).length ≤ 9 * 1000) := Lib.hid (by
        have := Wi.cat_len (xs.take j) (fun x hx => HO.out x (List.mem_of_mem_take hx)); rw [List.length_take] at this; omega)
      have O1 := Lib.hid o1
      have O2 := Lib.hid o2
      have h9 := Va.puts_nine o1 o2
      have HX := Lib.hid hx
      clear o1 o2 hx
      generalize xs[j] = x at *
      go_wp2_with fail
      refine (put_str x _ O1.out O2.out).mono ?_
      rintro e w6 ⟨rfl, hx6⟩
      have HB6 := Lib.hid (isBuilder_ext HB.out hx6 (by omega))
      have hz6 := hx6.size
      have HX6 := Lib.hid hx6
      clear hx6
      go_wp2_with fail
      refine (write_any _ _ _ _ _ HB6.out (by have := HL.out; have := HP.out; simp; omega) (by omega)).mono ?_
      rintro r w7 ⟨rfl, hb7, hbl7⟩
      go_wp2
      go_roundw
      case rel =>
        refine ⟨j + 1, by omega, by go_num, ?_, Below.trans (HX.out.trans HX6.out) hbl7, by have := hbl7.size; omega⟩
        rw [HT.out, Wi.cat_snoc, ← List.append_assoc]
        rw [Va.puts_list] at hb7
        exact hb7
      case measure => simp [intOf]; omega
    · obtain rfl : j = xs.length := by omega
      have HB2 : Hid (Lib.IsBuilder 58 5 w1.heap.size w1.heap.size (Lib.byteCells (pre ++ Wi.cat xs)) wr) := Lib.hid (by have := HB.out; rwa [List.take_length] at this)
      go_wp2_with fail
      refine (Try.Builder_String_any _ _ _ _ HB2.out (by omega)).mono ?_
      rintro r w7 ⟨rfl, hbl7⟩
      go_wp2
      go_ret
      exact ⟨by rw [← HE.out]; rfl, (((Ext.refl _).alloc _).trans HX1.out).trans (Below.trans hx hbl7)⟩

set_option maxRecDepth 100000 in
set_option maxHeartbeats 1000000 in
theorem enc_e (v : Value) (e : Ev) (w : World) (h : EvAt w v e) (hn : e.args.length ≤ 9223372036854775807) (ht : e.text.size ≤ 140737488351232) :
    Calls Try.prog 19 #[v] w fun r w' => r = .returned (.string e.enc) ∧ Ext w w' := by
  obtain ⟨A, c, rfl, hI⟩ := h
  obtain ⟨k, d, xs, t⟩ := e
  simp only at *
  have HI := Lib.hid hI; clear hI
  cases hm : Ev.may ⟨k, d, xs, t⟩ with
  | false =>
    have HM := Lib.hid hm
    have HE : Hid (Ev.enc ⟨k, d, xs, t⟩ = ⟨#[]⟩) := Lib.hid (by unfold Ev.enc; rw [hm]; simp)
    clear hm
    go_enter Try.func19, Try.ntmps19
    go_wp2_with (go_at_call 18; refine (may_b _ ⟨k, d, xs, t⟩ false HM.out _ ⟨A, c, rfl, HI.out.ext ((Ext.refl _).alloc _)⟩ (by simp; omega)).mono ?_; rintro r w1 ⟨rfl, hx1⟩)
    go_ret
    exact ⟨by rw [HE.out]; rfl, ((Ext.refl _).alloc _).trans hx1⟩
  | true =>
    cases hx : Ki.exp k with
    | true => exact enc_exp _ k d xs t w ⟨A, c, rfl, HI.out⟩ ht hm hx
    | false => exact enc_known _ k d xs t w ⟨A, c, rfl, HI.out⟩ (by have h1 := (Ev.may_no hm (by rw [hx]; simp)).2.1; have h2 := Ki.args_le k; simp only at h1; omega) hm hx

end Go.Proofs.Ytcdfpifhjjiioaa
