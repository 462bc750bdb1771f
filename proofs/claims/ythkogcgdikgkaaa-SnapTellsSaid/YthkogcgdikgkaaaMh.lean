/-
  The contract of snap.Encode: the walk.
-/
import Derived.Test.YthkogcgdikgkaaaMg
import Derived.Deep.DeepCutAuto
set_option linter.unusedVariables false
set_option linter.unusedSimpArgs false
namespace Go.Proofs.Ythkogcgdikgkaaa
open Go.RowKit Go.Maps

theorem bsz_list (l : List UInt8) : (⟨l.toArray⟩ : ByteArray).size = l.length := by simp [ByteArray.size]
set_option maxRecDepth 100000 in
set_option maxHeartbeats 1000000 in
theorem snenc_no (v : Value) (s : Sn) (w : World) (hs : SnAt w v s) (hp : s.ps.length ≤ 10000) (hg : s.gs.length ≤ 10000) (hm : s.may = false) :
    Calls Try.prog 14 #[v] w fun e w' => e = .returned (.string s.enc) ∧ Ext w w' := by
  have HSN := Lib.hid hs
  have HE : Hid (s.enc = ⟨#[]⟩) := Lib.hid (by unfold Sn.enc; rw [hm]; rfl)
  have HM := Lib.hid hm
  obtain ⟨A, c, B, d, rfl, h2, h3⟩ := hs
  obtain ⟨time, ps, gs⟩ := s
  clear h2 h3 hm
  simp only at *
  have HBX := Lib.hid (blk_new w (.cells #[.int .i64 time, .slice A ps.length c, .slice B gs.length d] 25))
  rw [HE.out]
  go_enter Try.func14, Try.ntmps14
  go_wp2_with fail
  refine (snmay_any _ ⟨time, ps, gs⟩ _ (HSN.out.ext ((Ext.refl w).alloc (.cells #[.int .i64 time, .slice A ps.length c, .slice B gs.length d] 25))) hp hg).mono ?_
  rintro e w1 ⟨he1, hx1⟩
  rw [HM.out] at he1
  subst he1
  go_wp2
  go_ret
  exact ⟨rfl, ((Ext.refl w).alloc _).trans hx1⟩
set_option maxRecDepth 100000 in
set_option maxHeartbeats 1000000 in
theorem snenc_yes (v : Value) (s : Sn) (w : World) (hs : SnAt w v s) (hm : s.may = true) :
    Calls Try.prog 14 #[v] w fun e w' => e = .returned (.string s.enc) ∧ Ext w w' := by
  have HSN := Lib.hid hs
  obtain ⟨ok1, ok2, ok3, ok4, ok5⟩ := Sn.may_ok hm
  have HE : Hid (s.enc = ⟨(Wi.cat s.nums).toArray⟩) := Lib.hid (by unfold Sn.enc; rw [hm]; rfl)
  have HM := Lib.hid hm
  obtain ⟨A, c, B, d, rfl, h2, h3⟩ := hs
  obtain ⟨time, ps, gs⟩ := s
  simp only at *
  obtain ⟨_, c', hv2, hc2, hA2⟩ := h2
  simp only [Value.slice.injEq, true_and] at hv2
  obtain ⟨rfl, rfl⟩ := hv2
  obtain ⟨_, d', hv3, hc3, hA3⟩ := h3
  simp only [Value.slice.injEq, true_and] at hv3
  obtain ⟨rfl, rfl⟩ := hv3
  have HA2 := Lib.hid hA2
  have HA3 := Lib.hid hA3
  have OK1 := Lib.hid ok1
  have OK4 := Lib.hid ok4
  have OK5 := Lib.hid ok5
  clear hm hc2 hc3 hA2 hA3 ok1 ok4 ok5
  have i64 : (ps.length : Int) ≤ 64 := by omega
  have i1000 : (gs.length : Int) ≤ 1000 := by omega
  have HBX := Lib.hid (blk_new w (.cells #[.int .i64 time, .slice A ps.length c, .slice B gs.length d] 25))
  rw [HE.out]
  go_enter Try.func14, Try.ntmps14
  go_wp2_with fail
  refine (snmay_any _ ⟨time, ps, gs⟩ _ (HSN.out.ext ((Ext.refl w).alloc (.cells #[.int .i64 time, .slice A ps.length c, .slice B gs.length d] 25))) (by simp only; omega) (by simp only; omega)).mono ?_
  rintro e w1 ⟨he1, hx1⟩
  rw [HM.out] at he1
  subst he1
  have HX1 := Lib.hid (((Ext.refl w).alloc (.cells #[.int .i64 time, .slice A ps.length c, .slice B gs.length d] 25)).trans hx1)
  have HB1 := Lib.hid (hx1.blk HBX.out)
  clear hx1
  obtain ⟨bk, hbk⟩ : ∃ b, w1.heap.size = b := ⟨_, rfl⟩
  have hszw := HX1.out.size
  have hszb := blk_lt HB1.out
  have HF : Hid (Lib.IsBuilder 61 5 bk bk (Lib.byteCells []) (w1.alloc (.cells #[.pointer none, .slice none 0 0] 61))) := Lib.hid (by have := Lib.fresh_isBuilder 61 5 w1; rw [hbk] at this; exact this)
  have HX2 := Lib.hid (HX1.out.alloc (.cells #[.pointer none, .slice none 0 0] 61))
  have HB2 := Lib.hid (blk_alloc HB1.out (.cells #[.pointer none, .slice none 0 0] 61))
  have hs2 : bk + 1 ≤ (w1.alloc (.cells #[.pointer none, .slice none 0 0] 61)).heap.size := by rw [World.size_alloc, hbk]; exact Nat.le_refl _
  have HBK := Lib.hid hbk
  have hbk2 : w.heap.size < bk := by omega
  go_upto_region 4 with fail
  generalize hw2 : w1.alloc (.cells #[.pointer none, .slice none 0 0] 61) = w2 at *
  (try rw [HBK.out])
  clear hw2 hbk hszw hszb HX1 HB1 HBK
  have q0 := blk_cell HB2.out 0 (.int .i64 time) rfl
  have q1 := blk_cell HB2.out 1 (.slice A ps.length c) rfl
  have HI2 : Hid (IntsAt (w2.alloc (.cells #[.int .i64 time, .int .i64 (ps.length : Int)] 3)) (.slice (some ⟨w2.heap.size, 0, none⟩) 2 2) [time, (ps.length : Int)]) := Lib.hid (ints_arr2 _ _ _ _ rfl)
  go_wp2_with fail
  refine (nums_eq _ [time, (ps.length : Int)] ⟨(Wi.cat [time, (ps.length : Int)]).toArray⟩ _ HI2.out (by simp) (nums_of_ok _ (by intro x hx; simp at hx; rcases hx with rfl | rfl; exact snNum_ok OK1.out; exact ⟨by omega, by omega⟩))).mono ?_
  rintro e w3 ⟨rfl, hx3⟩
  clear q0 q1
  have HW3 := Lib.hid (isBuilder_ext HF.out (((Ext.refl w2).alloc _).trans hx3) (by omega))
  have hs3 := hx3.size
  rw [World.size_alloc] at hs3
  have HX3 := Lib.hid (HX2.out.trans (((Ext.refl w2).alloc _).trans hx3))
  have HB3 := Lib.hid (hx3.blk (blk_alloc HB2.out (.cells #[.int .i64 time, .int .i64 (ps.length : Int)] 3)))
  clear hx3
  go_wp2_with fail
  refine (write_any _ _ _ _ _ HW3.out (by have := Wi.cat_len [time, (ps.length : Int)] (by intro x hx; simp at hx; rcases hx with rfl | rfl; exact snNum_ok OK1.out; exact ⟨by omega, by omega⟩); rw [bsz_list]; simp only [List.length_nil, List.length_cons] at this ⊢; omega) (by omega)).mono ?_
  rintro e w4 ⟨rfl, hb4, hbl4⟩
  have HW4 : Hid (Lib.IsBuilder 61 5 bk bk (Lib.byteCells (Wi.cat [time, (ps.length : Int)])) w4) := Lib.hid (by simpa using hb4)
  have HX4 : Hid (Ext w w4) := Lib.hid (Below.trans HX3.out (Below.mono hbl4 (Nat.le_of_lt hbk2)))
  have HB4 : Hid (w4.heap[w.heap.size]? = some (.cells #[.int .i64 time, .slice A ps.length c, .slice B gs.length d] 25 (0, 0))) := Lib.hid ((hbl4.block w.heap.size hbk2).trans HB3.out)
  have hs4 := hbl4.size
  clear hb4 hbl4
  have q1 := blk_cell HB4.out 1 (.slice A ps.length c) rfl
  go_wp2
  clear q1
  go_loopw [23] (fun iv wr => ∃ k : Nat, k ≤ ps.length ∧ iv = .int .i64 k ∧ Lib.IsBuilder 61 5 bk bk (Lib.byteCells (Wi.cat ([time, (ps.length : Int)] ++ snPNums (ps.take k)))) wr ∧ Ext w wr ∧ wr.heap[w.heap.size]? = some (.cells #[.int .i64 time, .slice A ps.length c, .slice B gs.length d] 25 (0, 0)) ∧ bk + 1 ≤ wr.heap.size) (fun iv _ => ps.length - (intOf iv).toNat)
  case atStart => exact ⟨0, by omega, rfl, by simpa [snPNums] using HW4.out, HX4.out, HB4.out, by omega⟩
  case round =>
    obtain ⟨k, hk, rfl, hib, hx, hb, hsr⟩ := hrel
    have HIB := Lib.hid hib
    have HX := Lib.hid hx
    have HB := Lib.hid hb
    clear hib hx hb HW4 HX4 HB4
    by_cases hlt : k < ps.length
    · obtain ⟨bb, o, rfl, hbb, hcell⟩ := HA2.out (by omega)
      have h0 := hcell k ps[k] (List.getElem?_eq_getElem hlt)
      have HNX := Lib.hid (snPNums_next hlt)
      have HOK := Lib.hid (OK4.out _ (List.getElem_mem hlt))
      have HLEN : Hid (∀ x ∈ [time, (ps.length : Int)] ++ snPNums (ps.take k), Wi.ok x) := Lib.hid (by
        intro x hx
        simp only [List.cons_append, List.nil_append, List.mem_cons] at hx
        rcases hx with rfl | rfl | hx
        · exact snNum_ok OK1.out
        · exact ⟨by omega, by omega⟩
        · unfold snPNums at hx
          obtain ⟨p, hp, hx⟩ := List.mem_flatMap.1 hx
          have := OK4.out p (List.mem_of_mem_take hp)
          simp only [List.mem_cons, List.not_mem_nil, or_false] at hx
          rcases hx with rfl | rfl
          · exact snNum_ok this.1
          · exact snNum_ok this.2)
      generalize ps[k] = p at *
      obtain ⟨p0, p1⟩ := p
      have c0 : wr.cell? ⟨bb, o + k * 2, none⟩ = some (.int .i64 p0) := by rw [Below.cell HX.out hbb]; exact h0 0 _ rfl
      have c1 : wr.cell? ⟨bb, o + k * 2 + 1, none⟩ = some (.int .i64 p1) := by rw [Below.cell HX.out hbb]; exact h0 1 _ rfl
      have HI : Hid (IntsAt ((wr.alloc (.cells #[.int .i64 p0, .int .i64 p1] 46)).alloc (.cells #[.int .i64 p0, .int .i64 p1] 3)) (.slice (some ⟨wr.heap.size + 1, 0, none⟩) 2 2) [p0, p1]) := Lib.hid (ints_arr2 _ _ _ _ (by simp))
      clear hcell h0
      have hok2 : ∀ x ∈ [p0, p1], Wi.ok x := by
        intro x hx; simp at hx
        rcases hx with rfl | rfl
        · exact snNum_ok HOK.out.1
        · exact snNum_ok HOK.out.2
      have HOK2 := Lib.hid hok2
      clear hok2
      go_wp2_with fail
      refine (nums_eq _ [p0, p1] ⟨(Wi.cat [p0, p1]).toArray⟩ _ HI.out (by simp) (nums_of_ok _ HOK2.out)).mono ?_
      rintro e w5 ⟨rfl, hx5⟩
      clear c0 c1
      have hxr : Ext wr w5 := (((Ext.refl wr).alloc _).alloc _).trans hx5
      have HW5 := Lib.hid (isBuilder_ext HIB.out hxr (by omega))
      have HX5 := Lib.hid (HX.out.trans hxr)
      have HB5 := Lib.hid (hxr.blk HB.out)
      have hs5 := hxr.size
      clear hx5 hxr
      go_wp2_with fail
      refine (write_any _ _ _ _ _ HW5.out (by have h1 := Wi.cat_len _ HLEN.out; have h2 := Wi.cat_len _ HOK2.out; rw [bsz_list]; simp only [List.length_append, snPNums_len, List.length_take, List.length_nil, List.length_cons] at h1 h2 ⊢; omega) (by omega)).mono ?_
      rintro e w6 ⟨rfl, hb6, hbl6⟩
      have HW6 : Hid (Lib.IsBuilder 61 5 bk bk (Lib.byteCells (Wi.cat ([time, (ps.length : Int)] ++ snPNums (ps.take (k + 1))))) w6) := Lib.hid (by
        rw [HNX.out, ← List.append_assoc, Wi.cat_append]; simpa using hb6)
      have HX6 : Hid (Ext w w6) := Lib.hid (Below.trans HX5.out (Below.mono hbl6 (Nat.le_of_lt hbk2)))
      have HB6 := Lib.hid ((hbl6.block w.heap.size hbk2).trans HB5.out)
      have hs6 := hbl6.size
      clear hb6 hbl6
      go_wp2
      go_roundw
      case rel => exact ⟨k + 1, by omega, by go_num, HW6.out, HX6.out, HB6.out, by omega⟩
      case measure => simp [intOf]; omega
    · obtain rfl : k = ps.length := by omega
      have HPRE : Hid ([time, (ps.length : Int)] ++ snPNums (ps.take ps.length) ++ [(gs.length : Int)] = [time, (ps.length : Int)] ++ snPNums ps ++ [(gs.length : Int)]) := Lib.hid (by rw [List.take_length])
      have HPOK : Hid (∀ x ∈ [time, (ps.length : Int)] ++ snPNums (ps.take ps.length) ++ [(gs.length : Int)], Wi.ok x) := Lib.hid (by
        intro x hx
        simp only [List.cons_append, List.nil_append, List.append_assoc, List.mem_cons, List.mem_append, List.not_mem_nil, or_false] at hx
        rcases hx with rfl | rfl | hx | rfl
        · exact snNum_ok OK1.out
        · exact ⟨by omega, by omega⟩
        · unfold snPNums at hx
          obtain ⟨p, hp, hx⟩ := List.mem_flatMap.1 hx
          have := OK4.out p (List.mem_of_mem_take hp)
          simp only [List.mem_cons, List.not_mem_nil, or_false] at hx
          rcases hx with rfl | rfl
          · exact snNum_ok this.1
          · exact snNum_ok this.2
        · exact ⟨by omega, by omega⟩)
      have hpl : ([time, (ps.length : Int)] ++ snPNums (ps.take ps.length) ++ [(gs.length : Int)]).length ≤ 200 := by
        simp only [List.length_append, snPNums_len, List.length_take, List.length_nil, List.length_cons]; omega
      have hpl2 : (Wi.cat ([time, (ps.length : Int)] ++ snPNums (ps.take ps.length))).length ≤ 2000 := by
        have := Wi.cat_len ([time, (ps.length : Int)] ++ snPNums (ps.take ps.length)) (fun x hx => HPOK.out x (List.mem_append.2 (.inl hx)))
        simp only [List.length_append, snPNums_len, List.length_take, List.length_nil, List.length_cons] at this; omega
      have q2 := blk_cell HB.out 2 (.slice B gs.length d) rfl
      have HI : Hid (IntsAt (wr.alloc (.cells #[.int .i64 (gs.length : Int)] 3)) (.slice (some ⟨wr.heap.size, 0, none⟩) 1 1) [(gs.length : Int)]) := Lib.hid (ints_arr wr [(gs.length : Int)])
      have hokg : ∀ x ∈ [(gs.length : Int)], Wi.ok x := by intro x hx; simp at hx; subst hx; exact ⟨by omega, by omega⟩
      have HOKG := Lib.hid hokg
      clear hokg
      go_wp2_with fail
      refine (nums_eq _ [(gs.length : Int)] ⟨(Wi.cat [(gs.length : Int)]).toArray⟩ _ HI.out (by simp) (nums_of_ok _ HOKG.out)).mono ?_
      rintro e w5 ⟨rfl, hx5⟩
      clear q2
      have hxr : Ext wr w5 := ((Ext.refl wr).alloc _).trans hx5
      have HW5 := Lib.hid (isBuilder_ext HIB.out hxr (by omega))
      have HX5 := Lib.hid (HX.out.trans hxr)
      have HB5 := Lib.hid (hxr.blk HB.out)
      have hs5 := hxr.size
      clear hx5 hxr
      go_wp2_with fail
      refine (write_any _ _ _ _ _ HW5.out (by have h2 := Wi.cat_len _ HOKG.out; rw [bsz_list]; simp only [List.length_nil, List.length_cons] at h2; omega) (by omega)).mono ?_
      rintro e w6 ⟨rfl, hb6, hbl6⟩
      obtain ⟨pre, hpre⟩ : ∃ p, [time, (ps.length : Int)] ++ snPNums (ps.take ps.length) ++ [(gs.length : Int)] = p := ⟨_, rfl⟩
      have HW6 : Hid (Lib.IsBuilder 61 5 bk bk (Lib.byteCells (Wi.cat pre)) w6) := Lib.hid (by
        rw [← hpre, Wi.cat_append]; simpa using hb6)
      rw [hpre] at HPRE HPOK hpl
      have HX6 : Hid (Ext w w6) := Lib.hid (Below.trans HX5.out (Below.mono hbl6 (Nat.le_of_lt hbk2)))
      have HB6 := Lib.hid ((hbl6.block w.heap.size hbk2).trans HB5.out)
      have hs6 := hbl6.size
      clear hb6 hbl6 HW5 HX5 HB5 HIB HX HB hpl2 hpre
      have q2 := blk_cell HB6.out 2 (.slice B gs.length d) rfl
      go_wp2
      clear q2
      go_loopw [44] (fun iv wz => ∃ k : Nat, k ≤ gs.length ∧ iv = .int .i64 k ∧ Lib.IsBuilder 61 5 bk bk (Lib.byteCells (Wi.cat (pre ++ snGNums (gs.take k)))) wz ∧ Ext w wz ∧ bk + 1 ≤ wz.heap.size) (fun iv _ => gs.length - (intOf iv).toNat)
      case atStart => exact ⟨0, by omega, rfl, by simpa [snGNums] using HW6.out, HX6.out, by omega⟩
      case round =>
        obtain ⟨k, hk, rfl, hib, hx, hsr⟩ := hrel
        have HIB := Lib.hid hib
        have HX := Lib.hid hx
        clear hib hx HW6 HX6 HB6
        have HLEN : Hid (∀ x ∈ pre ++ snGNums (gs.take k), Wi.ok x) := Lib.hid (by
          intro x hx
          rcases List.mem_append.1 hx with hx | hx
          · exact HPOK.out x hx
          · unfold snGNums at hx
            obtain ⟨p, hp, hx⟩ := List.mem_flatMap.1 hx
            have := OK5.out p (List.mem_of_mem_take hp)
            simp only [List.mem_cons, List.not_mem_nil, or_false] at hx
            rcases hx with rfl | rfl | rfl | rfl
            · exact snNum_ok this.1
            · exact snNum_ok this.2.1
            · exact snNum_ok this.2.2.1
            · exact snNum_ok this.2.2.2)
        by_cases hlt : k < gs.length
        · obtain ⟨bb, o, rfl, hbb, hcell⟩ := HA3.out (by omega)
          have h0 := hcell k gs[k] (List.getElem?_eq_getElem hlt)
          have HNX := Lib.hid (snGNums_next hlt)
          have HOK := Lib.hid (OK5.out _ (List.getElem_mem hlt))
          generalize gs[k] = p at *
          obtain ⟨g, st, m, q⟩ := p
          have c0 : wr.cell? ⟨bb, o + k * 4, none⟩ = some (.int .i64 g) := by rw [Below.cell HX.out hbb]; exact h0 0 _ rfl
          have c1 : wr.cell? ⟨bb, o + k * 4 + 1, none⟩ = some (.int .i64 st) := by rw [Below.cell HX.out hbb]; exact h0 1 _ rfl
          have c2 : wr.cell? ⟨bb, o + k * 4 + 2, none⟩ = some (.int .i64 m) := by rw [Below.cell HX.out hbb]; exact h0 2 _ rfl
          have c3 : wr.cell? ⟨bb, o + k * 4 + 3, none⟩ = some (.int .i64 q) := by rw [Below.cell HX.out hbb]; exact h0 3 _ rfl
          have HI : Hid (IntsAt ((wr.alloc (.cells #[.int .i64 g, .int .i64 st, .int .i64 m, .int .i64 q] 36)).alloc (.cells #[.int .i64 g, .int .i64 st, .int .i64 m, .int .i64 q] 3)) (.slice (some ⟨wr.heap.size + 1, 0, none⟩) 4 4) [g, st, m, q]) := Lib.hid (ints_arr4 _ _ _ _ _ _ (by simp))
          clear hcell h0
          have hok2 : ∀ x ∈ [g, st, m, q], Wi.ok x := by
            intro x hx; simp at hx
            rcases hx with rfl | rfl | rfl | rfl
            · exact snNum_ok HOK.out.1
            · exact snNum_ok HOK.out.2.1
            · exact snNum_ok HOK.out.2.2.1
            · exact snNum_ok HOK.out.2.2.2
          have HOK2 := Lib.hid hok2
          clear hok2
          go_wp2_with fail
          refine (nums_eq _ [g, st, m, q] ⟨(Wi.cat [g, st, m, q]).toArray⟩ _ HI.out (by simp) (nums_of_ok _ HOK2.out)).mono ?_
          rintro e w7 ⟨rfl, hx7⟩
          clear c0 c1 c2 c3
          have hxr : Ext wr w7 := (((Ext.refl wr).alloc _).alloc _).trans hx7
          have HW7 := Lib.hid (isBuilder_ext HIB.out hxr (by omega))
          have HX7 := Lib.hid (HX.out.trans hxr)
          have hs7 := hxr.size
          clear hx7 hxr
          go_wp2_with fail
          refine (write_any _ _ _ _ _ HW7.out (by have h1 := Wi.cat_len _ HLEN.out; have h2 := Wi.cat_len _ HOK2.out; rw [bsz_list]; simp only [List.length_append, snGNums_len, List.length_take, List.length_nil, List.length_cons] at h1 h2 ⊢; omega) (by omega)).mono ?_
          rintro e w8 ⟨rfl, hb8, hbl8⟩
          have HW8 : Hid (Lib.IsBuilder 61 5 bk bk (Lib.byteCells (Wi.cat (pre ++ snGNums (gs.take (k + 1))))) w8) := Lib.hid (by
            rw [HNX.out, ← List.append_assoc, Wi.cat_append]; simpa using hb8)
          have HX8 : Hid (Ext w w8) := Lib.hid (Below.trans HX7.out (Below.mono hbl8 (Nat.le_of_lt hbk2)))
          have hs8 := hbl8.size
          clear hb8 hbl8
          go_wp2
          go_roundw
          case rel => exact ⟨k + 1, by omega, by go_num, HW8.out, HX8.out, by omega⟩
          case measure => simp [intOf]; omega
        · obtain rfl : k = gs.length := by omega
          have HFIN : Hid (pre ++ snGNums (gs.take gs.length) = Sn.nums ⟨time, ps, gs⟩) := Lib.hid (by rw [List.take_length, HPRE.out]; rfl)
          have HIB2 := Lib.hid (by have := HIB.out; rw [HFIN.out] at this; exact this)
          go_wp2_with (go_at_call 31; refine (Try.Builder_String_any _ _ _ _ HIB2.out (by omega)).mono ?_; rintro e w7 ⟨rfl, hbl⟩)
          go_ret
          exact ⟨rfl, Below.trans HX.out (Below.mono hbl (Nat.le_of_lt hbk2))⟩
theorem snenc_any (v : Value) (s : Sn) (w : World) (hs : SnAt w v s) (hp : s.ps.length ≤ 10000) (hg : s.gs.length ≤ 10000) :
    Calls Try.prog 14 #[v] w fun e w' => e = .returned (.string s.enc) ∧ Ext w w' := by
  cases hm : s.may with
  | true => exact snenc_yes v s w hs hm
  | false => exact snenc_no v s w hs hp hg hm

end Go.Proofs.Ythkogcgdikgkaaa
