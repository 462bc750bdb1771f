/-
  The statement SnapBack: its walk.
-/
import Derived.Test.YthkogcgdikgkaaaMu
import Derived.Test.YthkogcgdikgkaaaMs
set_option linter.unusedVariables false
set_option linter.unusedSimpArgs false
namespace Go.Proofs.Ythkogcgdikgkaaa
open Go.RowKit Go.Maps

theorem lst_ne {u : ByteArray} (h : u ≠ ⟨#[]⟩) : u.toList.isEmpty = false ∧ ¬ u.toList = [] := by
  have h1 : ¬ u.toList = [] := fun he => h (by
    have : u.data.toList = [] := by rw [← he]; exact (Lib.toList_data u).symm
    exact ByteArray.ext (Array.ext' this))
  exact ⟨by cases hu : u.toList with
    | nil => exact absurd hu h1
    | cons a b => rfl, h1⟩
set_option maxRecDepth 100000 in
set_option maxHeartbeats 1000000 in
theorem snback_out (time cut : Int) (ps : List (Int × Int)) (gs : List Gs4) (A B : Option Addr) (c d : Nat) (t : ByteArray) (w : World) (h2 : RowsAt 2 snPCells w (.slice A ps.length c) ps) (h3 : RowsAt 4 snGCells w (.slice B gs.length d) gs) (ht : t.size ≤ maxLen)
    (hm : ¬ (ps.length ≤ 70 ∧ gs.length ≤ 100) ∨ ((ps.length ≤ 70 ∧ gs.length ≤ 100) ∧ 2000 < t.size)) :
    Calls Try.prog 4 #[.agg #[.int .i64 time, .slice A ps.length c, .slice B gs.length d], .string t, .int .i64 cut] w fun e w' => e = .returned (.bool true) ∧ Ext w w' := by
  have H2 := Lib.hid h2
  have H3 := Lib.hid h3
  clear h2 h3
  unfold maxLen at ht
  have HB := Lib.hid (blk_new w (.cells #[.int .i64 time, .slice A ps.length c, .slice B gs.length d] 25))
  obtain ⟨sb, hsb⟩ : ∃ b, w.heap.size = b := ⟨_, rfl⟩
  have HX0 : Hid (Ext w (w.alloc (.cells #[.int .i64 time, .slice A ps.length c, .slice B gs.length d] 25))) := Lib.hid ((Ext.refl w).alloc _)
  go_enter Try.func4, Try.ntmps4
  go_wp2_with fail
  refine (snfixed_yes _).mono ?_
  rintro r w1 ⟨rfl, hx1⟩
  have HB1 := Lib.hid (hx1.blk HB.out)
  have HX1 := Lib.hid (HX0.out.trans hx1)
  clear hx1 HB HX0
  rw [hsb] at *
  clear hsb
  have q0 := blk_cell HB1.out 0 _ rfl
  have q1 := blk_cell HB1.out 1 _ rfl
  have q2 := blk_cell HB1.out 2 _ rfl
  rcases hm with hsm | ⟨hsm, h2000⟩
  · have HSM : Hid ((decide (ps.length ≤ 70) && decide (gs.length ≤ 100)) = false) := Lib.hid (by simp; omega)
    clear hsm
    go_wp2_with fail
    refine (rsmall_any _ ⟨time, ps, gs⟩ _ ⟨A, c, B, d, rfl, H2.out.ext HX1.out, H3.out.ext HX1.out⟩ false HSM.out).mono ?_
    rintro r w2 ⟨rfl, hx2⟩
    clear q0 q1 q2
    go_wp2_with fail
    refine (snfixed_yes _).mono ?_
    rintro r w4 ⟨rfl, hx4⟩
    go_wp2
    go_ret
    exact ⟨rfl, (HX1.out.trans hx2).trans hx4⟩
  · have HSM : Hid ((decide (ps.length ≤ 70) && decide (gs.length ≤ 100)) = true) := Lib.hid (by simp [hsm])
    clear hsm
    go_wp2_with fail
    refine (rsmall_any _ ⟨time, ps, gs⟩ _ ⟨A, c, B, d, rfl, H2.out.ext HX1.out, H3.out.ext HX1.out⟩ true HSM.out).mono ?_
    rintro r w2 ⟨rfl, hx2⟩
    clear q0 q1 q2
    go_wp2_with fail
    refine (snfixed_yes _).mono ?_
    rintro r w4 ⟨rfl, hx4⟩
    go_wp2
    go_ret
    exact ⟨rfl, (HX1.out.trans hx2).trans hx4⟩
set_option maxRecDepth 100000 in
set_option maxHeartbeats 1000000 in
theorem snback_in (time cut : Int) (ps : List (Int × Int)) (gs : List Gs4) (A B : Option Addr) (c d : Nat) (t : ByteArray) (w : World) (h2 : RowsAt 2 snPCells w (.slice A ps.length c) ps) (h3 : RowsAt 4 snGCells w (.slice B gs.length d) gs) (hp : ps.length ≤ 70) (hg : gs.length ≤ 100) (ht : t.size ≤ 2000) (hcw : (Lit.int .i64 cut).wf = true) :
    Calls Try.prog 4 #[.agg #[.int .i64 time, .slice A ps.length c, .slice B gs.length d], .string t, .int .i64 cut] w fun e w' => e = .returned (.bool true) ∧ Ext w w' := by
  have H2 := Lib.hid h2
  have H3 := Lib.hid h3
  have HCW := Lib.hid (bounds_i64 hcw)
  clear h2 h3 hcw
  have HB := Lib.hid (blk_new w (.cells #[.int .i64 time, .slice A ps.length c, .slice B gs.length d] 25))
  obtain ⟨sb, hsb⟩ : ∃ b, w.heap.size = b := ⟨_, rfl⟩
  have HX0 : Hid (Ext w (w.alloc (.cells #[.int .i64 time, .slice A ps.length c, .slice B gs.length d] 25))) := Lib.hid ((Ext.refl w).alloc _)
  go_enter Try.func4, Try.ntmps4
  go_wp2_with fail
  refine (snfixed_yes _).mono ?_
  rintro r w1 ⟨rfl, hx1⟩
  have HB1 := Lib.hid (hx1.blk HB.out)
  have HX1 := Lib.hid (HX0.out.trans hx1)
  clear hx1 HB HX0
  rw [hsb] at *
  clear hsb
  have q0 := blk_cell HB1.out 0 _ rfl
  have q1 := blk_cell HB1.out 1 _ rfl
  have q2 := blk_cell HB1.out 2 _ rfl
  have HSM : Hid ((decide (ps.length ≤ 70) && decide (gs.length ≤ 100)) = true) := Lib.hid (by simp [hp, hg])
  go_wp2_with fail
  refine (rsmall_any _ ⟨time, ps, gs⟩ _ ⟨A, c, B, d, rfl, H2.out.ext HX1.out, H3.out.ext HX1.out⟩ true HSM.out).mono ?_
  rintro r w2 ⟨rfl, hx2⟩
  clear q0 q1 q2
  have HB2 := Lib.hid (hx2.blk HB1.out)
  have HX2 := Lib.hid (HX1.out.trans hx2)
  clear hx2 HB1 HX1
  obtain ⟨⟨x, rr⟩, hxd⟩ : ∃ p, snDec t = p := ⟨_, rfl⟩
  have HXD := Lib.hid hxd
  clear hxd
  go_wp2_with fail
  refine (sndec_k t x rr _ HXD.out (by unfold maxLen; omega)).mono ?_
  rintro r w3 ⟨A2, c2, B2, d2, rfl, hr1, hr2, hx3⟩
  have HS3 : Hid (SnAt (w3.alloc (.cells #[.int .i64 x.time, .slice A2 x.ps.length c2, .slice B2 x.gs.length d2] 25)) (.agg #[.int .i64 x.time, .slice A2 x.ps.length c2, .slice B2 x.gs.length d2]) x) := Lib.hid (SnAt.ext ⟨A2, c2, B2, d2, rfl, hr1, hr2⟩ ((Ext.refl w3).alloc _))
  have HB3 := Lib.hid (blk_alloc (hx3.blk HB2.out) (.cells #[.int .i64 x.time, .slice A2 x.ps.length c2, .slice B2 x.gs.length d2] 25))
  have HA3 := Lib.hid (blk_new w3 (.cells #[.int .i64 x.time, .slice A2 x.ps.length c2, .slice B2 x.gs.length d2] 25))
  have HX3 := Lib.hid ((HX2.out.trans hx3).alloc (.cells #[.int .i64 x.time, .slice A2 x.ps.length c2, .slice B2 x.gs.length d2] 25))
  obtain ⟨ab, hab⟩ : ∃ b, w3.heap.size = b := ⟨_, rfl⟩
  rw [hab] at HA3
  have HAB := Lib.hid hab
  clear hr1 hr2 hx3 HB2 HX2 hab
  go_upto_region 4 with fail
  rw [HAB.out]
  generalize w3.alloc (.cells #[.int .i64 x.time, .slice A2 x.ps.length c2, .slice B2 x.gs.length d2] 25) = w4 at *
  clear HAB w3 w1 w2
  have q0 := blk_cell HA3.out 0 _ rfl
  have q1 := blk_cell HA3.out 1 _ rfl
  have q2 := blk_cell HA3.out 2 _ rfl
  by_cases hr0 : rr = 0
  · subst hr0
    have HOK := Lib.hid (snDec_ok HXD.out)
    obtain ⟨ok1, ok2, ok3, ok4, ok5, _⟩ := Sn.may_all HOK.out.1
    have ok2' : x.ps.length ≤ 10000 := by omega
    have ok3' : x.gs.length ≤ 10000 := by omega
    clear ok1 ok2 ok3 ok4 ok5
    go_wp2_with fail
    refine (snmay_k _ x true _ HOK.out.1 HS3.out ok2' ok3').mono ?_
    rintro r w5 ⟨rfl, hx5⟩
    clear q0 q1 q2
    have q0 := blk_cell (hx5.blk HA3.out) 0 _ rfl
    have q1 := blk_cell (hx5.blk HA3.out) 1 _ rfl
    have q2 := blk_cell (hx5.blk HA3.out) 2 _ rfl
    have HB5 := Lib.hid (hx5.blk HB3.out)
    have HX5 := Lib.hid (HX3.out.trans hx5)
    have HS5 := Lib.hid (HS3.out.ext hx5)
    clear hx5
    go_wp2_with fail
    refine (snenc_any' _ x t _ HOK.out.2 HS5.out ok2' ok3').mono ?_
    rintro r w6 ⟨rfl, hx6⟩
    clear q0 q1 q2
    have HB6 := Lib.hid (hx6.blk HB5.out)
    have HX6 := Lib.hid (HX5.out.trans hx6)
    clear hx6 HB5 HX5 HS5 HB3 HX3 HS3 HA3 HOK HXD ok2' ok3' w5 w4
    go_upto_region 6 with fail
    have HP6 := Lib.hid (H2.out.ext HX6.out)
    have HG6 := Lib.hid (H3.out.ext HX6.out)
    have q0 := blk_cell HB6.out 0 _ rfl
    have q1 := blk_cell HB6.out 1 _ rfl
    have q2 := blk_cell HB6.out 2 _ rfl
    have hl1 : ps.length ≤ 10000 := by omega
    have hl2 : gs.length ≤ 10000 := by omega
    obtain ⟨u, hu⟩ : ∃ u, Sn.enc ⟨time, ps, gs⟩ = u := ⟨_, rfl⟩
    have HU := Lib.hid hu
    clear hu
    cases hmay : Sn.may ⟨time, ps, gs⟩ with
    | false =>
      have HM := Lib.hid hmay
      obtain rfl : u = ⟨#[]⟩ := by rw [← HU.out]; exact (Sn.enc_nil _).2 hmay
      clear hmay
      go_wp2_with fail
      refine (snenc_any' _ ⟨time, ps, gs⟩ ⟨#[]⟩ _ HU.out ⟨A, c, B, d, rfl, HP6.out, HG6.out⟩ hl1 hl2).mono ?_
      rintro r w7 ⟨rfl, hx7⟩
      clear q0 q1 q2
      have q0 := blk_cell (hx7.blk HB6.out) 0 _ rfl
      have q1 := blk_cell (hx7.blk HB6.out) 1 _ rfl
      have q2 := blk_cell (hx7.blk HB6.out) 2 _ rfl
      have HP7 := Lib.hid (HP6.out.ext hx7)
      have HG7 := Lib.hid (HG6.out.ext hx7)
      have HX7 := Lib.hid (HX6.out.trans hx7)
      clear hx7
      go_wp2_with fail
      refine (snmay_k _ ⟨time, ps, gs⟩ false _ HM.out ⟨A, c, B, d, rfl, HP7.out, HG7.out⟩ hl1 hl2).mono ?_
      rintro r w8 ⟨rfl, hx8⟩
      clear q0 q1 q2
      go_wp2
      go_ret
      exact ⟨rfl, HX7.out.trans hx8⟩
    | true =>
      have HM := Lib.hid hmay
      have HDE : Hid (snDec u = (⟨time, ps, gs⟩, 0)) := Lib.hid (by rw [← HU.out]; exact snDec_enc hmay)
      have hne : u ≠ ⟨#[]⟩ := fun he => by
        have := (Sn.enc_nil ⟨time, ps, gs⟩).1 (by rw [HU.out]; exact he)
        rw [hmay] at this; cases this
      obtain ⟨hn1, hn2⟩ := lst_ne hne
      have husz : u.size ≤ 100000 := by
        obtain ⟨_, _, _, _, _, hok⟩ := Sn.may_all hmay
        have h1 := Wi.cat_len _ hok
        rw [Sn.nums_len] at h1
        have h2 : u.size = (Wi.cat (Sn.nums ⟨time, ps, gs⟩)).length := by
          rw [← HU.out]; unfold Sn.enc; rw [if_pos hmay, bsz_list]
        simp only at h1
        omega
      clear hmay hne
      go_wp2_with fail
      refine (snenc_any' _ ⟨time, ps, gs⟩ u _ HU.out ⟨A, c, B, d, rfl, HP6.out, HG6.out⟩ hl1 hl2).mono ?_
      rintro r w7 ⟨rfl, hx7⟩
      clear q0 q1 q2
      have HB7 := Lib.hid (hx7.blk HB6.out)
      have HP7 := Lib.hid (HP6.out.ext hx7)
      have HG7 := Lib.hid (HG6.out.ext hx7)
      have HX7 := Lib.hid (HX6.out.trans hx7)
      clear hx7 HB6 HP6 HG6 HX6
      go_wp2_with fail
      refine (sndec_k u ⟨time, ps, gs⟩ 0 _ HDE.out (by unfold maxLen; omega)).mono ?_
      rintro r w8 ⟨A3, c3, B3, d3, rfl, hr1, hr2, hx8⟩
      have HS8 : Hid (SnAt (w8.alloc (.cells #[.int .i64 time, .slice A3 ps.length c3, .slice B3 gs.length d3] 25)) (.agg #[.int .i64 time, .slice A3 ps.length c3, .slice B3 gs.length d3]) ⟨time, ps, gs⟩) := Lib.hid (SnAt.ext ⟨A3, c3, B3, d3, rfl, hr1, hr2⟩ ((Ext.refl w8).alloc _))
      have HB8 := Lib.hid (blk_alloc (hx8.blk HB7.out) (.cells #[.int .i64 time, .slice A3 ps.length c3, .slice B3 gs.length d3] 25))
      have HC8 := Lib.hid (blk_new w8 (.cells #[.int .i64 time, .slice A3 ps.length c3, .slice B3 gs.length d3] 25))
      have hx8' := hx8.alloc (.cells #[.int .i64 time, .slice A3 ps.length c3, .slice B3 gs.length d3] 25)
      have HX8 := Lib.hid (HX7.out.trans hx8')
      have HP8 := Lib.hid (HP7.out.ext hx8')
      have HG8 := Lib.hid (HG7.out.ext hx8')
      obtain ⟨bb, hbb⟩ : ∃ b, w8.heap.size = b := ⟨_, rfl⟩
      rw [hbb] at HC8
      have HBB := Lib.hid hbb
      clear hr1 hr2 hx8 hx8' HB7 HX7 HP7 HG7 hbb
      go_upto_region 10 with fail
      rw [HBB.out]
      generalize w8.alloc (.cells #[.int .i64 time, .slice A3 ps.length c3, .slice B3 gs.length d3] 25) = w9 at *
      clear HBB w8
      have q0 := blk_cell HB8.out 0 _ rfl
      have q1 := blk_cell HB8.out 1 _ rfl
      have q2 := blk_cell HB8.out 2 _ rfl
      have p0 := blk_cell HC8.out 0 _ rfl
      have p1 := blk_cell HC8.out 1 _ rfl
      have p2 := blk_cell HC8.out 2 _ rfl
      go_wp2_with fail
      refine (rsnsame_any _ _ ⟨time, ps, gs⟩ ⟨time, ps, gs⟩ _ HS8.out ⟨A, c, B, d, rfl, HP8.out, HG8.out⟩ hl1 hl2 true (by simp)).mono ?_
      rintro r w10 ⟨rfl, hx10⟩
      clear q0 q1 q2 p0 p1 p2
      have HX10 := Lib.hid (HX8.out.trans hx10)
      have hcw := HCW.out
      clear hx10 HX8 HS8 HB8 HC8 HP8 HG8
      by_cases hc0 : cut < 0
      · clear hcw
        go_wp2
        go_ret
        exact ⟨rfl, HX10.out⟩
      · by_cases hc1 : (u.size : Int) ≤ cut
        · clear hcw
          go_wp2
          go_ret
          exact ⟨by first | rfl | (simp; done) | (simp; omega), HX10.out⟩
        · obtain ⟨k, rfl⟩ := Int.eq_ofNat_of_zero_le (show 0 ≤ cut by omega)
          have hku : k < u.size := by omega
          have HCD : Hid (snDec (u.extract 0 k) = (Sn.zero, 10)) := Lib.hid (by
            rw [← HU.out]; exact snDec_cut HM.out (by rw [HU.out]; exact hku))
          have HSZ : Hid ((u.extract 0 k).size ≤ maxLen) := Lib.hid (by simp [maxLen]; omega)
          have hk0 : (0 : Int) ≤ (k : Int) := by omega
          have hk1 : (k : Int) < (u.size : Int) := by omega
          clear hcw hc0 hc1
          go_wp2_with fail
          refine (sndec_k (u.extract 0 k) Sn.zero 10 _ HCD.out HSZ.out).mono ?_
          rintro r w11 ⟨A4, c4, B4, d4, rfl, hr1, hr2, hx11⟩
          simp only [Sn.zero, List.length_nil]
          go_wp2
          go_ret
          exact ⟨rfl, HX10.out.trans (hx11.alloc _)⟩
  · have he1 : (rr == 0) = false := by simpa using hr0
    have he2 : (rr != 0) = true := by simpa using hr0
    have hz := snDec_no HXD.out hr0
    subst hz
    simp only [Sn.zero, List.length_nil] at *
    go_wp2_with fail
    refine (rsnsame_any _ _ Sn.zero Sn.zero _ HS3.out (snAt_zero _) (by decide) (by decide) true (by decide)).mono ?_
    rintro r w6 ⟨rfl, hx6⟩
    clear q0 q1 q2
    have HB6 := Lib.hid (hx6.blk HB3.out)
    have HX6 := Lib.hid (HX3.out.trans hx6)
    clear hx6 HB3 HX3 HS3 HA3 HXD he1 he2 hr0 w4
    go_upto_region 6 with fail
    have HP6 := Lib.hid (H2.out.ext HX6.out)
    have HG6 := Lib.hid (H3.out.ext HX6.out)
    have q0 := blk_cell HB6.out 0 _ rfl
    have q1 := blk_cell HB6.out 1 _ rfl
    have q2 := blk_cell HB6.out 2 _ rfl
    have hl1 : ps.length ≤ 10000 := by omega
    have hl2 : gs.length ≤ 10000 := by omega
    obtain ⟨u, hu⟩ : ∃ u, Sn.enc ⟨time, ps, gs⟩ = u := ⟨_, rfl⟩
    have HU := Lib.hid hu
    clear hu
    cases hmay : Sn.may ⟨time, ps, gs⟩ with
    | false =>
      have HM := Lib.hid hmay
      obtain rfl : u = ⟨#[]⟩ := by rw [← HU.out]; exact (Sn.enc_nil _).2 hmay
      clear hmay
      go_wp2_with fail
      refine (snenc_any' _ ⟨time, ps, gs⟩ ⟨#[]⟩ _ HU.out ⟨A, c, B, d, rfl, HP6.out, HG6.out⟩ hl1 hl2).mono ?_
      rintro r w7 ⟨rfl, hx7⟩
      clear q0 q1 q2
      have q0 := blk_cell (hx7.blk HB6.out) 0 _ rfl
      have q1 := blk_cell (hx7.blk HB6.out) 1 _ rfl
      have q2 := blk_cell (hx7.blk HB6.out) 2 _ rfl
      have HP7 := Lib.hid (HP6.out.ext hx7)
      have HG7 := Lib.hid (HG6.out.ext hx7)
      have HX7 := Lib.hid (HX6.out.trans hx7)
      clear hx7
      go_wp2_with fail
      refine (snmay_k _ ⟨time, ps, gs⟩ false _ HM.out ⟨A, c, B, d, rfl, HP7.out, HG7.out⟩ hl1 hl2).mono ?_
      rintro r w8 ⟨rfl, hx8⟩
      clear q0 q1 q2
      go_wp2
      go_ret
      exact ⟨rfl, HX7.out.trans hx8⟩
    | true =>
      have HM := Lib.hid hmay
      have HDE : Hid (snDec u = (⟨time, ps, gs⟩, 0)) := Lib.hid (by rw [← HU.out]; exact snDec_enc hmay)
      have hne : u ≠ ⟨#[]⟩ := fun he => by
        have := (Sn.enc_nil ⟨time, ps, gs⟩).1 (by rw [HU.out]; exact he)
        rw [hmay] at this; cases this
      obtain ⟨hn1, hn2⟩ := lst_ne hne
      have husz : u.size ≤ 100000 := by
        obtain ⟨_, _, _, _, _, hok⟩ := Sn.may_all hmay
        have h1 := Wi.cat_len _ hok
        rw [Sn.nums_len] at h1
        have h2 : u.size = (Wi.cat (Sn.nums ⟨time, ps, gs⟩)).length := by
          rw [← HU.out]; unfold Sn.enc; rw [if_pos hmay, bsz_list]
        simp only at h1
        omega
      clear hmay hne
      go_wp2_with fail
      refine (snenc_any' _ ⟨time, ps, gs⟩ u _ HU.out ⟨A, c, B, d, rfl, HP6.out, HG6.out⟩ hl1 hl2).mono ?_
      rintro r w7 ⟨rfl, hx7⟩
      clear q0 q1 q2
      have HB7 := Lib.hid (hx7.blk HB6.out)
      have HP7 := Lib.hid (HP6.out.ext hx7)
      have HG7 := Lib.hid (HG6.out.ext hx7)
      have HX7 := Lib.hid (HX6.out.trans hx7)
      clear hx7 HB6 HP6 HG6 HX6
      go_wp2_with fail
      refine (sndec_k u ⟨time, ps, gs⟩ 0 _ HDE.out (by unfold maxLen; omega)).mono ?_
      rintro r w8 ⟨A3, c3, B3, d3, rfl, hr1, hr2, hx8⟩
      have HS8 : Hid (SnAt (w8.alloc (.cells #[.int .i64 time, .slice A3 ps.length c3, .slice B3 gs.length d3] 25)) (.agg #[.int .i64 time, .slice A3 ps.length c3, .slice B3 gs.length d3]) ⟨time, ps, gs⟩) := Lib.hid (SnAt.ext ⟨A3, c3, B3, d3, rfl, hr1, hr2⟩ ((Ext.refl w8).alloc _))
      have HB8 := Lib.hid (blk_alloc (hx8.blk HB7.out) (.cells #[.int .i64 time, .slice A3 ps.length c3, .slice B3 gs.length d3] 25))
      have HC8 := Lib.hid (blk_new w8 (.cells #[.int .i64 time, .slice A3 ps.length c3, .slice B3 gs.length d3] 25))
      have hx8' := hx8.alloc (.cells #[.int .i64 time, .slice A3 ps.length c3, .slice B3 gs.length d3] 25)
      have HX8 := Lib.hid (HX7.out.trans hx8')
      have HP8 := Lib.hid (HP7.out.ext hx8')
      have HG8 := Lib.hid (HG7.out.ext hx8')
      obtain ⟨bb, hbb⟩ : ∃ b, w8.heap.size = b := ⟨_, rfl⟩
      rw [hbb] at HC8
      have HBB := Lib.hid hbb
      clear hr1 hr2 hx8 hx8' HB7 HX7 HP7 HG7 hbb
      go_upto_region 10 with fail
      rw [HBB.out]
      generalize w8.alloc (.cells #[.int .i64 time, .slice A3 ps.length c3, .slice B3 gs.length d3] 25) = w9 at *
      clear HBB w8
      have q0 := blk_cell HB8.out 0 _ rfl
      have q1 := blk_cell HB8.out 1 _ rfl
      have q2 := blk_cell HB8.out 2 _ rfl
      have p0 := blk_cell HC8.out 0 _ rfl
      have p1 := blk_cell HC8.out 1 _ rfl
      have p2 := blk_cell HC8.out 2 _ rfl
      go_wp2_with fail
      refine (rsnsame_any _ _ ⟨time, ps, gs⟩ ⟨time, ps, gs⟩ _ HS8.out ⟨A, c, B, d, rfl, HP8.out, HG8.out⟩ hl1 hl2 true (by simp)).mono ?_
      rintro r w10 ⟨rfl, hx10⟩
      clear q0 q1 q2 p0 p1 p2
      have HX10 := Lib.hid (HX8.out.trans hx10)
      have hcw := HCW.out
      clear hx10 HX8 HS8 HB8 HC8 HP8 HG8
      by_cases hc0 : cut < 0
      · clear hcw
        go_wp2
        go_ret
        exact ⟨rfl, HX10.out⟩
      · by_cases hc1 : (u.size : Int) ≤ cut
        · clear hcw
          go_wp2
          go_ret
          exact ⟨by first | rfl | (simp; done) | (simp; omega), HX10.out⟩
        · obtain ⟨k, rfl⟩ := Int.eq_ofNat_of_zero_le (show 0 ≤ cut by omega)
          have hku : k < u.size := by omega
          have HCD : Hid (snDec (u.extract 0 k) = (Sn.zero, 10)) := Lib.hid (by
            rw [← HU.out]; exact snDec_cut HM.out (by rw [HU.out]; exact hku))
          have HSZ : Hid ((u.extract 0 k).size ≤ maxLen) := Lib.hid (by simp [maxLen]; omega)
          have hk0 : (0 : Int) ≤ (k : Int) := by omega
          have hk1 : (k : Int) < (u.size : Int) := by omega
          clear hcw hc0 hc1
          go_wp2_with fail
          refine (sndec_k (u.extract 0 k) Sn.zero 10 _ HCD.out HSZ.out).mono ?_
          rintro r w11 ⟨A4, c4, B4, d4, rfl, hr1, hr2, hx11⟩
          simp only [Sn.zero, List.length_nil]
          go_wp2
          go_ret
          exact ⟨rfl, HX10.out.trans (hx11.alloc _)⟩
theorem walk_SnapBack (v : Value) (s : Sn) (t : ByteArray) (cut : Int) (w : World) (hs : SnAt w v s) (_ : SnIn s) (ht : t.size ≤ maxLen) (hc : (Lit.int .i64 cut).wf = true) :
    Calls Try.prog 4 #[v, .string t, .int .i64 cut] w fun e w' => e = .returned (.bool true) ∧ Ext w w' := by
  obtain ⟨A, c, B, d, rfl, h2, h3⟩ := hs
  obtain ⟨time, ps, gs⟩ := s
  simp only at h2 h3 ⊢
  by_cases h : ¬ (ps.length ≤ 70 ∧ gs.length ≤ 100) ∨ ((ps.length ≤ 70 ∧ gs.length ≤ 100) ∧ 2000 < t.size)
  · exact snback_out time cut ps gs A B c d t w h2 h3 ht h
  · exact snback_in time cut ps gs A B c d t w h2 h3 (by omega) (by omega) (by omega) hc

end Go.Proofs.Ythkogcgdikgkaaa
