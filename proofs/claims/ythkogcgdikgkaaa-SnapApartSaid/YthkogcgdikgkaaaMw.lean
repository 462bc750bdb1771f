/-
  The statement SnapApart: its walk.
-/
import Derived.Test.YthkogcgdikgkaaaMv
set_option linter.unusedVariables false
set_option linter.unusedSimpArgs false
namespace Go.Proofs.Ythkogcgdikgkaaa
open Go.RowKit Go.Maps

set_option maxRecDepth 100000 in
set_option maxHeartbeats 1000000 in
theorem snapart_out (time time2 tt : Int) (ps qs : List (Int × Int)) (gs hs : List Gs4) (A B A' B' : Option Addr) (c d c' d' : Nat) (w : World) (h2 : RowsAt 2 snPCells w (.slice A ps.length c) ps) (h3 : RowsAt 4 snGCells w (.slice B gs.length d) gs) (h4 : RowsAt 2 snPCells w (.slice A' qs.length c') qs) (h5 : RowsAt 4 snGCells w (.slice B' hs.length d') hs) (hm : ¬ (((ps.length ≤ 70 ∧ gs.length ≤ 100) ∧ (qs.length ≤ 70 ∧ hs.length ≤ 100)) ∧ Sn.may ⟨time, ps, gs⟩ = true ∧ Sn.may ⟨time2, qs, hs⟩ = true ∧ 0 ≤ tt ∧ tt < 4611686018427387904)) :
    Calls Try.prog 6 #[.agg #[.int .i64 time, .slice A ps.length c, .slice B gs.length d], .agg #[.int .i64 time2, .slice A' qs.length c', .slice B' hs.length d'], .int .i64 tt] w fun e w' => e = .returned (.bool true) ∧ Ext w w' := by
  have H2 := Lib.hid h2
  have H3 := Lib.hid h3
  have H4 := Lib.hid h4
  have H5 := Lib.hid h5
  clear h2 h3 h4 h5
  have HB := Lib.hid (blk_alloc (blk_new w (.cells #[.int .i64 time, .slice A ps.length c, .slice B gs.length d] 25)) (.cells #[.int .i64 time2, .slice A' qs.length c', .slice B' hs.length d'] 25))
  have HC : Hid (((w.alloc (.cells #[.int .i64 time, .slice A ps.length c, .slice B gs.length d] 25)).alloc (.cells #[.int .i64 time2, .slice A' qs.length c', .slice B' hs.length d'] 25)).heap[w.heap.size + 1]? = some (.cells #[.int .i64 time2, .slice A' qs.length c', .slice B' hs.length d'] 25 (0, 0))) := Lib.hid (by have := blk_new (w.alloc (.cells #[.int .i64 time, .slice A ps.length c, .slice B gs.length d] 25)) (.cells #[.int .i64 time2, .slice A' qs.length c', .slice B' hs.length d'] 25); rwa [World.size_alloc] at this)
  have HX0 : Hid (Ext w ((w.alloc (.cells #[.int .i64 time, .slice A ps.length c, .slice B gs.length d] 25)).alloc (.cells #[.int .i64 time2, .slice A' qs.length c', .slice B' hs.length d'] 25))) := Lib.hid (((Ext.refl w).alloc _).alloc _)
  obtain ⟨sa, hsa⟩ : ∃ b, w.heap.size = b := ⟨_, rfl⟩
  obtain ⟨sb, hsb⟩ : ∃ b, sa + 1 = b := ⟨_, rfl⟩
  go_enter Try.func6, Try.ntmps6
  go_wp2_with fail
  refine (snfixed_yes _).mono ?_
  rintro r w1 ⟨rfl, hx1⟩
  have HB1 := Lib.hid (hx1.blk HB.out)
  have HC1 := Lib.hid (hx1.blk HC.out)
  have HX1 := Lib.hid (HX0.out.trans hx1)
  rw [hsa] at *
  rw [hsb] at *
  clear hx1 HB HC HX0 hsa hsb
  have q0 := blk_cell HB1.out 0 _ rfl
  have q1 := blk_cell HB1.out 1 _ rfl
  have q2 := blk_cell HB1.out 2 _ rfl
  by_cases hs1 : ps.length ≤ 70 ∧ gs.length ≤ 100
  · have HS1 : Hid ((decide (ps.length ≤ 70) && decide (gs.length ≤ 100)) = true) := Lib.hid (by simp [hs1])
    have hl1 : ps.length ≤ 10000 := by omega
    have hl2 : gs.length ≤ 10000 := by omega
    go_wp2_with fail
    refine (rsmall_any _ ⟨time, ps, gs⟩ _ ⟨A, c, B, d, rfl, H2.out.ext HX1.out, H3.out.ext HX1.out⟩ true HS1.out).mono ?_
    rintro r w2 ⟨rfl, hx2⟩
    clear q0 q1 q2
    have HB2 := Lib.hid (hx2.blk HB1.out)
    have HC2 := Lib.hid (hx2.blk HC1.out)
    have HX2 := Lib.hid (HX1.out.trans hx2)
    clear hx2 HB1 HC1 HX1
    have HB1 := Lib.hid HB2.out
    have HC1 := Lib.hid HC2.out
    have HX1 := Lib.hid HX2.out
    clear HB2 HC2 HX2
    have q0 := blk_cell HC1.out 0 _ rfl
    have q1 := blk_cell HC1.out 1 _ rfl
    have q2 := blk_cell HC1.out 2 _ rfl
    by_cases hs2 : qs.length ≤ 70 ∧ hs.length ≤ 100
    · have HS2 : Hid ((decide (qs.length ≤ 70) && decide (hs.length ≤ 100)) = true) := Lib.hid (by simp [hs2])
      have hl3 : qs.length ≤ 10000 := by omega
      have hl4 : hs.length ≤ 10000 := by omega
      go_wp2_with fail
      refine (rsmall_any _ ⟨time2, qs, hs⟩ _ ⟨A', c', B', d', rfl, H4.out.ext HX1.out, H5.out.ext HX1.out⟩ true HS2.out).mono ?_
      rintro r w2 ⟨rfl, hx2⟩
      clear q0 q1 q2
      have HB2 := Lib.hid (hx2.blk HB1.out)
      have HC2 := Lib.hid (hx2.blk HC1.out)
      have HX2 := Lib.hid (HX1.out.trans hx2)
      clear hx2 HB1 HC1 HX1
      have HB1 := Lib.hid HB2.out
      have HC1 := Lib.hid HC2.out
      have HX1 := Lib.hid HX2.out
      clear HB2 HC2 HX2
      have q0 := blk_cell HB1.out 0 _ rfl
      have q1 := blk_cell HB1.out 1 _ rfl
      have q2 := blk_cell HB1.out 2 _ rfl
      cases hm1 : Sn.may ⟨time, ps, gs⟩ with
      | false =>
        have HM1 := Lib.hid hm1
        clear hm1 hm hs1 hs2
        go_wp2_with fail
        refine (snmay_k _ ⟨time, ps, gs⟩ false _ HM1.out ⟨A, c, B, d, rfl, H2.out.ext HX1.out, H3.out.ext HX1.out⟩ hl1 hl2).mono ?_
        rintro r w2 ⟨rfl, hx2⟩
        clear q0 q1 q2
        have HB2 := Lib.hid (hx2.blk HB1.out)
        have HC2 := Lib.hid (hx2.blk HC1.out)
        have HX2 := Lib.hid (HX1.out.trans hx2)
        clear hx2 HB1 HC1 HX1
        have HB1 := Lib.hid HB2.out
        have HC1 := Lib.hid HC2.out
        have HX1 := Lib.hid HX2.out
        clear HB2 HC2 HX2
        go_wp2_with fail
        refine (snfixed_yes _).mono ?_
        rintro r w4 ⟨rfl, hx4⟩
        go_wp2
        go_ret
        exact ⟨rfl, HX1.out.trans hx4⟩
      | true =>
        have HM1 := Lib.hid hm1
        go_wp2_with fail
        refine (snmay_k _ ⟨time, ps, gs⟩ true _ HM1.out ⟨A, c, B, d, rfl, H2.out.ext HX1.out, H3.out.ext HX1.out⟩ hl1 hl2).mono ?_
        rintro r w2 ⟨rfl, hx2⟩
        clear q0 q1 q2
        have HB2 := Lib.hid (hx2.blk HB1.out)
        have HC2 := Lib.hid (hx2.blk HC1.out)
        have HX2 := Lib.hid (HX1.out.trans hx2)
        clear hx2 HB1 HC1 HX1
        have HB1 := Lib.hid HB2.out
        have HC1 := Lib.hid HC2.out
        have HX1 := Lib.hid HX2.out
        clear HB2 HC2 HX2
        have q0 := blk_cell HC1.out 0 _ rfl
        have q1 := blk_cell HC1.out 1 _ rfl
        have q2 := blk_cell HC1.out 2 _ rfl
        cases hm2 : Sn.may ⟨time2, qs, hs⟩ with
        | false =>
          have HM2 := Lib.hid hm2
          clear hm1 hm2 hm hs1 hs2
          go_wp2_with fail
          refine (snmay_k _ ⟨time2, qs, hs⟩ false _ HM2.out ⟨A', c', B', d', rfl, H4.out.ext HX1.out, H5.out.ext HX1.out⟩ hl3 hl4).mono ?_
          rintro r w2 ⟨rfl, hx2⟩
          clear q0 q1 q2
          have HB2 := Lib.hid (hx2.blk HB1.out)
          have HC2 := Lib.hid (hx2.blk HC1.out)
          have HX2 := Lib.hid (HX1.out.trans hx2)
          clear hx2 HB1 HC1 HX1
          have HB1 := Lib.hid HB2.out
          have HC1 := Lib.hid HC2.out
          have HX1 := Lib.hid HX2.out
          clear HB2 HC2 HX2
          go_wp2_with fail
          refine (snfixed_yes _).mono ?_
          rintro r w4 ⟨rfl, hx4⟩
          go_wp2
          go_ret
          exact ⟨rfl, HX1.out.trans hx4⟩
        | true =>
          have HM2 := Lib.hid hm2
          have htt : tt < 0 ∨ (0 ≤ tt ∧ 4611686018427387904 ≤ tt) := by
            by_cases h0 : tt < 0
            · exact .inl h0
            · by_cases h1 : 4611686018427387904 ≤ tt
              · exact .inr ⟨by omega, h1⟩
              · exact absurd ⟨⟨hs1, hs2⟩, hm1, hm2, by omega, by omega⟩ hm
          clear hm1 hm2 hm hs1 hs2
          go_wp2_with fail
          refine (snmay_k _ ⟨time2, qs, hs⟩ true _ HM2.out ⟨A', c', B', d', rfl, H4.out.ext HX1.out, H5.out.ext HX1.out⟩ hl3 hl4).mono ?_
          rintro r w2 ⟨rfl, hx2⟩
          clear q0 q1 q2
          have HB2 := Lib.hid (hx2.blk HB1.out)
          have HC2 := Lib.hid (hx2.blk HC1.out)
          have HX2 := Lib.hid (HX1.out.trans hx2)
          clear hx2 HB1 HC1 HX1
          have HB1 := Lib.hid HB2.out
          have HC1 := Lib.hid HC2.out
          have HX1 := Lib.hid HX2.out
          clear HB2 HC2 HX2
          rcases htt with h0 | ⟨h0, h1⟩
          · skip
            go_wp2_with fail
            refine (snfixed_yes _).mono ?_
            rintro r w4 ⟨rfl, hx4⟩
            go_wp2
            go_ret
            exact ⟨rfl, HX1.out.trans hx4⟩
          · skip
            go_wp2_with fail
            refine (snfixed_yes _).mono ?_
            rintro r w4 ⟨rfl, hx4⟩
            go_wp2
            go_ret
            exact ⟨rfl, HX1.out.trans hx4⟩
    · have HS2 : Hid ((decide (qs.length ≤ 70) && decide (hs.length ≤ 100)) = false) := Lib.hid (by simp; omega)
      clear hm hs1 hs2
      go_wp2_with fail
      refine (rsmall_any _ ⟨time2, qs, hs⟩ _ ⟨A', c', B', d', rfl, H4.out.ext HX1.out, H5.out.ext HX1.out⟩ false HS2.out).mono ?_
      rintro r w2 ⟨rfl, hx2⟩
      clear q0 q1 q2
      have HB2 := Lib.hid (hx2.blk HB1.out)
      have HC2 := Lib.hid (hx2.blk HC1.out)
      have HX2 := Lib.hid (HX1.out.trans hx2)
      clear hx2 HB1 HC1 HX1
      have HB1 := Lib.hid HB2.out
      have HC1 := Lib.hid HC2.out
      have HX1 := Lib.hid HX2.out
      clear HB2 HC2 HX2
      go_wp2_with fail
      refine (snfixed_yes _).mono ?_
      rintro r w4 ⟨rfl, hx4⟩
      go_wp2
      go_ret
      exact ⟨rfl, HX1.out.trans hx4⟩
  · have HS1 : Hid ((decide (ps.length ≤ 70) && decide (gs.length ≤ 100)) = false) := Lib.hid (by simp; omega)
    clear hm hs1
    go_wp2_with fail
    refine (rsmall_any _ ⟨time, ps, gs⟩ _ ⟨A, c, B, d, rfl, H2.out.ext HX1.out, H3.out.ext HX1.out⟩ false HS1.out).mono ?_
    rintro r w2 ⟨rfl, hx2⟩
    clear q0 q1 q2
    have HB2 := Lib.hid (hx2.blk HB1.out)
    have HC2 := Lib.hid (hx2.blk HC1.out)
    have HX2 := Lib.hid (HX1.out.trans hx2)
    clear hx2 HB1 HC1 HX1
    have HB1 := Lib.hid HB2.out
    have HC1 := Lib.hid HC2.out
    have HX1 := Lib.hid HX2.out
    clear HB2 HC2 HX2
    go_wp2_with fail
    refine (snfixed_yes _).mono ?_
    rintro r w4 ⟨rfl, hx4⟩
    go_wp2
    go_ret
    exact ⟨rfl, HX1.out.trans hx4⟩
theorem Sn.may_time {time tt : Int} {ps : List (Int × Int)} {gs : List Gs4} (h : Sn.may ⟨time, ps, gs⟩ = true) (h0 : 0 ≤ tt) (h1 : tt < 4611686018427387904) : Sn.may ⟨tt, ps, gs⟩ = true := by
  unfold Sn.may at *
  simp only [Bool.and_eq_true] at *
  exact ⟨⟨⟨(snNum_iff tt).2 ⟨h0, h1⟩, h.1.1.2⟩, h.1.2⟩, h.2⟩
set_option maxRecDepth 100000 in
set_option maxHeartbeats 1000000 in
theorem snapart_in (time time2 tt : Int) (ps qs : List (Int × Int)) (gs hs : List Gs4) (A B A' B' : Option Addr) (c d c' d' : Nat) (w : World) (h2 : RowsAt 2 snPCells w (.slice A ps.length c) ps) (h3 : RowsAt 4 snGCells w (.slice B gs.length d) gs) (h4 : RowsAt 2 snPCells w (.slice A' qs.length c') qs) (h5 : RowsAt 4 snGCells w (.slice B' hs.length d') hs) (hp : ps.length ≤ 70) (hg : gs.length ≤ 100) (hq : qs.length ≤ 70) (hh : hs.length ≤ 100) (hm1 : Sn.may ⟨time, ps, gs⟩ = true) (hm2 : Sn.may ⟨time2, qs, hs⟩ = true) (ht0 : 0 ≤ tt) (ht1 : tt < 4611686018427387904) :
    Calls Try.prog 6 #[.agg #[.int .i64 time, .slice A ps.length c, .slice B gs.length d], .agg #[.int .i64 time2, .slice A' qs.length c', .slice B' hs.length d'], .int .i64 tt] w fun e w' => e = .returned (.bool true) ∧ Ext w w' := by
  have H2 := Lib.hid h2
  have H3 := Lib.hid h3
  have H4 := Lib.hid h4
  have H5 := Lib.hid h5
  clear h2 h3 h4 h5
  have HB := Lib.hid (blk_alloc (blk_new w (.cells #[.int .i64 time, .slice A ps.length c, .slice B gs.length d] 25)) (.cells #[.int .i64 time2, .slice A' qs.length c', .slice B' hs.length d'] 25))
  have HC : Hid (((w.alloc (.cells #[.int .i64 time, .slice A ps.length c, .slice B gs.length d] 25)).alloc (.cells #[.int .i64 time2, .slice A' qs.length c', .slice B' hs.length d'] 25)).heap[w.heap.size + 1]? = some (.cells #[.int .i64 time2, .slice A' qs.length c', .slice B' hs.length d'] 25 (0, 0))) := Lib.hid (by have := blk_new (w.alloc (.cells #[.int .i64 time, .slice A ps.length c, .slice B gs.length d] 25)) (.cells #[.int .i64 time2, .slice A' qs.length c', .slice B' hs.length d'] 25); rwa [World.size_alloc] at this)
  have HX0 : Hid (Ext w ((w.alloc (.cells #[.int .i64 time, .slice A ps.length c, .slice B gs.length d] 25)).alloc (.cells #[.int .i64 time2, .slice A' qs.length c', .slice B' hs.length d'] 25))) := Lib.hid (((Ext.refl w).alloc _).alloc _)
  obtain ⟨sa, hsa⟩ : ∃ b, w.heap.size = b := ⟨_, rfl⟩
  obtain ⟨sb, hsb⟩ : ∃ b, sa + 1 = b := ⟨_, rfl⟩
  go_enter Try.func6, Try.ntmps6
  go_wp2_with fail
  refine (snfixed_yes _).mono ?_
  rintro r w1 ⟨rfl, hx1⟩
  have HB1 := Lib.hid (hx1.blk HB.out)
  have HC1 := Lib.hid (hx1.blk HC.out)
  have HX1 := Lib.hid (HX0.out.trans hx1)
  rw [hsa] at *
  rw [hsb] at *
  clear hx1 HB HC HX0 hsa hsb
  have q0 := blk_cell HB1.out 0 _ rfl
  have q1 := blk_cell HB1.out 1 _ rfl
  have q2 := blk_cell HB1.out 2 _ rfl
  have HS1 : Hid ((decide (ps.length ≤ 70) && decide (gs.length ≤ 100)) = true) := Lib.hid (by simp [hp, hg])
  have HS2 : Hid ((decide (qs.length ≤ 70) && decide (hs.length ≤ 100)) = true) := Lib.hid (by simp [hq, hh])
  have hl1 : ps.length ≤ 10000 := by omega
  have hl2 : gs.length ≤ 10000 := by omega
  have hl3 : qs.length ≤ 10000 := by omega
  have hl4 : hs.length ≤ 10000 := by omega
  have HM1 := Lib.hid hm1
  have HM2 := Lib.hid hm2
  have HMT := Lib.hid (Sn.may_time hm1 ht0 ht1)
  obtain ⟨u, hu⟩ : ∃ u, Sn.enc ⟨time, ps, gs⟩ = u := ⟨_, rfl⟩
  obtain ⟨v, hv⟩ : ∃ v, Sn.enc ⟨time2, qs, hs⟩ = v := ⟨_, rfl⟩
  obtain ⟨x, hx⟩ : ∃ x, Sn.enc ⟨tt, ps, gs⟩ = x := ⟨_, rfl⟩
  obtain ⟨r, hr⟩ : ∃ r, decide (time = time2 ∧ ps = qs ∧ gs = hs) = r := ⟨_, rfl⟩
  have HUV : Hid ((u.toList == v.toList) = r) := Lib.hid (by
    rw [← hr]
    by_cases he : time = time2 ∧ ps = qs ∧ gs = hs
    · obtain ⟨rfl, rfl, rfl⟩ := he
      rw [hu] at hv
      subst hv
      simp
    · rw [decide_eq_false he]
      refine beq_eq_false_iff_ne.2 fun hl => he ?_
      have huv : u = v := by
        rw [Lib.toList_data, Lib.toList_data] at hl
        exact ByteArray.ext (Array.ext' hl)
      rw [← hu, ← hv] at huv
      have := Sn.enc_inj hm1 hm2 huv
      simpa using this)
  have HU := Lib.hid hu
  have HV := Lib.hid hv
  have HXE := Lib.hid hx
  have HRR := Lib.hid hr
  have HDX : Hid (snDec x = (⟨tt, ps, gs⟩, 0)) := Lib.hid (by rw [← hx]; exact snDec_enc HMT.out)
  have HXS : Hid (x.size ≤ maxLen) := Lib.hid (by
    obtain ⟨_, _, _, _, _, hok⟩ := Sn.may_all HMT.out
    have h1 := Wi.cat_len _ hok
    rw [Sn.nums_len] at h1
    have h2 : x.size = (Wi.cat (Sn.nums ⟨tt, ps, gs⟩)).length := by
      rw [← hx]; unfold Sn.enc; rw [if_pos HMT.out, bsz_list]
    simp only at h1
    unfold maxLen
    omega)
  clear hu hv hx hr hm1 hm2
  go_wp2_with fail
  refine (rsmall_any _ ⟨time, ps, gs⟩ _ ⟨A, c, B, d, rfl, H2.out.ext HX1.out, H3.out.ext HX1.out⟩ true HS1.out).mono ?_
  rintro r w2 ⟨rfl, hx2⟩
  clear q0 q1 q2
  have HB2 := Lib.hid (hx2.blk HB1.out)
  have HC2 := Lib.hid (hx2.blk HC1.out)
  have HX2 := Lib.hid (HX1.out.trans hx2)
  clear hx2 HB1 HC1 HX1
  have HB1 := Lib.hid HB2.out
  have HC1 := Lib.hid HC2.out
  have HX1 := Lib.hid HX2.out
  clear HB2 HC2 HX2
  have q0 := blk_cell HC1.out 0 _ rfl
  have q1 := blk_cell HC1.out 1 _ rfl
  have q2 := blk_cell HC1.out 2 _ rfl
  go_wp2_with fail
  refine (rsmall_any _ ⟨time2, qs, hs⟩ _ ⟨A', c', B', d', rfl, H4.out.ext HX1.out, H5.out.ext HX1.out⟩ true HS2.out).mono ?_
  rintro r w2 ⟨rfl, hx2⟩
  clear q0 q1 q2
  have HB2 := Lib.hid (hx2.blk HB1.out)
  have HC2 := Lib.hid (hx2.blk HC1.out)
  have HX2 := Lib.hid (HX1.out.trans hx2)
  clear hx2 HB1 HC1 HX1
  have HB1 := Lib.hid HB2.out
  have HC1 := Lib.hid HC2.out
  have HX1 := Lib.hid HX2.out
  clear HB2 HC2 HX2
  have q0 := blk_cell HB1.out 0 _ rfl
  have q1 := blk_cell HB1.out 1 _ rfl
  have q2 := blk_cell HB1.out 2 _ rfl
  go_wp2_with fail
  refine (snmay_k _ ⟨time, ps, gs⟩ true _ HM1.out ⟨A, c, B, d, rfl, H2.out.ext HX1.out, H3.out.ext HX1.out⟩ hl1 hl2).mono ?_
  rintro r w2 ⟨rfl, hx2⟩
  clear q0 q1 q2
  have HB2 := Lib.hid (hx2.blk HB1.out)
  have HC2 := Lib.hid (hx2.blk HC1.out)
  have HX2 := Lib.hid (HX1.out.trans hx2)
  clear hx2 HB1 HC1 HX1
  have HB1 := Lib.hid HB2.out
  have HC1 := Lib.hid HC2.out
  have HX1 := Lib.hid HX2.out
  clear HB2 HC2 HX2
  have q0 := blk_cell HC1.out 0 _ rfl
  have q1 := blk_cell HC1.out 1 _ rfl
  have q2 := blk_cell HC1.out 2 _ rfl
  go_wp2_with fail
  refine (snmay_k _ ⟨time2, qs, hs⟩ true _ HM2.out ⟨A', c', B', d', rfl, H4.out.ext HX1.out, H5.out.ext HX1.out⟩ hl3 hl4).mono ?_
  rintro r w2 ⟨rfl, hx2⟩
  clear q0 q1 q2
  have HB2 := Lib.hid (hx2.blk HB1.out)
  have HC2 := Lib.hid (hx2.blk HC1.out)
  have HX2 := Lib.hid (HX1.out.trans hx2)
  clear hx2 HB1 HC1 HX1
  have HB1 := Lib.hid HB2.out
  have HC1 := Lib.hid HC2.out
  have HX1 := Lib.hid HX2.out
  clear HB2 HC2 HX2
  have q0 := blk_cell HB1.out 0 _ rfl
  have q1 := blk_cell HB1.out 1 _ rfl
  have q2 := blk_cell HB1.out 2 _ rfl
  go_upto_region 5 with fail
  clear q0 q1 q2
  have HBT := Lib.hid (blk_new w2 (.cells #[.int .i64 tt, .slice A ps.length c, .slice B gs.length d] 25))
  have HB3 := Lib.hid (blk_alloc HB1.out (.cells #[.int .i64 tt, .slice A ps.length c, .slice B gs.length d] 25))
  have HC3 := Lib.hid (blk_alloc HC1.out (.cells #[.int .i64 tt, .slice A ps.length c, .slice B gs.length d] 25))
  have HX3 := Lib.hid (HX1.out.alloc (.cells #[.int .i64 tt, .slice A ps.length c, .slice B gs.length d] 25))
  generalize w2.alloc (.cells #[.int .i64 tt, .slice A ps.length c, .slice B gs.length d] 25) = w3 at *
  generalize w2.heap.size = sc at *
  clear HB1 HC1 HX1 w2
  have q0 := blk_cell HBT.out 0 _ rfl
  have q1 := blk_cell HBT.out 1 _ rfl
  have q2 := blk_cell HBT.out 2 _ rfl
  go_wp2_with fail
  refine (snenc_any' _ ⟨tt, ps, gs⟩ x _ HXE.out ⟨A, c, B, d, rfl, H2.out.ext HX3.out, H3.out.ext HX3.out⟩ hl1 hl2).mono ?_
  rintro r w4 ⟨rfl, hx4⟩
  clear q0 q1 q2
  go_wp2_with fail
  refine (sndec_k x ⟨tt, ps, gs⟩ 0 _ HDX.out HXS.out).mono ?_
  rintro r w5 ⟨A3, c3, B3, d3, rfl, hr1, hr2, hx5⟩
  have hx6 : Ext w3 (w5.alloc (.cells #[.int .i64 tt, .slice A3 ps.length c3, .slice B3 gs.length d3] 25)) := (hx4.trans hx5).alloc _
  have HS6 : Hid (SnAt (w5.alloc (.cells #[.int .i64 tt, .slice A3 ps.length c3, .slice B3 gs.length d3] 25)) (.agg #[.int .i64 tt, .slice A3 ps.length c3, .slice B3 gs.length d3]) ⟨tt, ps, gs⟩) := Lib.hid (SnAt.ext ⟨A3, c3, B3, d3, rfl, hr1, hr2⟩ ((Ext.refl w5).alloc _))
  have HD6 := Lib.hid (blk_new w5 (.cells #[.int .i64 tt, .slice A3 ps.length c3, .slice B3 gs.length d3] 25))
  have HB6 := Lib.hid (hx6.blk HB3.out)
  have HC6 := Lib.hid (hx6.blk HC3.out)
  have HT6 := Lib.hid (hx6.blk HBT.out)
  have HX6 := Lib.hid (HX3.out.trans hx6)
  clear hx4 hx5 hx6 hr1 hr2 HB3 HC3 HBT HX3
  go_upto_region 6 with fail
  generalize w5.alloc (.cells #[.int .i64 tt, .slice A3 ps.length c3, .slice B3 gs.length d3] 25) = w6 at *
  generalize w5.heap.size = sd at *
  clear w5 w4 w3
  have H2' := Lib.hid (H2.out.ext HX6.out)
  have H3' := Lib.hid (H3.out.ext HX6.out)
  have H4' := Lib.hid (H4.out.ext HX6.out)
  have H5' := Lib.hid (H5.out.ext HX6.out)
  have KA := Lib.hid fun (v : World) (hv : Ext w6 v) => (⟨blk_cell (hv.blk HB6.out) 0 _ rfl, blk_cell (hv.blk HB6.out) 1 _ rfl, blk_cell (hv.blk HB6.out) 2 _ rfl⟩ : v.cell? ⟨sa, 0, none⟩ = some (.int .i64 time) ∧ v.cell? ⟨sa, 1, none⟩ = some (.slice A ps.length c) ∧ v.cell? ⟨sa, 2, none⟩ = some (.slice B gs.length d))
  have KB := Lib.hid fun (v : World) (hv : Ext w6 v) => (⟨blk_cell (hv.blk HC6.out) 0 _ rfl, blk_cell (hv.blk HC6.out) 1 _ rfl, blk_cell (hv.blk HC6.out) 2 _ rfl⟩ : v.cell? ⟨sb, 0, none⟩ = some (.int .i64 time2) ∧ v.cell? ⟨sb, 1, none⟩ = some (.slice A' qs.length c') ∧ v.cell? ⟨sb, 2, none⟩ = some (.slice B' hs.length d'))
  have KT := Lib.hid fun (v : World) (hv : Ext w6 v) => (⟨blk_cell (hv.blk HT6.out) 0 _ rfl, blk_cell (hv.blk HT6.out) 1 _ rfl, blk_cell (hv.blk HT6.out) 2 _ rfl⟩ : v.cell? ⟨sc, 0, none⟩ = some (.int .i64 tt) ∧ v.cell? ⟨sc, 1, none⟩ = some (.slice A ps.length c) ∧ v.cell? ⟨sc, 2, none⟩ = some (.slice B gs.length d))
  have KD := Lib.hid fun (v : World) (hv : Ext w6 v) => (⟨blk_cell (hv.blk HD6.out) 0 _ rfl, blk_cell (hv.blk HD6.out) 1 _ rfl, blk_cell (hv.blk HD6.out) 2 _ rfl⟩ : v.cell? ⟨sd, 0, none⟩ = some (.int .i64 tt) ∧ v.cell? ⟨sd, 1, none⟩ = some (.slice A3 ps.length c3) ∧ v.cell? ⟨sd, 2, none⟩ = some (.slice B3 gs.length d3))
  have huv := HUV.out
  have hrr : (r == r) = true := by simp
  clear H2 H3 H4 H5 HUV HXE HDX HXS HB6 HC6 HT6 HD6
  refine region_rgx ([(1, (fun y => y = .string u : Value → Prop), (fun _ _ => True : (Nat → GV) → World → Prop)), (3, (fun y => y = .string v : Value → Prop), (fun _ _ => True : (Nat → GV) → World → Prop)), (7, (fun y => y = .bool r : Value → Prop), (fun _ _ => True : (Nat → GV) → World → Prop)), (11, (fun y => y = .bool true : Value → Prop), (fun _ _ => True : (Nat → GV) → World → Prop)), (20, (fun y => y = .bool true : Value → Prop), (fun _ _ => True : (Nat → GV) → World → Prop))]) (w6) (by kernel_rfl) (by kernel_rfl) ?_ ?_ ?_
  · exact List.forall_mem_cons.2 ⟨⟨⟨_, rfl⟩, fun _ _ _ _ _ => trivial, fun _ _ _ _ _ => trivial⟩, List.forall_mem_cons.2 ⟨⟨⟨_, rfl⟩, fun _ _ _ _ _ => trivial, fun _ _ _ _ _ => trivial⟩, List.forall_mem_cons.2 ⟨⟨⟨_, rfl⟩, fun _ _ _ _ _ => trivial, fun _ _ _ _ _ => trivial⟩, List.forall_mem_cons.2 ⟨⟨⟨_, rfl⟩, fun _ _ _ _ _ => trivial, fun _ _ _ _ _ => trivial⟩, List.forall_mem_cons.2 ⟨⟨⟨_, rfl⟩, fun _ _ _ _ _ => trivial, fun _ _ _ _ _ => trivial⟩, List.forall_mem_nil _⟩⟩⟩⟩⟩
  · first | assumption | exact Ext.refl _
  refine rg_pure (v := ?_) rfl (by kernel_rfl) (by kernel_rfl) (fun w hS hN => ?_) ?_
  rotate_left 1
  · obtain ⟨k0, k1, k2⟩ := KA.out w hS
    clear hN
    go_simp
    try simp only [huv, hrr]
    refine givesP_mk ?_
    with_reducible rfl
  refine rg_mem (fun y => y = .string u : Value → Prop) (fun _ _ => True : (Nat → GV) → World → Prop) (fun _ => Ext) rfl rfl rfl rfl (by kernel_rfl) (by kernel_rfl) (fun w hS hN R hR => ?_) ?_
  · have HR := Lib.hid hR
    clear hR
    (try clear hN)
    go_simp
    refine givesM_call ((snenc_any' _ ⟨time, ps, gs⟩ u w HU.out ⟨A, c, B, d, rfl, H2'.out.ext hS, H3'.out.ext hS⟩ hl1 hl2).mono ?_)
    rintro e w' ⟨rfl, hx⟩
    exact ⟨_, rfl, HR.out _ _ rfl trivial hx⟩
  rintro u1 s1 t1 rfl
  refine rg_pure (v := ?_) rfl (by kernel_rfl) (by kernel_rfl) (fun w hS hN => ?_) ?_
  rotate_left 1
  · obtain ⟨k0, k1, k2⟩ := KB.out w hS
    clear hN
    go_simp
    try simp only [huv, hrr]
    refine givesP_mk ?_
    with_reducible rfl
  refine rg_mem (fun y => y = .string v : Value → Prop) (fun _ _ => True : (Nat → GV) → World → Prop) (fun _ => Ext) rfl rfl rfl rfl (by kernel_rfl) (by kernel_rfl) (fun w hS hN R hR => ?_) ?_
  · have HR := Lib.hid hR
    clear hR
    (try clear hN)
    go_simp
    refine givesM_call ((snenc_any' _ ⟨time2, qs, hs⟩ v w HV.out ⟨A', c', B', d', rfl, H4'.out.ext hS, H5'.out.ext hS⟩ hl3 hl4).mono ?_)
    rintro e w' ⟨rfl, hx⟩
    exact ⟨_, rfl, HR.out _ _ rfl trivial hx⟩
  rintro u3 s3 t3 rfl
  refine rg_pure (v := ?_) rfl (by kernel_rfl) (by kernel_rfl) (fun w hS hN => ?_) ?_
  rotate_left 1
  · clear hN
    go_simp
    try simp only [huv, hrr]
    refine givesP_mk ?_
    with_reducible rfl
  refine rg_pure (v := ?_) rfl (by kernel_rfl) (by kernel_rfl) (fun w hS hN => ?_) ?_
  rotate_left 1
  · obtain ⟨k0, k1, k2⟩ := KA.out w hS
    clear hN
    go_simp
    try simp only [huv, hrr]
    refine givesP_mk ?_
    with_reducible rfl
  refine rg_pure (v := ?_) rfl (by kernel_rfl) (by kernel_rfl) (fun w hS hN => ?_) ?_
  rotate_left 1
  · obtain ⟨k0, k1, k2⟩ := KB.out w hS
    clear hN
    go_simp
    try simp only [huv, hrr]
    refine givesP_mk ?_
    with_reducible rfl
  refine rg_mem (fun y => y = .bool r : Value → Prop) (fun _ _ => True : (Nat → GV) → World → Prop) (fun _ => Ext) rfl rfl rfl rfl (by kernel_rfl) (by kernel_rfl) (fun w hS hN R hR => ?_) ?_
  · have HR := Lib.hid hR
    clear hR
    (try clear hN)
    go_simp
    refine givesM_call ((rsnsame_any _ _ ⟨time, ps, gs⟩ ⟨time2, qs, hs⟩ w ⟨A, c, B, d, rfl, H2'.out.ext hS, H3'.out.ext hS⟩ ⟨A', c', B', d', rfl, H4'.out.ext hS, H5'.out.ext hS⟩ hl1 hl2 r HRR.out).mono ?_)
    rintro e w' ⟨rfl, hx⟩
    exact ⟨_, rfl, HR.out _ _ rfl trivial hx⟩
  rintro u7 s7 t7 rfl
  refine rg_pure (v := ?_) rfl (by kernel_rfl) (by kernel_rfl) (fun w hS hN => ?_) ?_
  rotate_left 1
  · clear hN
    go_simp
    try simp only [huv, hrr]
    refine givesP_mk ?_
    with_reducible rfl
  refine rg_pure (v := ?_) rfl (by kernel_rfl) (by kernel_rfl) (fun w hS hN => ?_) ?_
  rotate_left 1
  · clear hN
    go_simp
    try simp only [huv, hrr]
    refine givesP_mk ?_
    with_reducible rfl
  refine rg_pure (v := ?_) rfl (by kernel_rfl) (by kernel_rfl) (fun w hS hN => ?_) ?_
  rotate_left 1
  · obtain ⟨k0, k1, k2⟩ := KT.out w hS
    clear hN
    go_simp
    try simp only [huv, hrr]
    refine givesP_mk ?_
    with_reducible rfl
  refine rg_mem (fun y => y = .bool true : Value → Prop) (fun _ _ => True : (Nat → GV) → World → Prop) (fun _ => Ext) rfl rfl rfl rfl (by kernel_rfl) (by kernel_rfl) (fun w hS hN R hR => ?_) ?_
  · have HR := Lib.hid hR
    clear hR
    (try clear hN)
    go_simp
    refine givesM_call ((snmay_k _ ⟨tt, ps, gs⟩ true w HMT.out ⟨A, c, B, d, rfl, H2'.out.ext hS, H3'.out.ext hS⟩ hl1 hl2).mono ?_)
    rintro e w' ⟨rfl, hx⟩
    exact ⟨_, rfl, HR.out _ _ rfl trivial hx⟩
  rintro u11 s11 t11 rfl
  refine rg_pure (v := ?_) rfl (by kernel_rfl) (by kernel_rfl) (fun w hS hN => ?_) ?_
  rotate_left 1
  · clear hN
    go_simp
    try simp only [huv, hrr]
    refine givesP_mk ?_
    with_reducible rfl
  refine rg_pure (v := ?_) rfl (by kernel_rfl) (by kernel_rfl) (fun w hS hN => ?_) ?_
  rotate_left 1
  · clear hN
    go_simp
    try simp only [huv, hrr]
    refine givesP_mk ?_
    with_reducible rfl
  refine rg_pure (v := ?_) rfl (by kernel_rfl) (by kernel_rfl) (fun w hS hN => ?_) ?_
  rotate_left 1
  · clear hN
    go_simp
    try simp only [huv, hrr]
    refine givesP_mk ?_
    with_reducible rfl
  refine rg_pure (v := ?_) rfl (by kernel_rfl) (by kernel_rfl) (fun w hS hN => ?_) ?_
  rotate_left 1
  · clear hN
    go_simp
    try simp only [huv, hrr]
    refine givesP_mk ?_
    with_reducible rfl
  refine rg_pure (v := ?_) rfl (by kernel_rfl) (by kernel_rfl) (fun w hS hN => ?_) ?_
  rotate_left 1
  · clear hN
    go_simp
    try simp only [huv, hrr]
    refine givesP_mk ?_
    with_reducible rfl
  refine rg_pure (v := ?_) rfl (by kernel_rfl) (by kernel_rfl) (fun w hS hN => ?_) ?_
  rotate_left 1
  · clear hN
    go_simp
    try simp only [huv, hrr]
    refine givesP_mk ?_
    with_reducible rfl
  refine rg_pure (v := ?_) rfl (by kernel_rfl) (by kernel_rfl) (fun w hS hN => ?_) ?_
  rotate_left 1
  · obtain ⟨k0, k1, k2⟩ := KD.out w hS
    clear hN
    go_simp
    try simp only [huv, hrr]
    refine givesP_mk ?_
    with_reducible rfl
  refine rg_pure (v := ?_) rfl (by kernel_rfl) (by kernel_rfl) (fun w hS hN => ?_) ?_
  rotate_left 1
  · obtain ⟨k0, k1, k2⟩ := KT.out w hS
    clear hN
    go_simp
    try simp only [huv, hrr]
    refine givesP_mk ?_
    with_reducible rfl
  refine rg_mem (fun y => y = .bool true : Value → Prop) (fun _ _ => True : (Nat → GV) → World → Prop) (fun _ => Ext) rfl rfl rfl rfl (by kernel_rfl) (by kernel_rfl) (fun w hS hN R hR => ?_) ?_
  · have HR := Lib.hid hR
    clear hR
    (try clear hN)
    go_simp
    refine givesM_call ((rsnsame_any _ _ ⟨tt, ps, gs⟩ ⟨tt, ps, gs⟩ w (HS6.out.ext hS) ⟨A, c, B, d, rfl, H2'.out.ext hS, H3'.out.ext hS⟩ hl1 hl2 true (by simp)).mono ?_)
    rintro e w' ⟨rfl, hx⟩
    exact ⟨_, rfl, HR.out _ _ rfl trivial hx⟩
  rintro u20 s20 t20 rfl
  refine rg_pure (v := ?_) rfl (by kernel_rfl) (by kernel_rfl) (fun w hS hN => ?_) ?_
  rotate_left 1
  · clear hN
    go_simp
    try simp only [huv, hrr]
    refine givesP_mk ?_
    with_reducible rfl
  refine rg_pure (v := ?_) rfl (by kernel_rfl) (by kernel_rfl) (fun w hS hN => ?_) ?_
  rotate_left 1
  · clear hN
    go_simp
    try simp only [huv, hrr]
    refine givesP_mk ?_
    with_reducible rfl
  refine rg_done rfl (Nat.le_of_ble_eq_true (by kernel_rfl)) ?_
  intro w8 hS hT
  go_simp
  go_wp2
  go_ret
  exact ⟨rfl, HX6.out.trans hS⟩
theorem walk_SnapApart (v : Value) (s : Sn) (u : Value) (t : Sn) (tt : Int) (w : World) (hs : SnAt w v s) (_ : SnIn s) (ht : SnAt w u t) (_ : SnIn t) (_ : (Lit.int .i64 tt).wf = true) :
    Calls Try.prog 6 #[v, u, .int .i64 tt] w fun e w' => e = .returned (.bool true) ∧ Ext w w' := by
  obtain ⟨A, c, B, d, rfl, h2, h3⟩ := hs
  obtain ⟨time, ps, gs⟩ := s
  obtain ⟨A', c', B', d', rfl, h4, h5⟩ := ht
  obtain ⟨time2, qs, hs⟩ := t
  simp only at h2 h3 h4 h5 ⊢
  by_cases h : ¬ (((ps.length ≤ 70 ∧ gs.length ≤ 100) ∧ (qs.length ≤ 70 ∧ hs.length ≤ 100)) ∧ Sn.may ⟨time, ps, gs⟩ = true ∧ Sn.may ⟨time2, qs, hs⟩ = true ∧ 0 ≤ tt ∧ tt < 4611686018427387904)
  · exact snapart_out time time2 tt ps qs gs hs A B A' B' c d c' d' w h2 h3 h4 h5 h
  · obtain ⟨⟨k1, k2⟩, k3, k4, k5, k6⟩ := Decidable.not_not.1 h
    exact snapart_in time time2 tt ps qs gs hs A B A' B' c d c' d' w h2 h3 h4 h5 k1.1 k1.2 k2.1 k2.2 k3 k4 k5 k6

end Go.Proofs.Ythkogcgdikgkaaa
