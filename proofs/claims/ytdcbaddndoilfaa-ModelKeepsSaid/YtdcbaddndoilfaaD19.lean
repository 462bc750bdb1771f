/-
  Several texts in one: Hzr.
-/
import Derived.Test.YtdcbaddndoilfaaD18
import Derived.Test.YtdcbaddndoilfaaD14
set_option linter.unusedVariables false
set_option linter.unusedSimpArgs false
namespace Go.Proofs.Ytdcbaddndoilfaa
open Go.RowKit
set_option maxRecDepth 100000 in
set_option maxHeartbeats 16000000 in
theorem walk_ModelKeeps (v : Value) (x : Sn) (l : Lg) (wy st : Value) (w : World) (hs : SnAt w v x) (hi : SnIn x) (hl : LgIn l wy st) :
    Calls Try.prog 5 #[v, lgV l wy st] w fun e w' => e = .returned (.bool true) ∧ Ext w w' := by
  obtain ⟨A, c, B, d, rfl, h2, h3⟩ := hs
  obtain ⟨time, ps, gs⟩ := x
  obtain ⟨lt, lm, kd, lg, lp, ls⟩ := l
  simp only at h2 h3 ⊢
  have HI := Lib.hid hi
  have HL := Lib.hid hl
  obtain ⟨w1, hw1, hx1, hb1, hl1⟩ := of_two w #[.int .i64 time, .slice A ps.length c, .slice B gs.length d] 25 #[.int .i64 lt, .int .i64 lm, .int .i64 kd, .int .i64 lg, .int .i64 lp, .int .i64 ls, wy, st] 28
  obtain ⟨S0, hS0⟩ : ∃ S0, w.heap.size = S0 := ⟨_, rfl⟩
  rw [hS0] at hb1 hl1
  have HS0 := Lib.hid hS0
  have HW1 := Lib.hid hw1
  have X0 := Lib.hid hx1
  have HBX := Lib.hid hb1
  have HBL := Lib.hid hl1
  have H2 := Lib.hid (h2.ext hx1)
  have H3 := Lib.hid (h3.ext hx1)
  have HSX : Hid (∀ v, Ext w1 v → SnAt v (.agg #[.int .i64 time, .slice A ps.length c, .slice B gs.length d]) ⟨time, ps, gs⟩) := Lib.hid fun v hv => ⟨A, c, B, d, rfl, H2.out.ext hv, H3.out.ext hv⟩
  have HRX : Hid (∀ v, Ext w1 v → v.rangeAt S0 0 [.int .i64 time, .slice A ps.length c, .slice B gs.length d]) := Lib.hid fun v hv => range_row (hv.blk HBX.out)
  have HRL : Hid (∀ v, Ext w1 v → v.rangeAt (S0 + 1) 0 [.int .i64 lt, .int .i64 lm, .int .i64 kd, .int .i64 lg, .int .i64 lp, .int .i64 ls, wy, st]) := Lib.hid fun v hv => range_row (hv.blk HBL.out)
  have XC := Lib.hid (Ext.refl w1)
  clear hS0 hw1 hx1 hb1 hl1 h2 h3 hi hl H2 H3
  unfold lgV
  go_enter Try.func5, Try.ntmps5
  go_upto_region 1 with fail
  rw [HW1.out, HS0.out]
  obtain ⟨y, hy⟩ : ∃ y, (Md.app ⟨time, ps, gs⟩ ⟨lt, lm, kd, lg, lp, ls⟩).getD Md.zero = y := ⟨_, rfl⟩
  obtain ⟨b, hb⟩ : ∃ b, (Md.app ⟨time, ps, gs⟩ ⟨lt, lm, kd, lg, lp, ls⟩).isSome = b := ⟨_, rfl⟩
  have HY := Lib.hid hy
  have HBO := Lib.hid hb
  have HYF := Lib.hid (Md.app_few hy)
  clear hy hb
  go_wp2_with fail
  refine (mdfixed_yes _).mono ?_
  rintro e wk ⟨rfl, hx⟩
  have XD := Lib.hid (XC.out.trans hx)
  clear XC hx
  have XC := XD
  clear XD
  go_wp2_with (first | (refine wpList_load_rowW rfl 25 _ rfl S0 rfl [.int .i64 time, .slice A ps.length c, .slice B gs.length d] (.agg #[.int .i64 time, .slice A ps.length c, .slice B gs.length d]) rfl _ (HRX.out _ XC.out) Try.underlying25 rfl (by kernel_rfl) ?_) | (refine wpList_load_rowW rfl 28 _ rfl (S0 + 1) rfl [.int .i64 lt, .int .i64 lm, .int .i64 kd, .int .i64 lg, .int .i64 lp, .int .i64 ls, wy, st] (.agg #[.int .i64 lt, .int .i64 lm, .int .i64 kd, .int .i64 lg, .int .i64 lp, .int .i64 ls, wy, st]) rfl _ (HRL.out _ XC.out) Try.underlying28 rfl (by kernel_rfl) ?_))
  obtain ⟨sm, hsm⟩ : ∃ sm, (decide (ps.length ≤ 70) && decide (gs.length ≤ 100)) = sm := ⟨_, rfl⟩
  have HSM := Lib.hid hsm
  clear hsm
  refine (rmsmall_any _ ⟨time, ps, gs⟩ _ (HSX.out _ XC.out) sm HSM.out).mono ?_
  rintro e wk ⟨rfl, hx⟩
  have XD := Lib.hid (XC.out.trans hx)
  clear XC hx
  have XC := XD
  clear XD
  cases sm with
  | false =>
    go_wp2_with fail
    refine (mdfixed_yes _).mono ?_
    rintro e wk ⟨rfl, hx⟩
    have XD := Lib.hid (XC.out.trans hx)
    clear XC hx
    have XC := XD
    clear XD
    go_wp2
    go_ret
    exact ⟨rfl, X0.out.trans XC.out⟩
  | true =>
  have HLEN : Hid (ps.length ≤ 1000 ∧ gs.length ≤ 1000) := Lib.hid (by have := HSM.out; simp at this; omega)
  go_wp2_with (first | (refine wpList_load_rowW rfl 25 _ rfl S0 rfl [.int .i64 time, .slice A ps.length c, .slice B gs.length d] (.agg #[.int .i64 time, .slice A ps.length c, .slice B gs.length d]) rfl _ (HRX.out _ XC.out) Try.underlying25 rfl (by kernel_rfl) ?_) | (refine wpList_load_rowW rfl 28 _ rfl (S0 + 1) rfl [.int .i64 lt, .int .i64 lm, .int .i64 kd, .int .i64 lg, .int .i64 lp, .int .i64 ls, wy, st] (.agg #[.int .i64 lt, .int .i64 lm, .int .i64 kd, .int .i64 lg, .int .i64 lp, .int .i64 ls, wy, st]) rfl _ (HRL.out _ XC.out) Try.underlying28 rfl (by kernel_rfl) ?_))
  refine (mApply_all _ ⟨time, ps, gs⟩ ⟨lt, lm, kd, lg, lp, ls⟩ wy st _ (HSX.out _ XC.out) _ rfl).mono ?_
  rintro e wb1 hh
  obtain ⟨A1, c1, B1, d1, rfl, hsy, hx0⟩ := hh.form2 HY.out HBO.out
  obtain ⟨wz1, wc1, hwz, hth, hwc, hb, hxc⟩ := sn_box wb1 y A1 B1 c1 d1
  have hx := hx0.trans hxc
  obtain ⟨n1, hn⟩ : ∃ n, wb1.heap.size = n := ⟨_, rfl⟩
  rw [hn] at hth hwc hb
  have HZ1 : Hid (w1.heap.size ≤ n1) := Lib.hid (by rw [← hn]; exact (XC.out.trans hx0).size)
  have HS1 := Lib.hid (hsy.ext hxc)
  have HN1 := Lib.hid hn
  have HWZ1 := Lib.hid hwz
  have HTH1 := Lib.hid hth
  have HWC1 := Lib.hid hwc
  have HB1 := Lib.hid hb
  clear hh hwz hth hwc hb hxc hn hsy hx0
  have XD := Lib.hid (XC.out.trans hx)
  clear XC hx
  have XC := XD
  clear XD
  cases b with
  | false =>
    obtain rfl : Md.zero = y := by
      rw [← HY.out]
      have h2 := HBO.out
      cases h : Md.app ⟨time, ps, gs⟩ ⟨lt, lm, kd, lg, lp, ls⟩ with
      | none => rfl
      | some z => rw [h] at h2; cases h2
    go_wp2_with (first | rw [HWZ1.out, HN1.out] | (refine wpList_store_rowN rfl 25 _ _ rfl n1 0 [.int .i64 Md.zero.time, .slice A1 Md.zero.ps.length c1, .slice B1 Md.zero.gs.length d1] (.agg ([.int .i64 Md.zero.time, .slice A1 Md.zero.ps.length c1, .slice B1 Md.zero.gs.length d1]).toArray) (by go_simp) (by go_simp) rfl HTH1.out (by kernel_rfl) (sn3_one _ _ _ rfl rfl) HWC1.out ?_) | (refine wpList_load_rowW rfl 25 _ rfl n1 rfl [.int .i64 Md.zero.time, .slice A1 Md.zero.ps.length c1, .slice B1 Md.zero.gs.length d1] (.agg #[.int .i64 Md.zero.time, .slice A1 Md.zero.ps.length c1, .slice B1 Md.zero.gs.length d1]) rfl _ (range_row HB1.out) Try.underlying25 rfl (by kernel_rfl) ?_))
    refine (rsnsame_any _ _ Md.zero Md.zero _ HS1.out (snZ_at _) (by decide) (by decide) true (by simp)).mono ?_
    rintro e wk ⟨rfl, hx⟩
    have XD := Lib.hid (XC.out.trans hx)
    clear XC hx
    have XC := XD
    clear XD
    go_wp2
    go_ret
    exact ⟨rfl, X0.out.trans XC.out⟩
  | true =>
  have HSO : Hid (Md.app ⟨time, ps, gs⟩ ⟨lt, lm, kd, lg, lp, ls⟩ = some y) := Lib.hid (by
    have h1 := HY.out
    have h2 := HBO.out
    cases h : Md.app ⟨time, ps, gs⟩ ⟨lt, lm, kd, lg, lp, ls⟩ with
    | none => rw [h] at h2; cases h2
    | some z => rw [h] at h1; exact congrArg some h1)
  have HTM := Lib.hid (Md.app_time HSO.out)
  go_wp2_with (first | rw [HWZ1.out, HN1.out] | (refine wpList_store_rowN rfl 25 _ _ rfl n1 0 [.int .i64 y.time, .slice A1 y.ps.length c1, .slice B1 y.gs.length d1] (.agg ([.int .i64 y.time, .slice A1 y.ps.length c1, .slice B1 y.gs.length d1]).toArray) (by go_simp) (by go_simp) rfl HTH1.out (by kernel_rfl) (sn3_one _ _ _ rfl rfl) HWC1.out ?_))
  go_loopw [7] (fun iv wr => ∃ k : Nat, k ≤ gs.length ∧ iv = .int .i64 k ∧ Ext wc1 wr) (fun iv _ => gs.length - (intOf iv).toNat)
  case atStart => exact ⟨0, by omega, rfl, Ext.refl _⟩
  case round =>
    obtain ⟨k, hk, rfl, hxr⟩ := hrel
    have hgl := HLEN.out.2
    have XR := Lib.hid hxr
    have XW := Lib.hid (XC.out.trans hxr)
    clear hxr
    have c2 := blk_cell (XW.out.blk HBX.out) 2 _ rfl
    by_cases hlt : k < gs.length
    · obtain ⟨z, hz⟩ : ∃ z, gs[k]? = some z := ⟨_, List.getElem?_eq_getElem hlt⟩
      have HZM := Lib.hid (List.mem_of_getElem? hz)
      have hgr := HSX.out _ XW.out
      obtain ⟨A', c', B', d', hv, -, hr3⟩ := hgr
      have hB : (Value.slice B gs.length d) = .slice B' gs.length d' := by
        have := congrArg (fun v => match v with | .agg a => a[2]? | _ => none) hv
        simpa using this
      simp only [Value.slice.injEq, true_and] at hB
      obtain ⟨rfl, rfl⟩ := hB
      obtain ⟨bb, oo, hBB, hbb, hc⟩ := hr3.get hz
      subst hBB
      obtain ⟨zg, zs, zm, zq⟩ := z
      have k0 := hc 0 _ rfl
      have k1 := hc 1 _ rfl
      have k2 := hc 2 _ rfl
      have k3 := hc 3 _ rfl
      rw [Nat.add_zero] at k0
      clear hc hbb hz hr3 hv
      go_upto_region 10 with fail
      obtain ⟨w3, hw3⟩ : ∃ w3, wr.alloc (.cells #[.int .i64 zg, .int .i64 zs, .int .i64 zm, .int .i64 zq] 51) = w3 := ⟨_, rfl⟩
      have hx3 : Ext wr w3 := by rw [← hw3]; exact (Ext.refl _).alloc _
      have HQ3 : Hid (w3.heap[wr.heap.size]? = some (.cells #[.int .i64 zg, .int .i64 zs, .int .i64 zm, .int .i64 zq] 51 (0, 0))) := Lib.hid (by rw [← hw3]; exact blk_new wr _)
      rw [hw3]
      clear hw3 k0 k1 k2 k3 c2
      have XR3 := Lib.hid (XR.out.trans hx3)
      clear hx3
      have HBR := Lib.hid (XR3.out.blk HB1.out)
      have z0 := blk_cell HQ3.out 0 _ rfl
      go_wp2_with (refine wpList_load_rowW rfl 25 _ rfl n1 rfl [.int .i64 y.time, .slice A1 y.ps.length c1, .slice B1 y.gs.length d1] (.agg #[.int .i64 y.time, .slice A1 y.ps.length c1, .slice B1 y.gs.length d1]) rfl _ (range_row HBR.out) Try.underlying25 rfl (by kernel_rfl) ?_)
      obtain ⟨r, hr⟩ : ∃ r, Md.fidx y.gs zg = r := ⟨_, rfl⟩
      refine (rfind_any _ y zg w3 (HS1.out.ext XR3.out) (by have := HYF.out; omega) (by have := HYF.out; omega) r hr).mono ?_
      rintro e w4 ⟨rfl, hx4⟩
      have XR4 := Lib.hid (XR3.out.trans hx4)
      have HQ4 := Lib.hid (hx4.blk HQ3.out)
      have HBQ := Lib.hid (XR4.out.blk HB1.out)
      have HRR := Lib.hid hr
      clear hx4 z0 hr HBR HQ3
      by_cases hg : zg = lg
      · have e1 : (zg != lg) = false := by simpa using hg
        clear hg
        go_wp2_with fail
        refine region_rgx ([]) (w4) (by kernel_rfl) (by kernel_rfl) ?_ ?_ ?_
        · exact List.forall_mem_nil _
        · first | assumption | exact Ext.refl _
        refine rg_pure (v := ?_) rfl (by kernel_rfl) (by kernel_rfl) (fun w hS hN => ?_) ?_
        rotate_left 1
        · clear hN
          go_simp
          try simp only [e1]
          refine givesP_mk ?_
          with_reducible rfl
        refine rg_pure (v := ?_) rfl (by kernel_rfl) (by kernel_rfl) (fun w hS hN => ?_) ?_
        rotate_left 1
        · have z0 := blk_cell (hS.blk HQ4.out) 0 _ rfl
          clear hN
          go_simp
          try simp only [e1]
          refine givesP_mk ?_
          with_reducible rfl
        refine rg_pure (v := ?_) rfl (by kernel_rfl) (by kernel_rfl) (fun w hS hN => ?_) ?_
        rotate_left 1
        · clear hN
          go_simp
          try simp only [e1]
          refine givesP_mk ?_
          with_reducible rfl
        refine rg_pure (v := ?_) rfl (by kernel_rfl) (by kernel_rfl) (fun w hS hN => ?_) ?_
        rotate_left 1
        · have m3 := blk_cell (hS.blk ((XC.out.trans XR4.out).blk HBL.out)) 3 _ rfl
          clear hN
          go_simp
          try simp only [e1]
          refine givesP_mk ?_
          with_reducible rfl
        refine rg_pure (v := ?_) rfl (by kernel_rfl) (by kernel_rfl) (fun w hS hN => ?_) ?_
        rotate_left 1
        · clear hN
          go_simp
          try simp only [e1]
          refine givesP_mk ?_
          with_reducible rfl
        refine rg_pure (v := ?_) rfl (by kernel_rfl) (by kernel_rfl) (fun w hS hN => ?_) ?_
        rotate_left 1
        · clear hN
          go_simp
          try simp only [e1]
          refine givesP_mk ?_
          with_reducible rfl
        refine rg_no rfl (by kernel_rfl) (by kernel_rfl) ?_
        refine rg_no rfl (by kernel_rfl) (by kernel_rfl) ?_
        refine rg_no rfl (by kernel_rfl) (by kernel_rfl) ?_
        refine rg_no rfl (by kernel_rfl) (by kernel_rfl) ?_
        refine rg_no rfl (by kernel_rfl) (by kernel_rfl) ?_
        refine rg_no rfl (by kernel_rfl) (by kernel_rfl) ?_
        refine rg_no rfl (by kernel_rfl) (by kernel_rfl) ?_
        refine rg_no rfl (by kernel_rfl) (by kernel_rfl) ?_
        refine rg_no rfl (by kernel_rfl) (by kernel_rfl) ?_
        refine rg_no rfl (by kernel_rfl) (by kernel_rfl) ?_
        refine rg_no rfl (by kernel_rfl) (by kernel_rfl) ?_
        refine rg_no rfl (by kernel_rfl) (by kernel_rfl) ?_
        refine rg_pure (v := ?_) rfl (by kernel_rfl) (by kernel_rfl) (fun w hS hN => ?_) ?_
        rotate_left 1
        · clear hN
          go_simp
          try simp only [e1]
          refine givesP_mk ?_
          with_reducible rfl
        refine rg_done rfl (Nat.le_of_ble_eq_true (by kernel_rfl)) ?_
        intro w8 hS hT
        have XR8 := Lib.hid (XR4.out.trans hS)
        clear hS hT
        go_simp
        go_wp2
        go_roundw
        case rel => exact ⟨k + 1, by omega, by go_num, XR8.out⟩
        case measure => simp [intOf]; omega
      · have e1 : (zg != lg) = true := by simpa using hg
        obtain ⟨j, hj1, hj2⟩ := Md.app_keeps HSO.out HZM.out (show zg ≠ lg from hg)
        obtain rfl : r = (j : Int) := by rw [← HRR.out]; unfold Md.fidx; simp only at hj1; rw [hj1]
        have hjl := (List.getElem?_eq_some_iff.1 hj2).1
        obtain ⟨A5, c5, B5, d5, hv, -, hr3⟩ := HS1.out.ext XR4.out
        have hB : (Value.slice B1 y.gs.length d1) = .slice B5 y.gs.length d5 := by
          have := congrArg (fun v => match v with | .agg a => a[2]? | _ => none) hv
          simpa using this
        simp only [Value.slice.injEq, true_and] at hB
        obtain ⟨rfl, rfl⟩ := hB
        obtain ⟨b5, o5, hB5, hb5, hc5⟩ := hr3.get hj2
        have HC5 : Hid (∀ v, Ext w4 v → v.rangeAt b5 (o5 + j * 4) [.int .i64 zg, .int .i64 zs, .int .i64 zm, .int .i64 zq]) := Lib.hid fun v hv i u hu => (Below.cell (p := ⟨b5, o5 + j * 4 + i, none⟩) hv hb5).trans (hc5 i u hu)
        have HB5 := Lib.hid hB5
        rw [hB5] at HBQ
        have e4 : (j : Int) < (y.gs.length : Int) := by omega
        have e5 : decide ((j : Int) < 0) = false := by simp
        have e6 : (if (j : Int) < 0 then (0 : Int) else (j : Int)) = (j : Int) := if_neg (by omega)
        have e7 : (0 ≤ (j : Int) ∧ (j : Int) < (y.gs.length : Int)) = True := eq_true ⟨by omega, e4⟩
        have hq : ∀ w, (Op.equalIn 10000 51 (.agg #[.int .i64 zg, .int .i64 zs, .int .i64 zm, .int .i64 zq]) (.agg #[.int .i64 zg, .int .i64 zs, .int .i64 zm, .int .i64 zq])).run Try.prog w = .ok true w := fun w => by have := run_eqG zg zs zm zq zg zs zm zq w; rw [decide_eq_true rfl] at this; exact this
        clear hg hj1 hj2 hv hr3 hb5 hc5 hB5
        go_wp2_with fail
        refine region_rgx ([]) (w4) (by kernel_rfl) (by kernel_rfl) ?_ ?_ ?_
        · exact List.forall_mem_nil _
        · first | assumption | exact Ext.refl _
        refine rg_pure (v := ?_) rfl (by kernel_rfl) (by kernel_rfl) (fun w hS hN => ?_) ?_
        rotate_left 1
        · clear hN
          go_simp
          try simp only [e1, e5, e6, e7, if_true, Int.toNat_natCast]
          refine givesP_mk ?_
          with_reducible rfl
        refine rg_pure (v := ?_) rfl (by kernel_rfl) (by kernel_rfl) (fun w hS hN => ?_) ?_
        rotate_left 1
        · have z0 := blk_cell (hS.blk HQ4.out) 0 _ rfl
          clear hN
          go_simp
          try simp only [e1, e5, e6, e7, if_true, Int.toNat_natCast]
          refine givesP_mk ?_
          with_reducible rfl
        refine rg_pure (v := ?_) rfl (by kernel_rfl) (by kernel_rfl) (fun w hS hN => ?_) ?_
        rotate_left 1
        · clear hN
          go_simp
          try simp only [e1, e5, e6, e7, if_true, Int.toNat_natCast]
          refine givesP_mk ?_
          with_reducible rfl
        refine rg_pure (v := ?_) rfl (by kernel_rfl) (by kernel_rfl) (fun w hS hN => ?_) ?_
        rotate_left 1
        · have m3 := blk_cell (hS.blk ((XC.out.trans XR4.out).blk HBL.out)) 3 _ rfl
          clear hN
          go_simp
          try simp only [e1, e5, e6, e7, if_true, Int.toNat_natCast]
          refine givesP_mk ?_
          with_reducible rfl
        refine rg_pure (v := ?_) rfl (by kernel_rfl) (by kernel_rfl) (fun w hS hN => ?_) ?_
        rotate_left 1
        · clear hN
          go_simp
          try simp only [e1, e5, e6, e7, if_true, Int.toNat_natCast]
          refine givesP_mk ?_
          with_reducible rfl
        refine rg_pure (v := ?_) rfl (by kernel_rfl) (by kernel_rfl) (fun w hS hN => ?_) ?_
        rotate_left 1
        · clear hN
          go_simp
          try simp only [e1, e5, e6, e7, if_true, Int.toNat_natCast]
          refine givesP_mk ?_
          with_reducible rfl
        refine rg_pure (v := ?_) rfl (by kernel_rfl) (by kernel_rfl) (fun w hS hN => ?_) ?_
        rotate_left 1
        · clear hN
          go_simp
          try simp only [e1, e5, e6, e7, if_true, Int.toNat_natCast]
          refine givesP_mk ?_
          with_reducible rfl
        refine rg_pure (v := ?_) rfl (by kernel_rfl) (by kernel_rfl) (fun w hS hN => ?_) ?_
        rotate_left 1
        · clear hN
          go_simp
          try simp only [e1, e5, e6, e7, if_true, Int.toNat_natCast]
          refine givesP_mk ?_
          with_reducible rfl
        refine rg_pure (v := ?_) rfl (by kernel_rfl) (by kernel_rfl) (fun w hS hN => ?_) ?_
        rotate_left 1
        · clear hN
          go_simp
          try simp only [e1, e5, e6, e7, if_true, Int.toNat_natCast]
          refine givesP_mk ?_
          with_reducible rfl
        refine rg_pure (v := ?_) rfl (by kernel_rfl) (by kernel_rfl) (fun w hS hN => ?_) ?_
        rotate_left 1
        · clear hN
          go_simp
          try simp only [e1, e5, e6, e7, if_true, Int.toNat_natCast]
          refine givesP_mk ?_
          with_reducible rfl
        refine rg_pure (v := ?_) rfl (by kernel_rfl) (by kernel_rfl) (fun w hS hN => ?_) ?_
        rotate_left 1
        · have y2 := blk_cell (hS.blk HBQ.out) 2 _ rfl
          clear hN
          go_simp
          try simp only [e1, e5, e6, e7, if_true, Int.toNat_natCast]
          refine givesP_mk ?_
          with_reducible rfl
        refine rg_pure (v := ?_) rfl (by kernel_rfl) (by kernel_rfl) (fun w hS hN => ?_) ?_
        rotate_left 1
        · clear hN
          go_simp
          try simp only [e1, e5, e6, e7, if_true, Int.toNat_natCast]
          refine givesP_mk ?_
          with_reducible rfl
        refine rg_pure (v := ?_) rfl (by kernel_rfl) (by kernel_rfl) (fun w hS hN => ?_) ?_
        rotate_left 1
        · clear hN
          go_simp
          try simp only [e1, e5, e6, e7, if_true, Int.toNat_natCast]
          refine givesP_mk ?_
          with_reducible rfl
        refine rg_pure (v := ?_) rfl (by kernel_rfl) (by kernel_rfl) (fun w hS hN => ?_) ?_
        rotate_left 1
        · clear hN
          go_simp
          try simp only [e1, e5, e6, e7, if_true, Int.toNat_natCast]
          refine givesP_mk ?_
          with_reducible rfl
        refine rg_pure (v := .agg #[.int .i64 zg, .int .i64 zs, .int .i64 zm, .int .i64 zq]) rfl (by kernel_rfl) (by kernel_rfl) (fun w hS hN => ?_) ?_
        · clear hN
          exact givesP_loadM 51 _ rfl (b5) (o5 + j * 4) (by go_simp) ([.int .i64 zg, .int .i64 zs, .int .i64 zm, .int .i64 zq]) _ rfl _ (HC5.out w hS) Try.underlying51 rfl (by kernel_rfl)
        refine rg_pure (v := .agg #[.int .i64 zg, .int .i64 zs, .int .i64 zm, .int .i64 zq]) rfl (by kernel_rfl) (by kernel_rfl) (fun w hS hN => ?_) ?_
        · clear hN
          exact givesP_load 51 _ rfl _ (by go_simp) ([.int .i64 zg, .int .i64 zs, .int .i64 zm, .int .i64 zq]) _ rfl _ (range_row (hS.blk HQ4.out)) Try.underlying51 rfl (by kernel_rfl)
        refine rg_pure (v := ?_) rfl (by kernel_rfl) (by kernel_rfl) (fun w hS hN => ?_) ?_
        rotate_left 1
        · clear hN
          go_simp
          try simp only [e1, e5, e6, e7, if_true, Int.toNat_natCast]
          refine givesP_mk ?_
          with_reducible rfl
        refine rg_pure (v := ?_) rfl (by kernel_rfl) (by kernel_rfl) (fun w hS hN => ?_) ?_
        rotate_left 1
        · clear hN
          go_simp
          try simp only [e1, e5, e6, e7, if_true, Int.toNat_natCast]
          refine givesP_mk ?_
          with_reducible rfl
        refine rg_pure (v := ?_) rfl (by kernel_rfl) (by kernel_rfl) (fun w hS hN => ?_) ?_
        rotate_left 1
        · clear hN
          go_simp
          try simp only [e1, e5, e6, e7, if_true, Int.toNat_natCast]
          refine givesP_mk ?_
          with_reducible rfl
        refine rg_done rfl (Nat.le_of_ble_eq_true (by kernel_rfl)) ?_
        intro w8 hS hT
        have XR8 := Lib.hid (XR4.out.trans hS)
        clear hS hT
        go_simp
        go_wp2
        go_roundw
        case rel => exact ⟨k + 1, by omega, by go_num, XR8.out⟩
        case measure => simp [intOf]; omega
    · obtain rfl : k = gs.length := by omega
      clear hk hlt
      have HBR := Lib.hid (XR.out.blk HB1.out)
      go_wp2_with (refine wpList_load_rowW rfl 25 _ rfl n1 rfl [.int .i64 y.time, .slice A1 y.ps.length c1, .slice B1 y.gs.length d1] (.agg #[.int .i64 y.time, .slice A1 y.ps.length c1, .slice B1 y.gs.length d1]) rfl _ (range_row HBR.out) Try.underlying25 rfl (by kernel_rfl) ?_)
      refine (rsnmay_k _ y true _ HTM.out.2.2.2.1 (HS1.out.ext XR.out) (by have := HYF.out; omega) (by have := HYF.out; omega)).mono ?_
      rintro e w4 ⟨rfl, hx4⟩
      have XR4 := Lib.hid (XR.out.trans hx4)
      clear hx4 c2 HBR
      have q0 := blk_cell (XR4.out.blk HB1.out) 0 _ rfl
      have q1 := blk_cell (XR4.out.blk HB1.out) 1 _ rfl
      have m0 := blk_cell ((XC.out.trans XR4.out).blk HBL.out) 0 _ rfl
      have c0 := blk_cell ((XC.out.trans XR4.out).blk HBX.out) 0 _ rfl
      have c1 := blk_cell ((XC.out.trans XR4.out).blk HBX.out) 1 _ rfl
      obtain ⟨t1, t2, t3, t4, t5, t6⟩ := HTM.out
      have e1 : (y.time == lt) = true := by simpa using t5
      have e2 : decide (time ≤ y.time) = true := decide_eq_true (by omega)
      rw [t6] at q1
      clear t1 t2 t3 t4 t5 t6
      go_wp2
      go_ret
      exact ⟨rfl, X0.out.trans (XC.out.trans XR4.out)⟩
end Go.Proofs.Ytdcbaddndoilfaa
