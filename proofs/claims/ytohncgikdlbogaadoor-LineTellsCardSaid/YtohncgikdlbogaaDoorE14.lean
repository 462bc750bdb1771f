/-
  Several texts in one: Jk.
-/
import Derived.Test.YtohncgikdlbogaaDoorE13
set_option linter.unusedVariables false
set_option linter.unusedSimpArgs false
namespace Go.Proofs.YtohncgikdlbogaaDoor
open Go.RowKit
set_option maxRecDepth 100000 in
set_option maxHeartbeats 16000000 in
theorem spansP_any (look : Sn → Option Vw) (why : Le → ByteArray) (pl : Addr) (v vl : Value) (x : Sn) (es : List Le) (w : World) (hs : SnAt w v x) (hl : RowsAt 8 leL w vl es) (hn : es.length ≤ 1000) (he : ∀ e ∈ es, ∃ A n c, e.stack = .slice A n c)
    (hL : ∀ (u : Value) (y : Sn) (w' : World), Ext w w' → SnAt w' u y → y.may = true → Calls Tryd.prog 26 #[u, .pointer (some pl)] w' fun e w'' => e = .returned (.tuple #[.agg (vwC ((look y).getD (0, 0, 0))), .bool (look y).isSome]) ∧ Ext w' w'')
    (hW : ∀ (e : Le) (w' : World), Ext w w' → Calls Tryd.prog 27 #[.agg (leL e).toArray] w' fun e' w'' => e' = .returned (.string (why e)) ∧ Ext w' w'')
    (r : List Sp) (hr : Sp.all look why x es = r) :
    Calls Tryd.prog 22 #[v, vl, .func (.func 26) #[] #[.pointer (some pl)], .func (.func 27) #[] #[]] w fun e w' => ∃ u, e = .returned u ∧ RowsAt 5 spL w' u r ∧ Ext w w' := by
 obtain ⟨A, c, D, d, rfl, h2, h3⟩ := hs
 obtain ⟨Al, cl, rfl, -⟩ := hl.form
 obtain ⟨w1, hw1⟩ : ∃ w1, w.alloc (.cells #[.int .i64 x.time, .slice A x.ps.length c, .slice D x.gs.length d] 25) = w1 := ⟨_, rfl⟩
 have hx1 : Ext w w1 := by rw [← hw1]; exact (Ext.refl w).alloc _
 have hb1 : w1.heap[w.heap.size]? = some (.cells #[.int .i64 x.time, .slice A x.ps.length c, .slice D x.gs.length d] 25 (0, 0)) := by rw [← hw1]; exact blk_new w _
 obtain ⟨X, hX⟩ : ∃ X, w.heap.size = X := ⟨_, rfl⟩
 rw [hX] at hb1
 have HX := Lib.hid hX
 have HW1 := Lib.hid hw1
 have X1 := Lib.hid hx1
 have HB1 := Lib.hid hb1
 have H20 := Lib.hid h2
 have H30 := Lib.hid h3
 have HSN0 : Hid (SnAt w1 (.agg #[.int .i64 x.time, .slice A x.ps.length c, .slice D x.gs.length d]) x) := Lib.hid ⟨A, c, D, d, rfl, h2.ext hx1, h3.ext hx1⟩
 have HLL := Lib.hid hl
 have HE := Lib.hid he
 have HLK := Lib.hid hL
 have HWY := Lib.hid hW
 have HRR := Lib.hid hr
 have hn' : (es.length : Int) ≤ 1000 := by omega
 clear hw1 hx1 hb1 hX h2 h3 hl he hL hW hr
 go_enter Tryd.func22, Tryd.ntmps22
 go_upto_region 1 with fail
 rw [HW1.out, HX.out]
 go_wp2_with (refine wpList_load_rowW rfl 25 _ rfl X rfl [.int .i64 x.time, .slice A x.ps.length c, .slice D x.gs.length d] (.agg #[.int .i64 x.time, .slice A x.ps.length c, .slice D x.gs.length d]) rfl _ (range_row HB1.out) Tryd.underlying25 rfl (by kernel_rfl) ?_)
 refine (snmay_every _ x w1 HSN0.out).mono ?_
 rintro e w2 ⟨rfl, hx2⟩
 have X2 := Lib.hid (X1.out.trans hx2)
 have HB2 := Lib.hid (hx2.blk HB1.out)
 have HSN2 := Lib.hid (HSN0.out.ext hx2)
 clear hx2 HB1 HSN0
 obtain ⟨my, hmy⟩ : ∃ my, x.may = my := ⟨_, rfl⟩
 have HMY := Lib.hid hmy
 rw [hmy]
 clear hmy
 cases my with
 | false =>
  obtain rfl : [] = r := by rw [← HRR.out]; unfold Sp.all; rw [HMY.out]; rfl
  go_wp2
  go_ret
  exact ⟨_, rfl, RowsAt.nil _, X2.out⟩
 | true =>
 have HRG : Hid (Sp.go look why es x (look x) [] ((look x).map (Sp.opn x.time ByteArray.empty)) = r) := Lib.hid (by rw [← HRR.out]; unfold Sp.all; rw [if_pos HMY.out])
 clear HRR
 go_wp2_with (refine wpList_load_rowW rfl 25 _ rfl X rfl [.int .i64 x.time, .slice A x.ps.length c, .slice D x.gs.length d] (.agg #[.int .i64 x.time, .slice A x.ps.length c, .slice D x.gs.length d]) rfl _ (range_row HB2.out) Tryd.underlying25 rfl (by kernel_rfl) ?_)
 refine (HLK.out _ x w2 X2.out HSN2.out HMY.out).mono ?_
 rintro e w3 ⟨rfl, hx3⟩
 obtain ⟨v0, hv0⟩ : ∃ v0, (look x).getD (0, 0, 0) = v0 := ⟨_, rfl⟩
 obtain ⟨b0, hb0⟩ : ∃ b0, (look x).isSome = b0 := ⟨_, rfl⟩
 rw [hv0, hb0]
 obtain ⟨wy, hwy, hby, hxy⟩ := vw_box w3 v0
 obtain ⟨Y, hY⟩ : ∃ Y, w3.heap.size = Y := ⟨_, rfl⟩
 rw [hY] at hby
 have HYY := Lib.hid hY
 have HWYY := Lib.hid hwy
 have HV0 := Lib.hid hv0
 have HB0 := Lib.hid hb0
 have HS0 : Hid (SpB w wy X Y x v0 (.slice none 0 0) []) := Lib.hid (by
  have hXl := blk_lt HB2.out
  have hle := hx3.size
  have hoff : ∀ {α : Type} {m : Nat} {f : α → List Value} {A : Option Addr} {c : Nat} {xs : List α}, RowsAt m f w (.slice A xs.length c) xs → SpOff X Y (.slice none 0 0) xs.length A := fun h h0 a ha => by
   obtain ⟨A', c', hv, _, hA⟩ := h
   obtain ⟨b, o, hAe, hlt, _⟩ := hA h0
   simp only [Value.slice.injEq] at hv
   rw [← hv.1, ha] at hAe
   obtain rfl := Option.some.inj hAe
   have := HX.out
   simp only at hlt ⊢
   exact ⟨by omega, by omega, fun e => by cases e⟩
  have hxa := X2.out.trans (hx3.trans hxy)
  refine ⟨⟨A, c, D, d, (hx3.trans hxy).blk HB2.out, H20.out.ext hxa, H30.out.ext hxa, hoff H20.out, hoff H30.out⟩, hby, OwnRows.nil _ _, hxa, by have := HX.out; omega, by omega⟩)
 clear hx3 hwy hby hxy hY hv0 hb0 HSN2 HB2
 simp only [vwC]
 go_upto_region 5 with fail
 rw [HWYY.out, HYY.out]
 clear HWYY
 cases b0 with
 | false =>
  have HN0 : Hid (look x = none) := Lib.hid (by have := HB0.out; cases h : look x with
   | none => rfl
   | some v => rw [h] at this; cases this)
  go_wp2_with fail
  go_loopw [9, 11, 40] (fun uv tv iv wr => ∃ (k : Nat) (y : Sn) (done : List Sp) (cur : Option Sp), k ≤ es.length ∧ iv = .int .i64 k ∧ tv = .bool (look y).isSome ∧ Hid (y.may = true) ∧ Hid (Sp.go look why (es.drop k) y (look y) done cur = r) ∧ cur.isSome = (look y).isSome ∧ SpB w wr X Y y ((look y).getD (0, 0, 0)) uv (done ++ cur.toList) ∧ (done ++ cur.toList).length ≤ k + 1) (fun _ _ iv _ => es.length - (intOf iv).toNat)
  case atStart => exact ⟨0, x, [], none, by omega, rfl, by rw [HN0.out]; rfl, Lib.hid HMY.out, Lib.hid (by have := HRG.out; rw [HN0.out] at this ⊢; exact this), by rw [HN0.out]; rfl, by rw [HV0.out]; exact HS0.out, by simp⟩
  case round =>
   obtain ⟨k, y, done, cur, hk, rfl, rfl, HYM, HGO, hcs, hsb, hdl⟩ := hrel
   have HS1 := Lib.hid hsb
   have HCS := Lib.hid hcs
   have HDL := Lib.hid hdl
   clear hsb hcs hdl
   obtain ⟨ov, hov⟩ : ∃ ov, (look y).getD (0, 0, 0) = ov := ⟨_, rfl⟩
   obtain ⟨ob, hob⟩ : ∃ ob, (look y).isSome = ob := ⟨_, rfl⟩
   rw [hov] at HS1
   rw [hob] at HCS
   rw [hob]
   have HOV := Lib.hid hov
   have HOB := Lib.hid hob
   clear hov hob
   by_cases hlt : k < es.length
   · obtain ⟨e, he⟩ : ∃ e, es[k]? = some e := ⟨_, List.getElem?_eq_getElem hlt⟩
     have HD := Lib.hid (drop_cons he)
     have HST := Lib.hid (HE.out e (List.mem_of_getElem? he))
     obtain ⟨b, o, hB, hb, hc⟩ := (HLL.out.ext HS1.out.ext).get he
     subst hB
     obtain ⟨⟨et, em, ek, eg, ep, eq⟩, ew, ev⟩ := e
     have k0 := hc 0 _ rfl
     have k1 := hc 1 _ rfl
     have k2 := hc 2 _ rfl
     have k3 := hc 3 _ rfl
     have k4 := hc 4 _ rfl
     have k5 := hc 5 _ rfl
     have k6 := hc 6 _ rfl
     have k7 := hc 7 _ rfl
     rw [Nat.add_zero] at k0
     obtain ⟨Av, nv, cv, hev⟩ := HST.out
     dsimp only at hev
     subst hev
     dsimp only at k0 k1 k2 k3 k4 k5 k6 k7
     clear HST
     clear he hb hc
     go_upto_region 10 with fail
     obtain ⟨w3, hw3⟩ : ∃ w3, wr.alloc (.cells #[.int .i64 et, .int .i64 em, .int .i64 ek, .int .i64 eg, .int .i64 ep, .int .i64 eq, .string ew, .slice Av nv cv] 34) = w3 := ⟨_, rfl⟩
     have hx3 : Ext wr w3 := by rw [← hw3]; exact (Ext.refl _).alloc _
     have HBE : Hid (w3.heap[wr.heap.size]? = some (.cells #[.int .i64 et, .int .i64 em, .int .i64 ek, .int .i64 eg, .int .i64 ep, .int .i64 eq, .string ew, .slice Av nv cv] 34 (0, 0))) := Lib.hid (by rw [← hw3]; exact blk_new wr _)
     rw [hw3]
     obtain ⟨E0, hE0⟩ : ∃ E0, wr.heap.size = E0 := ⟨_, rfl⟩
     rw [hE0] at HBE ⊢
     have HS3 := Lib.hid (HS1.out.more hx3)
     have HUE : Hid (∀ k, u9.ownBlock = some k → k < E0) := Lib.hid fun k hk => by rw [← hE0]; exact (HS1.out.own.lt k hk).2
     have HXE : Hid (X < E0) := Lib.hid (by rw [← hE0]; obtain ⟨_, _, _, _, h, _⟩ := HS1.out.snap; exact blk_lt h)
     have HE3 : Hid (E0 < w3.heap.size) := Lib.hid (by rw [← hE0] at HBE ⊢; exact blk_lt HBE.out)
     clear hw3 hx3 hE0 k0 k1 k2 k3 k4 k5 k6 k7 HS1
     obtain ⟨A6, c6, D6, d6, hbx, hsn⟩ := HS3.out.snap
     have HBX3 := Lib.hid hbx
     have HSN3 := Lib.hid hsn
     clear hbx hsn
     go_wp2_with (first | (refine wpList_load_rowW rfl 25 _ rfl X rfl [.int .i64 y.time, .slice A6 y.ps.length c6, .slice D6 y.gs.length d6] (.agg #[.int .i64 y.time, .slice A6 y.ps.length c6, .slice D6 y.gs.length d6]) rfl _ (range_row HBX3.out) Tryd.underlying25 rfl (by kernel_rfl) ?_) | (refine wpList_load_rowW rfl 34 _ rfl E0 rfl [.int .i64 et, .int .i64 em, .int .i64 ek, .int .i64 eg, .int .i64 ep, .int .i64 eq, .string ew, .slice Av nv cv] (.agg #[.int .i64 et, .int .i64 em, .int .i64 ek, .int .i64 eg, .int .i64 ep, .int .i64 eq, .string ew, .slice Av nv cv]) rfl _ (range_row HBE.out) Tryd.underlying34 rfl (by kernel_rfl) ?_))
     obtain ⟨oa, hoa⟩ : ∃ oa, Md.app y ⟨et, em, ek, eg, ep, eq⟩ = oa := ⟨_, rfl⟩
     refine (mApply_allO _ y ⟨et, em, ek, eg, ep, eq⟩ (.string ew) (.slice Av nv cv) w3 HSN3.out oa hoa).mono ?_
     rintro e wa ⟨u, rfl, hso, hxa⟩
     have HOA := Lib.hid hoa
     have HS4 := Lib.hid (HS3.out.more hxa)
     have HBE4 := Lib.hid (hxa.blk HBE.out)
     have HYB : Hid (Y < w3.heap.size) := Lib.hid (blk_lt HS3.out.ybox)
     have HSZ1 : Hid (w3.heap.size ≤ wa.heap.size) := Lib.hid hxa.size
     have HUB : Hid (∀ k, u9.ownBlock = some k → k < w3.heap.size) := Lib.hid fun k hk => (HS3.out.own.lt k hk).2
     clear hxa hoa HBE HS3 HBX3 HSN3
     obtain ⟨A7, c7, D7, d7, rfl, k2, k3⟩ := hso
     cases oa with
     | none =>
      have HNIL : Hid ([] = r) := Lib.hid (by have := HGO.out; rw [HD.out] at this; unfold Sp.go at this; simp only [HOA.out] at this; exact this)
      have HX4 := Lib.hid HS4.out.ext
      clear k2 k3
      simp only [Option.getD, Option.isSome, Md.zero, List.length_nil]
      go_wp2
      go_ret
      obtain rfl := HNIL.out
      refine ⟨_, rfl, RowsAt.nil _, ?_⟩
      first | exact HX4.out | exact HX4.out.alloc _ | trace_state
     | some y2 =>
      have HY2 : Hid (y2.may = true) := Lib.hid (Md.app_time HOA.out).2.2.2.1
      simp only [Option.getD_some, Option.isSome_some] at k2 k3 ⊢
      have HO2 := Lib.hid k2
      have HO3 := Lib.hid k3
      clear k2 k3
      go_upto_region 13 with fail
      obtain ⟨wb, hwb⟩ : ∃ wb, wa.alloc (.cells #[.int .i64 y2.time, .slice A7 y2.ps.length c7, .slice D7 y2.gs.length d7] 25) = wb := ⟨_, rfl⟩
      have hxb : Ext wa wb := by rw [← hwb]; exact (Ext.refl _).alloc _
      have hbn : wb.heap[wa.heap.size]? = some (.cells #[.int .i64 y2.time, .slice A7 y2.ps.length c7, .slice D7 y2.gs.length d7] 25 (0, 0)) := by rw [← hwb]; exact blk_new wa _
      rw [hwb]
      obtain ⟨N0, hN0⟩ : ∃ N0, wa.heap.size = N0 := ⟨_, rfl⟩
      rw [hN0] at hbn ⊢
      have HBN := Lib.hid hbn
      obtain ⟨hth, wc, hwc, hs6⟩ := (HS4.out.more hxb).setX (B := w3.heap.size) ⟨A7, c7, D7, d7, rfl, HO2.out.ext hxb, HO3.out.ext hxb⟩ HYB.out HUB.out
      have HTH := Lib.hid hth
      have HWC := Lib.hid hwc
      have HS6 := Lib.hid hs6
      have HBE6 : Hid (wc.heap[E0]? = some (.cells #[.int .i64 et, .int .i64 em, .int .i64 ek, .int .i64 eg, .int .i64 ep, .int .i64 eq, .string ew, .slice Av nv cv] 34 (0, 0))) := Lib.hid (by
       rw [← hwc]
       exact (setCells_upd X _ wb 0).blk (hxb.blk HBE4.out) (by have := HXE.out; omega))
      have HSZ2 : Hid (w3.heap.size ≤ wc.heap.size) := Lib.hid (by rw [← hwc]; exact Nat.le_trans HSZ1.out (Nat.le_trans hxb.size (setCells_upd X _ wb 0).size))
      clear hwb hxb hbn hN0 hth hwc hs6 HS4 HBE4 HO2 HO3
      go_upto_region 14 with (first | (refine wpList_load_rowW rfl 25 _ rfl N0 rfl [.int .i64 y2.time, .slice A7 y2.ps.length c7, .slice D7 y2.gs.length d7] (.agg #[.int .i64 y2.time, .slice A7 y2.ps.length c7, .slice D7 y2.gs.length d7]) rfl _ (range_row HBN.out) Tryd.underlying25 rfl (by kernel_rfl) ?_) | (refine wpList_store_rowN rfl 25 _ _ rfl X 0 [.int .i64 y2.time, .slice A7 y2.ps.length c7, .slice D7 y2.gs.length d7] (.agg ([.int .i64 y2.time, .slice A7 y2.ps.length c7, .slice D7 y2.gs.length d7]).toArray) (by go_simp) (by go_simp) rfl HTH.out (by kernel_rfl) (sn3_one _ _ _ rfl rfl) HWC.out ?_))
      clear HTH HWC HBN
      obtain ⟨A8, c8, D8, d8, hbx, hsn⟩ := HS6.out.snap
      have HBX6 := Lib.hid hbx
      have HSN6 := Lib.hid hsn
      clear hbx hsn
      go_wp2_with (refine wpList_load_rowW rfl 25 _ rfl X rfl [.int .i64 y2.time, .slice A8 y2.ps.length c8, .slice D8 y2.gs.length d8] (.agg #[.int .i64 y2.time, .slice A8 y2.ps.length c8, .slice D8 y2.gs.length d8]) rfl _ (range_row HBX6.out) Tryd.underlying25 rfl (by kernel_rfl) ?_)
      refine (HLK.out _ y2 wc HS6.out.ext HSN6.out HY2.out).mono ?_
      rintro e wd ⟨rfl, hxd⟩
      obtain ⟨nw, hnw⟩ : ∃ nw, (look y2).getD (0, 0, 0) = nw := ⟨_, rfl⟩
      obtain ⟨nb, hnb⟩ : ∃ nb, (look y2).isSome = nb := ⟨_, rfl⟩
      rw [hnw, hnb]
      have HNV := Lib.hid hnw
      have HNB := Lib.hid hnb
      obtain ⟨we, hwe, hbv, hxe⟩ := vw_box wd nw
      obtain ⟨V0, hV0⟩ : ∃ V0, wd.heap.size = V0 := ⟨_, rfl⟩
      rw [hV0] at hbv
      have HWE := Lib.hid hwe
      have HV0 := Lib.hid hV0
      have HVS : Hid (w3.heap.size ≤ V0) := Lib.hid (by rw [← hV0]; exact Nat.le_trans HSZ2.out hxd.size)
      have HS7 := Lib.hid (HS6.out.more (hxd.trans hxe))
      have HBVN := Lib.hid hbv
      have HBEN := Lib.hid ((hxd.trans hxe).blk HBE6.out)
      clear hnw hnb hwe hV0 hbv hxd hxe HS6 HBE6 HBX6 HSN6
      simp only [vwC]
      go_upto_region 15 with fail
      rw [HWE.out, HV0.out]
      have z0 : we.cell? ⟨V0, 0, none⟩ = some (.int .i64 nw.1) := blk_cell HBVN.out 0 _ rfl
      have z1 : we.cell? ⟨V0, 1, none⟩ = some (.int .i64 nw.2.1) := blk_cell HBVN.out 1 _ rfl
      have z2 : we.cell? ⟨V0, 2, none⟩ = some (.int .i64 nw.2.2) := blk_cell HBVN.out 2 _ rfl
      have y0 : we.cell? ⟨Y, 0, none⟩ = some (.int .i64 ov.1) := blk_cell HS7.out.ybox 0 _ rfl
      have y1 : we.cell? ⟨Y, 1, none⟩ = some (.int .i64 ov.2.1) := blk_cell HS7.out.ybox 1 _ rfl
      have y2' : we.cell? ⟨Y, 2, none⟩ = some (.int .i64 ov.2.2) := blk_cell HS7.out.ybox 2 _ rfl
      by_cases heq : look y2 = look y
      · obtain rfl : nw = ov := by rw [← HNV.out, ← HOV.out, heq]
        obtain rfl : nb = ob := by rw [← HNB.out, ← HOB.out, heq]
        have HGN : Hid (Sp.go look why (es.drop (k + 1)) y2 (look y2) done cur = r) := Lib.hid (by
         have := HGO.out
         rw [HD.out] at this
         unfold Sp.go at this
         simp only [HOA.out, if_pos heq] at this
         rw [heq]
         exact this)
        have hq : ∀ w, (Op.equalIn 10000 46 (.agg #[.int .i64 nw.1, .int .i64 nw.2.1, .int .i64 nw.2.2]) (.agg #[.int .i64 nw.1, .int .i64 nw.2.1, .int .i64 nw.2.2])).run Tryd.prog w = .ok true w := fun w => by have := run_eqV nw.1 nw.2.1 nw.2.2 nw.1 nw.2.1 nw.2.2 w; rw [decide_eq_true rfl] at this; exact this
        have hbb : (nb == nb) = true := by simp
        clear heq
        go_wp2
        go_roundw
        case rel => exact ⟨k + 1, y2, done, cur, by omega, by go_num, by rw [HNB.out], HY2, HGN, by rw [HNB.out]; exact HCS.out, by rw [HNV.out]; exact HS7.out, by have := HDL.out; omega⟩
        case measure => simp [intOf]; omega
      · have HGN : Hid (Sp.go look why (es.drop (k + 1)) y2 (look y2) (done ++ (cur.map (Sp.close y2.time)).toList) ((look y2).map (Sp.opn y2.time (why (⟨⟨et, em, ek, eg, ep, eq⟩, ew, .slice Av nv cv⟩ : Le)))) = r) := Lib.hid (by
         have := HGO.out
         rw [HD.out] at this
         unfold Sp.go at this
         simp only [HOA.out, if_neg heq] at this
         exact this)
        have HUV : Hid (u9.ownBlock ≠ some V0) := Lib.hid fun e => by have := HUB.out V0 e; have := HVS.out; omega
        have HNE := Lib.hid heq
        have HKL : Hid (k ≤ 1000) := Lib.hid (by omega)
        clear heq
        by_cases hv : nw = ov
        · have hq : ∀ w, (Op.equalIn 10000 46 (.agg #[.int .i64 nw.1, .int .i64 nw.2.1, .int .i64 nw.2.2]) (.agg #[.int .i64 ov.1, .int .i64 ov.2.1, .int .i64 ov.2.2])).run Tryd.prog w = .ok true w := fun w => by have := run_eqV nw.1 nw.2.1 nw.2.2 ov.1 ov.2.1 ov.2.2 w; rw [decide_eq_true (by rw [hv])] at this; exact this
          have hbb : (nb == ob) = false := by
           cases hh : (nb == ob) with
           | false => rfl
           | true => exact absurd (opt_same (by rw [HNV.out, HOV.out, hv]) (by rw [HNB.out, HOB.out]; simpa using hh)) HNE.out
          clear hv
          cases ob with
          | false =>
           obtain rfl : cur = none := by have := HCS.out; cases cur with
            | none => rfl
            | some c => cases this
           have HNB1 : Hid (nb = true) := Lib.hid (by
            cases nb with
            | true => rfl
            | false => exact absurd (by have h1 := HNB.out; have h2 := HOB.out; cases h3 : look y2 with
                | none => cases h4 : look y with
                 | none => rfl
                 | some v => rw [h4] at h2; cases h2
                | some v => rw [h3] at h1; cases h1) HNE.out)
           obtain rfl := HNB1.out
           have HS8 : Hid (SpB w we X Y y2 ov u9 done) := Lib.hid (by simpa using HS7.out)
           have HLN : Hid (done.length ≤ 1000000) := Lib.hid (by have h1 := HDL.out; have h2 := HKL.out; simp at h1; omega)
           have HLE : Hid ((done ++ [Sp.opn y2.time (why (⟨⟨et, em, ek, eg, ep, eq⟩, ew, .slice Av nv cv⟩ : Le)) nw]).length ≤ k + 1 + 1) := Lib.hid (by have h1 := HDL.out; simp at h1 ⊢; omega)
           have HN2 : Hid (look y2 = some nw) := Lib.hid (by have h1 := HNB.out; have h2 := HNV.out; cases h3 : look y2 with
            | none => rw [h3] at h1; cases h1
            | some v => rw [h3] at h2; exact congrArg some h2)
           have HGF : Hid (Sp.go look why (es.drop (k + 1)) y2 (look y2) done (some (Sp.opn y2.time (why (⟨⟨et, em, ek, eg, ep, eq⟩, ew, .slice Av nv cv⟩ : Le)) nw)) = r) := Lib.hid (by have := HGN.out; rw [HN2.out] at this ⊢; simpa using this)
           clear HS7 HNB1
           have HCX : Hid (∀ v, Ext we v → v.cell? ⟨X, 0, none⟩ = some (.int .i64 y2.time) ∧ v.cell? ⟨V0, 0, none⟩ = some (.int .i64 nw.1) ∧ v.cell? ⟨V0, 1, none⟩ = some (.int .i64 nw.2.1) ∧ v.cell? ⟨E0, 0, none⟩ = some (.int .i64 et) ∧ v.cell? ⟨E0, 1, none⟩ = some (.int .i64 em) ∧ v.cell? ⟨E0, 2, none⟩ = some (.int .i64 ek) ∧ v.cell? ⟨E0, 3, none⟩ = some (.int .i64 eg) ∧ v.cell? ⟨E0, 4, none⟩ = some (.int .i64 ep) ∧ v.cell? ⟨E0, 5, none⟩ = some (.int .i64 eq) ∧ v.cell? ⟨E0, 6, none⟩ = some (.string ew) ∧ v.cell? ⟨E0, 7, none⟩ = some (.slice Av nv cv)) := Lib.hid fun v hv => by
            obtain ⟨A8, c8, D8, d8, hb8, -⟩ := (HS8.out.more hv).snap
            have hbe := hv.blk HBEN.out
            exact ⟨blk_cell hb8 0 _ rfl, blk_cell (hv.blk HBVN.out) 0 _ rfl, blk_cell (hv.blk HBVN.out) 1 _ rfl, blk_cell hbe 0 _ rfl, blk_cell hbe 1 _ rfl, blk_cell hbe 2 _ rfl, blk_cell hbe 3 _ rfl, blk_cell hbe 4 _ rfl, blk_cell hbe 5 _ rfl, blk_cell hbe 6 _ rfl, blk_cell hbe 7 _ rfl⟩
           go_wp2_with fail
           refine region_gq 12 (fun v => v.cell? ⟨X, 0, none⟩ = some (.int .i64 y2.time) ∧ v.cell? ⟨V0, 0, none⟩ = some (.int .i64 nw.1) ∧ v.cell? ⟨V0, 1, none⟩ = some (.int .i64 nw.2.1) ∧ v.cell? ⟨E0, 0, none⟩ = some (.int .i64 et) ∧ v.cell? ⟨E0, 1, none⟩ = some (.int .i64 em) ∧ v.cell? ⟨E0, 2, none⟩ = some (.int .i64 ek) ∧ v.cell? ⟨E0, 3, none⟩ = some (.int .i64 eg) ∧ v.cell? ⟨E0, 4, none⟩ = some (.int .i64 ep) ∧ v.cell? ⟨E0, 5, none⟩ = some (.int .i64 eq) ∧ v.cell? ⟨E0, 6, none⟩ = some (.string ew) ∧ v.cell? ⟨E0, 7, none⟩ = some (.slice Av nv cv)) (fun v => Ext we v) (by kernel_rfl) (Ext.refl we).drew (fun _ _ d _ _ h => by cases d <;> exact h) ?_
           intro Q9 HQE HQP
           have HG : ∀ (l : Array Bool) (v : World), Ext we v → l.getD 12 false = false → v.cell? ⟨X, 0, none⟩ = some (.int .i64 y2.time) ∧ v.cell? ⟨V0, 0, none⟩ = some (.int .i64 nw.1) ∧ v.cell? ⟨V0, 1, none⟩ = some (.int .i64 nw.2.1) ∧ v.cell? ⟨E0, 0, none⟩ = some (.int .i64 et) ∧ v.cell? ⟨E0, 1, none⟩ = some (.int .i64 em) ∧ v.cell? ⟨E0, 2, none⟩ = some (.int .i64 ek) ∧ v.cell? ⟨E0, 3, none⟩ = some (.int .i64 eg) ∧ v.cell? ⟨E0, 4, none⟩ = some (.int .i64 ep) ∧ v.cell? ⟨E0, 5, none⟩ = some (.int .i64 eq) ∧ v.cell? ⟨E0, 6, none⟩ = some (.string ew) ∧ v.cell? ⟨E0, 7, none⟩ = some (.slice Av nv cv) := fun _ v hx _ => HCX.out v hx
           refine g_tk 0 (v := ?_) HG HQP (fun w hS => ?_) ?_
           rotate_left 1
           · go_simp; refine gives_mk ?_ rfl; with_reducible rfl
           refine g_tk 1 (v := ?_) HG HQP (fun w hS => ?_) ?_
           rotate_left 1
           · go_simp; refine gives_mk ?_ rfl; with_reducible rfl
           refine g_tk 2 (v := ?_) HG HQP (fun w hS => ?_) ?_
           rotate_left 1
           · go_simp; refine gives_mk ?_ rfl; with_reducible rfl
           refine g_tk 3 (v := ?_) HG HQP (fun w hS => ?_) ?_
           rotate_left 1
           · go_simp; refine gives_mk ?_ rfl; with_reducible rfl
           refine g_tk 4 (v := ?_) HG HQP (fun w hS => ?_) ?_
           rotate_left 1
           · go_simp; refine gives_mk ?_ rfl; with_reducible rfl
           refine g_tk 5 (v := ?_) HG HQP (fun w hS => ?_) ?_
           rotate_left 1
           · go_simp; refine gives_mk ?_ rfl; with_reducible rfl
           refine g_tk 6 (v := ?_) HG HQP (fun w hS => ?_) ?_
           rotate_left 1
           · go_simp; refine gives_mk ?_ rfl; with_reducible rfl
           refine g_tk 7 (v := ?_) HG HQP (fun w hS => ?_) ?_
           rotate_left 1
           · go_simp; refine gives_mk ?_ rfl; with_reducible rfl
           refine g_tk 8 (v := ?_) HG HQP (fun w hS => ?_) ?_
           rotate_left 1
           · go_simp; refine gives_mk ?_ rfl; with_reducible rfl
           refine g_mid (fun u v => u = .string (why (⟨⟨et, em, ek, eg, ep, eq⟩, ew, .slice Av nv cv⟩ : Le)) ∧ Ext we v) (k := 9) (by kernel_rfl) (fun _ v hh _ => HCX.out v hh.2) rfl (by kernel_rfl) (fun v hS R hR => ?_) (fun u hu => ?_)
           · have HR := Lib.hid hR
             clear hR
             have HV := Lib.hid hS
             go_simp
             refine givesM_call ((HWY.out (⟨⟨et, em, ek, eg, ep, eq⟩, ew, .slice Av nv cv⟩ : Le) v (HS8.out.ext.trans HV.out)).mono ?_)
             rintro e' v2 ⟨rfl, hx2⟩
             exact ⟨_, rfl, HR.out _ _ ⟨rfl, HV.out.trans hx2⟩⟩
           obtain ⟨_, rfl, -⟩ := hu
           refine g_mid (fun u v => u = .agg #[.int .i64 y2.time, .int .i64 0, .int .i64 nw.1, .int .i64 nw.2.1, .string (why (⟨⟨et, em, ek, eg, ep, eq⟩, ew, .slice Av nv cv⟩ : Le))] ∧ Ext we v) (k := 10) (by kernel_rfl) (fun _ v hh _ => HCX.out v hh.2) rfl (by kernel_rfl) (fun v hS R hR => ?_) (fun u hu => ?_)
           · have HR := Lib.hid hR
             clear hR
             go_simp
             refine givesM_val (HR.out _ _ ⟨rfl, hS.2⟩)
           obtain ⟨_, rfl, -⟩ := hu
           refine g_mid (fun u v => ∃ v5, u = .slice (some ⟨v5.heap.size, 0, none⟩) 1 1 ∧ v = v5.alloc (.cells (spL (Sp.opn y2.time (why (⟨⟨et, em, ek, eg, ep, eq⟩, ew, .slice Av nv cv⟩ : Le)) nw)).toArray 36) ∧ Ext we v5) (k := 11) (by kernel_rfl) (fun _ v hh _ => by obtain ⟨v5, _, rfl, hx⟩ := hh; exact HCX.out _ (hx.alloc _)) rfl (by kernel_rfl) (fun v hS R hR => ?_) (fun u hu => ?_)
           · have HR := Lib.hid hR
             clear hR
             go_simp
             refine givesM_val (HR.out _ _ ⟨v, rfl, rfl, hS.2⟩)
           obtain ⟨_, w5, rfl, -, -⟩ := hu
           generalize w5.heap.size = V5
           clear w5
           refine g_mid (fun u v => SpB w v X Y y2 ov u (done ++ [Sp.opn y2.time (why (⟨⟨et, em, ek, eg, ep, eq⟩, ew, .slice Av nv cv⟩ : Le)) nw]) ∧ v.heap[V0]? = some (.cells (vwC nw) 46 (0, 0))) (k := 12) (by kernel_rfl) (fun v w _ h0 => by cases h0) rfl (by kernel_rfl) (fun v hS R hR => ?_) (fun u hu => ?_)
           · have HR := Lib.hid hR
             clear hR
             obtain ⟨v5, hV, hv, hx⟩ := hS
             simp only [Value.slice.injEq, Option.some.injEq, Addr.mk.injEq, and_true] at hV
             subst hV hv
             obtain ⟨un, wn, hr1, hs1, hk1⟩ := (HS8.out.more hx).push (Sp.opn y2.time (why (⟨⟨et, em, ek, eg, ep, eq⟩, ew, .slice Av nv cv⟩ : Le)) nw) HLN.out
             refine givesM_append _ _ 27 rfl _ _ (by go_simp) (by go_simp) hr1 ?_
             exact HR.out _ _ ⟨hs1, hk1 _ _ (hx.blk HBVN.out) HUV.out⟩
           obtain ⟨_, hu9, -⟩ := hu
           refine g_end (k := 13) (by kernel_rfl) (by kernel_rfl) (by kernel_rfl) rfl (by kernel_rfl) (fun w9 hS R hR => ?_)
           have HR := Lib.hid hR
           clear hR hu9
           obtain ⟨hs9, hv9⟩ := hS
           have HS9 := Lib.hid hs9
           have HV9 := Lib.hid hv9
           clear hs9 hv9
           have hq9 := HQE.out
           subst hq9
           clear HQE HQP HG HCX
           go_simp
           refine givesM_val (HR.out _ _ ?_)
           go_simp
           have z0 : w9.cell? ⟨V0, 0, none⟩ = some (.int .i64 nw.1) := blk_cell HV9.out 0 _ rfl
           have z1 : w9.cell? ⟨V0, 1, none⟩ = some (.int .i64 nw.2.1) := blk_cell HV9.out 1 _ rfl
           have z2 : w9.cell? ⟨V0, 2, none⟩ = some (.int .i64 nw.2.2) := blk_cell HV9.out 2 _ rfl
           obtain ⟨hth, wf, hwf, hsf⟩ := HS9.out.setY nw
           have HTH := Lib.hid hth
           have HWF := Lib.hid hwf
           have HSF := Lib.hid hsf
           clear hth hwf hsf
           go_wp2_with (refine wpList_store_rowN rfl 46 _ _ rfl Y 0 [.int .i64 nw.1, .int .i64 nw.2.1, .int .i64 nw.2.2] (.agg ([.int .i64 nw.1, .int .i64 nw.2.1, .int .i64 nw.2.2]).toArray) (by go_simp) (by go_simp) rfl HTH.out (by kernel_rfl) (vw_one _ _ _) HWF.out ?_)
           go_roundw
           case rel => exact ⟨k + 1, y2, done, some (Sp.opn y2.time (why (⟨⟨et, em, ek, eg, ep, eq⟩, ew, .slice Av nv cv⟩ : Le)) nw), by omega, by go_num, by rw [HNB.out], HY2, HGF, by rw [HN2.out]; rfl, by rw [HNV.out]; first | exact HSF.out | simpa using HSF.out, by first | exact HLE.out | simpa using HLE.out⟩
           case measure => simp [intOf]; omega
          | true =>
           obtain ⟨c, rfl⟩ : ∃ c, cur = some c := by have := HCS.out; cases cur with
            | none => cases this
            | some c => exact ⟨c, rfl⟩
           obtain ⟨g, cg, hu, hgl, hcell, hfz, hse⟩ := SpB.ends (done := done) (s := c) HS7.out y2.time
           have hgE : g < E0 := HUE.out g (by rw [hu]; rfl)
           subst hu
           obtain ⟨n, hn⟩ : ∃ n, done.length = n := ⟨_, rfl⟩
           rw [hn] at hcell hfz hse ⊢
           have HNN := Lib.hid hn
           obtain ⟨wg, hwg⟩ : ∃ wg, we.setCell ⟨g, n * 5 + 1, none⟩ (.int .i64 y2.time) = wg := ⟨_, rfl⟩
           have hup : Upd g we wg := by rw [← hwg]; exact (Upd.refl _ _).set _ _
           rw [hwg] at hse
           have HS8 := Lib.hid hse
           have HWG := Lib.hid hwg
           have HBVM := Lib.hid (hup.blk HBVN.out (by have := HVS.out; have := HE3.out; omega))
           have HBEM := Lib.hid (hup.blk HBEN.out (by omega))
           obtain ⟨A8, c8, D8, d8, hb8, -⟩ := HS7.out.snap
           have q0 := blk_cell hb8 0 _ rfl
           have en : (n : Int) + 1 - 1 = (n : Int) := by omega
           have hnk : (n : Int) ≤ 1001 := by have h1 := HDL.out; have h2 := HKL.out; simp at h1; omega
           have HNK : Hid (n ≤ k) := Lib.hid (by have h1 := HDL.out; simp at h1; omega)
           have HLN : Hid ((done ++ [Sp.close y2.time c]).length ≤ 1000000) := Lib.hid (by simp; omega)
           clear hgl hse hwg hup hb8 hgE hn HBVN HBEN
           have HBVN := HBVM
           have HBEN := HBEM
           go_upto_region 18 with fail
           rw [HWG.out]
           clear hcell hfz q0 z0 z1 z2 y0 y1 y2' HS7 HWG HBVM HBEM
           cases nb with
           | true =>
            have HN2 : Hid (look y2 = some nw) := Lib.hid (by have h1 := HNB.out; have h2 := HNV.out; cases h3 : look y2 with
             | none => rw [h3] at h1; cases h1
             | some v => rw [h3] at h2; exact congrArg some h2)
            have HGF : Hid (Sp.go look why (es.drop (k + 1)) y2 (look y2) (done ++ [Sp.close y2.time c]) (some (Sp.opn y2.time (why (⟨⟨et, em, ek, eg, ep, eq⟩, ew, .slice Av nv cv⟩ : Le)) nw)) = r) := Lib.hid (by have := HGN.out; rw [HN2.out] at this ⊢; simpa using this)
            have HLE : Hid ((done ++ [Sp.close y2.time c] ++ [Sp.opn y2.time (why (⟨⟨et, em, ek, eg, ep, eq⟩, ew, .slice Av nv cv⟩ : Le)) nw]).length ≤ k + 1 + 1) := Lib.hid (by have h1 := HNK.out; have h2 := HNN.out; simp; omega)
            have HCX : Hid (∀ v, Ext wg v → v.cell? ⟨X, 0, none⟩ = some (.int .i64 y2.time) ∧ v.cell? ⟨V0, 0, none⟩ = some (.int .i64 nw.1) ∧ v.cell? ⟨V0, 1, none⟩ = some (.int .i64 nw.2.1) ∧ v.cell? ⟨E0, 0, none⟩ = some (.int .i64 et) ∧ v.cell? ⟨E0, 1, none⟩ = some (.int .i64 em) ∧ v.cell? ⟨E0, 2, none⟩ = some (.int .i64 ek) ∧ v.cell? ⟨E0, 3, none⟩ = some (.int .i64 eg) ∧ v.cell? ⟨E0, 4, none⟩ = some (.int .i64 ep) ∧ v.cell? ⟨E0, 5, none⟩ = some (.int .i64 eq) ∧ v.cell? ⟨E0, 6, none⟩ = some (.string ew) ∧ v.cell? ⟨E0, 7, none⟩ = some (.slice Av nv cv)) := Lib.hid fun v hv => by
             obtain ⟨A8, c8, D8, d8, hb8, -⟩ := (HS8.out.more hv).snap
             have hbe := hv.blk HBEN.out
             exact ⟨blk_cell hb8 0 _ rfl, blk_cell (hv.blk HBVN.out) 0 _ rfl, blk_cell (hv.blk HBVN.out) 1 _ rfl, blk_cell hbe 0 _ rfl, blk_cell hbe 1 _ rfl, blk_cell hbe 2 _ rfl, blk_cell hbe 3 _ rfl, blk_cell hbe 4 _ rfl, blk_cell hbe 5 _ rfl, blk_cell hbe 6 _ rfl, blk_cell hbe 7 _ rfl⟩
            go_wp2_with fail
            refine region_gq 12 (fun v => v.cell? ⟨X, 0, none⟩ = some (.int .i64 y2.time) ∧ v.cell? ⟨V0, 0, none⟩ = some (.int .i64 nw.1) ∧ v.cell? ⟨V0, 1, none⟩ = some (.int .i64 nw.2.1) ∧ v.cell? ⟨E0, 0, none⟩ = some (.int .i64 et) ∧ v.cell? ⟨E0, 1, none⟩ = some (.int .i64 em) ∧ v.cell? ⟨E0, 2, none⟩ = some (.int .i64 ek) ∧ v.cell? ⟨E0, 3, none⟩ = some (.int .i64 eg) ∧ v.cell? ⟨E0, 4, none⟩ = some (.int .i64 ep) ∧ v.cell? ⟨E0, 5, none⟩ = some (.int .i64 eq) ∧ v.cell? ⟨E0, 6, none⟩ = some (.string ew) ∧ v.cell? ⟨E0, 7, none⟩ = some (.slice Av nv cv)) (fun v => Ext wg v) (by kernel_rfl) (Ext.refl wg).drew (fun _ _ d _ _ h => by cases d <;> exact h) ?_
            intro Q9 HQE HQP
            have HG : ∀ (l : Array Bool) (v : World), Ext wg v → l.getD 12 false = false → v.cell? ⟨X, 0, none⟩ = some (.int .i64 y2.time) ∧ v.cell? ⟨V0, 0, none⟩ = some (.int .i64 nw.1) ∧ v.cell? ⟨V0, 1, none⟩ = some (.int .i64 nw.2.1) ∧ v.cell? ⟨E0, 0, none⟩ = some (.int .i64 et) ∧ v.cell? ⟨E0, 1, none⟩ = some (.int .i64 em) ∧ v.cell? ⟨E0, 2, none⟩ = some (.int .i64 ek) ∧ v.cell? ⟨E0, 3, none⟩ = some (.int .i64 eg) ∧ v.cell? ⟨E0, 4, none⟩ = some (.int .i64 ep) ∧ v.cell? ⟨E0, 5, none⟩ = some (.int .i64 eq) ∧ v.cell? ⟨E0, 6, none⟩ = some (.string ew) ∧ v.cell? ⟨E0, 7, none⟩ = some (.slice Av nv cv) := fun _ v hx _ => HCX.out v hx
            refine g_tk 0 (v := ?_) HG HQP (fun w hS => ?_) ?_
            rotate_left 1
            · go_simp; refine gives_mk ?_ rfl; with_reducible rfl
            refine g_tk 1 (v := ?_) HG HQP (fun w hS => ?_) ?_
            rotate_left 1
            · go_simp; refine gives_mk ?_ rfl; with_reducible rfl
            refine g_tk 2 (v := ?_) HG HQP (fun w hS => ?_) ?_
            rotate_left 1
            · go_simp; refine gives_mk ?_ rfl; with_reducible rfl
            refine g_tk 3 (v := ?_) HG HQP (fun w hS => ?_) ?_
            rotate_left 1
            · go_simp; refine gives_mk ?_ rfl; with_reducible rfl
            refine g_tk 4 (v := ?_) HG HQP (fun w hS => ?_) ?_
            rotate_left 1
            · go_simp; refine gives_mk ?_ rfl; with_reducible rfl
            refine g_tk 5 (v := ?_) HG HQP (fun w hS => ?_) ?_
            rotate_left 1
            · go_simp; refine gives_mk ?_ rfl; with_reducible rfl
            refine g_tk 6 (v := ?_) HG HQP (fun w hS => ?_) ?_
            rotate_left 1
            · go_simp; refine gives_mk ?_ rfl; with_reducible rfl
            refine g_tk 7 (v := ?_) HG HQP (fun w hS => ?_) ?_
            rotate_left 1
            · go_simp; refine gives_mk ?_ rfl; with_reducible rfl
            refine g_tk 8 (v := ?_) HG HQP (fun w hS => ?_) ?_
            rotate_left 1
            · go_simp; refine gives_mk ?_ rfl; with_reducible rfl
            refine g_mid (fun u v => u = .string (why (⟨⟨et, em, ek, eg, ep, eq⟩, ew, .slice Av nv cv⟩ : Le)) ∧ Ext wg v) (k := 9) (by kernel_rfl) (fun _ v hh _ => HCX.out v hh.2) rfl (by kernel_rfl) (fun v hS R hR => ?_) (fun u hu => ?_)
            · have HR := Lib.hid hR
              clear hR
              have HV := Lib.hid hS
              go_simp
              refine givesM_call ((HWY.out (⟨⟨et, em, ek, eg, ep, eq⟩, ew, .slice Av nv cv⟩ : Le) v (HS8.out.ext.trans HV.out)).mono ?_)
              rintro e' v2 ⟨rfl, hx2⟩
              exact ⟨_, rfl, HR.out _ _ ⟨rfl, HV.out.trans hx2⟩⟩
            obtain ⟨_, rfl, -⟩ := hu
            refine g_mid (fun u v => u = .agg #[.int .i64 y2.time, .int .i64 0, .int .i64 nw.1, .int .i64 nw.2.1, .string (why (⟨⟨et, em, ek, eg, ep, eq⟩, ew, .slice Av nv cv⟩ : Le))] ∧ Ext wg v) (k := 10) (by kernel_rfl) (fun _ v hh _ => HCX.out v hh.2) rfl (by kernel_rfl) (fun v hS R hR => ?_) (fun u hu => ?_)
            · have HR := Lib.hid hR
              clear hR
              go_simp
              refine givesM_val (HR.out _ _ ⟨rfl, hS.2⟩)
            obtain ⟨_, rfl, -⟩ := hu
            refine g_mid (fun u v => ∃ v5, u = .slice (some ⟨v5.heap.size, 0, none⟩) 1 1 ∧ v = v5.alloc (.cells (spL (Sp.opn y2.time (why (⟨⟨et, em, ek, eg, ep, eq⟩, ew, .slice Av nv cv⟩ : Le)) nw)).toArray 36) ∧ Ext wg v5) (k := 11) (by kernel_rfl) (fun _ v hh _ => by obtain ⟨v5, _, rfl, hx⟩ := hh; exact HCX.out _ (hx.alloc _)) rfl (by kernel_rfl) (fun v hS R hR => ?_) (fun u hu => ?_)
            · have HR := Lib.hid hR
              clear hR
              go_simp
              refine givesM_val (HR.out _ _ ⟨v, rfl, rfl, hS.2⟩)
            obtain ⟨_, w5, rfl, -, -⟩ := hu
            generalize w5.heap.size = V5
            clear w5
            refine g_mid (fun u v => SpB w v X Y y2 ov u ((done ++ [Sp.close y2.time c]) ++ [Sp.opn y2.time (why (⟨⟨et, em, ek, eg, ep, eq⟩, ew, .slice Av nv cv⟩ : Le)) nw]) ∧ v.heap[V0]? = some (.cells (vwC nw) 46 (0, 0))) (k := 12) (by kernel_rfl) (fun v w _ h0 => by cases h0) rfl (by kernel_rfl) (fun v hS R hR => ?_) (fun u hu => ?_)
            · have HR := Lib.hid hR
              clear hR
              obtain ⟨v5, hV, hv, hx⟩ := hS
              simp only [Value.slice.injEq, Option.some.injEq, Addr.mk.injEq, and_true] at hV
              subst hV hv
              obtain ⟨un, wn, hr1, hs1, hk1⟩ := (HS8.out.more hx).push (Sp.opn y2.time (why (⟨⟨et, em, ek, eg, ep, eq⟩, ew, .slice Av nv cv⟩ : Le)) nw) HLN.out
              refine givesM_append _ _ 27 rfl _ _ (by go_simp) (by go_simp) hr1 ?_
              exact HR.out _ _ ⟨hs1, hk1 _ _ (hx.blk HBVN.out) HUV.out⟩
            obtain ⟨_, hu9, -⟩ := hu
            refine g_end (k := 13) (by kernel_rfl) (by kernel_rfl) (by kernel_rfl) rfl (by kernel_rfl) (fun w9 hS R hR => ?_)
            have HR := Lib.hid hR
            clear hR hu9
            obtain ⟨hs9, hv9⟩ := hS
            have HS9 := Lib.hid hs9
            have HV9 := Lib.hid hv9
            clear hs9 hv9
            have hq9 := HQE.out
            subst hq9
            clear HQE HQP HG HCX
            go_simp
            refine givesM_val (HR.out _ _ ?_)
            go_simp
            have z0 : w9.cell? ⟨V0, 0, none⟩ = some (.int .i64 nw.1) := blk_cell HV9.out 0 _ rfl
            have z1 : w9.cell? ⟨V0, 1, none⟩ = some (.int .i64 nw.2.1) := blk_cell HV9.out 1 _ rfl
            have z2 : w9.cell? ⟨V0, 2, none⟩ = some (.int .i64 nw.2.2) := blk_cell HV9.out 2 _ rfl
            obtain ⟨hth, wf, hwf, hsf⟩ := HS9.out.setY nw
            have HTH := Lib.hid hth
            have HWF := Lib.hid hwf
            have HSF := Lib.hid hsf
            clear hth hwf hsf
            go_wp2_with (refine wpList_store_rowN rfl 46 _ _ rfl Y 0 [.int .i64 nw.1, .int .i64 nw.2.1, .int .i64 nw.2.2] (.agg ([.int .i64 nw.1, .int .i64 nw.2.1, .int .i64 nw.2.2]).toArray) (by go_simp) (by go_simp) rfl HTH.out (by kernel_rfl) (vw_one _ _ _) HWF.out ?_)
            go_roundw
            case rel => exact ⟨k + 1, y2, (done ++ [Sp.close y2.time c]), some (Sp.opn y2.time (why (⟨⟨et, em, ek, eg, ep, eq⟩, ew, .slice Av nv cv⟩ : Le)) nw), by omega, by go_num, by rw [HNB.out], HY2, HGF, by rw [HN2.out]; rfl, by rw [HNV.out]; first | exact HSF.out | simpa using HSF.out, by first | exact HLE.out | simpa using HLE.out⟩
            case measure => simp [intOf]; omega
           | false =>
            have HN2 : Hid (look y2 = none) := Lib.hid (by have h1 := HNB.out; cases h3 : look y2 with
             | none => rfl
             | some v => rw [h3] at h1; cases h1)
            have HGF : Hid (Sp.go look why (es.drop (k + 1)) y2 (look y2) (done ++ [Sp.close y2.time c]) none = r) := Lib.hid (by have := HGN.out; rw [HN2.out] at this ⊢; simpa using this)
            have HLE : Hid ((done ++ [Sp.close y2.time c]).length ≤ k + 1 + 1) := Lib.hid (by have h1 := HNK.out; have h2 := HNN.out; simp; omega)
            have z0 : wg.cell? ⟨V0, 0, none⟩ = some (.int .i64 nw.1) := blk_cell HBVN.out 0 _ rfl
            have z1 : wg.cell? ⟨V0, 1, none⟩ = some (.int .i64 nw.2.1) := blk_cell HBVN.out 1 _ rfl
            have z2 : wg.cell? ⟨V0, 2, none⟩ = some (.int .i64 nw.2.2) := blk_cell HBVN.out 2 _ rfl
            obtain ⟨hth, wf, hwf, hsf⟩ := HS8.out.setY nw
            have HTH := Lib.hid hth
            have HWF := Lib.hid hwf
            have HSF := Lib.hid hsf
            clear hth hwf hsf
            go_wp2_with (refine wpList_store_rowN rfl 46 _ _ rfl Y 0 [.int .i64 nw.1, .int .i64 nw.2.1, .int .i64 nw.2.2] (.agg ([.int .i64 nw.1, .int .i64 nw.2.1, .int .i64 nw.2.2]).toArray) (by go_simp) (by go_simp) rfl HTH.out (by kernel_rfl) (vw_one _ _ _) HWF.out ?_)
            go_roundw
            case rel => exact ⟨k + 1, y2, (done ++ [Sp.close y2.time c]), none, by omega, by go_num, by rw [HNB.out], HY2, HGF, by rw [HN2.out]; rfl, by rw [HNV.out]; first | exact HSF.out | simpa using HSF.out, by first | exact HLE.out | simpa using HLE.out⟩
            case measure => simp [intOf]; omega
        · have hq : ∀ w, (Op.equalIn 10000 46 (.agg #[.int .i64 nw.1, .int .i64 nw.2.1, .int .i64 nw.2.2]) (.agg #[.int .i64 ov.1, .int .i64 ov.2.1, .int .i64 ov.2.2])).run Tryd.prog w = .ok false w := fun w => by
           have := run_eqV nw.1 nw.2.1 nw.2.2 ov.1 ov.2.1 ov.2.2 w
           rw [decide_eq_false (fun h => hv (by simp only [List.cons.injEq, and_true] at h; exact Prod.ext h.1 (Prod.ext h.2.1 h.2.2)))] at this
           exact this
          clear hv
          cases ob with
          | false =>
           obtain rfl : cur = none := by have := HCS.out; cases cur with
            | none => rfl
            | some c => cases this
           have HNB1 : Hid (nb = true) := Lib.hid (by
            cases nb with
            | true => rfl
            | false => exact absurd (by have h1 := HNB.out; have h2 := HOB.out; cases h3 : look y2 with
                | none => cases h4 : look y with
                 | none => rfl
                 | some v => rw [h4] at h2; cases h2
                | some v => rw [h3] at h1; cases h1) HNE.out)
           obtain rfl := HNB1.out
           have HS8 : Hid (SpB w we X Y y2 ov u9 done) := Lib.hid (by simpa using HS7.out)
           have HLN : Hid (done.length ≤ 1000000) := Lib.hid (by have h1 := HDL.out; have h2 := HKL.out; simp at h1; omega)
           have HLE : Hid ((done ++ [Sp.opn y2.time (why (⟨⟨et, em, ek, eg, ep, eq⟩, ew, .slice Av nv cv⟩ : Le)) nw]).length ≤ k + 1 + 1) := Lib.hid (by have h1 := HDL.out; simp at h1 ⊢; omega)
           have HN2 : Hid (look y2 = some nw) := Lib.hid (by have h1 := HNB.out; have h2 := HNV.out; cases h3 : look y2 with
            | none => rw [h3] at h1; cases h1
            | some v => rw [h3] at h2; exact congrArg some h2)
           have HGF : Hid (Sp.go look why (es.drop (k + 1)) y2 (look y2) done (some (Sp.opn y2.time (why (⟨⟨et, em, ek, eg, ep, eq⟩, ew, .slice Av nv cv⟩ : Le)) nw)) = r) := Lib.hid (by have := HGN.out; rw [HN2.out] at this ⊢; simpa using this)
           clear HS7 HNB1
           have HCX : Hid (∀ v, Ext we v → v.cell? ⟨X, 0, none⟩ = some (.int .i64 y2.time) ∧ v.cell? ⟨V0, 0, none⟩ = some (.int .i64 nw.1) ∧ v.cell? ⟨V0, 1, none⟩ = some (.int .i64 nw.2.1) ∧ v.cell? ⟨E0, 0, none⟩ = some (.int .i64 et) ∧ v.cell? ⟨E0, 1, none⟩ = some (.int .i64 em) ∧ v.cell? ⟨E0, 2, none⟩ = some (.int .i64 ek) ∧ v.cell? ⟨E0, 3, none⟩ = some (.int .i64 eg) ∧ v.cell? ⟨E0, 4, none⟩ = some (.int .i64 ep) ∧ v.cell? ⟨E0, 5, none⟩ = some (.int .i64 eq) ∧ v.cell? ⟨E0, 6, none⟩ = some (.string ew) ∧ v.cell? ⟨E0, 7, none⟩ = some (.slice Av nv cv)) := Lib.hid fun v hv => by
            obtain ⟨A8, c8, D8, d8, hb8, -⟩ := (HS8.out.more hv).snap
            have hbe := hv.blk HBEN.out
            exact ⟨blk_cell hb8 0 _ rfl, blk_cell (hv.blk HBVN.out) 0 _ rfl, blk_cell (hv.blk HBVN.out) 1 _ rfl, blk_cell hbe 0 _ rfl, blk_cell hbe 1 _ rfl, blk_cell hbe 2 _ rfl, blk_cell hbe 3 _ rfl, blk_cell hbe 4 _ rfl, blk_cell hbe 5 _ rfl, blk_cell hbe 6 _ rfl, blk_cell hbe 7 _ rfl⟩
           go_wp2_with fail
           refine region_gq 12 (fun v => v.cell? ⟨X, 0, none⟩ = some (.int .i64 y2.time) ∧ v.cell? ⟨V0, 0, none⟩ = some (.int .i64 nw.1) ∧ v.cell? ⟨V0, 1, none⟩ = some (.int .i64 nw.2.1) ∧ v.cell? ⟨E0, 0, none⟩ = some (.int .i64 et) ∧ v.cell? ⟨E0, 1, none⟩ = some (.int .i64 em) ∧ v.cell? ⟨E0, 2, none⟩ = some (.int .i64 ek) ∧ v.cell? ⟨E0, 3, none⟩ = some (.int .i64 eg) ∧ v.cell? ⟨E0, 4, none⟩ = some (.int .i64 ep) ∧ v.cell? ⟨E0, 5, none⟩ = some (.int .i64 eq) ∧ v.cell? ⟨E0, 6, none⟩ = some (.string ew) ∧ v.cell? ⟨E0, 7, none⟩ = some (.slice Av nv cv)) (fun v => Ext we v) (by kernel_rfl) (Ext.refl we).drew (fun _ _ d _ _ h => by cases d <;> exact h) ?_
           intro Q9 HQE HQP
           have HG : ∀ (l : Array Bool) (v : World), Ext we v → l.getD 12 false = false → v.cell? ⟨X, 0, none⟩ = some (.int .i64 y2.time) ∧ v.cell? ⟨V0, 0, none⟩ = some (.int .i64 nw.1) ∧ v.cell? ⟨V0, 1, none⟩ = some (.int .i64 nw.2.1) ∧ v.cell? ⟨E0, 0, none⟩ = some (.int .i64 et) ∧ v.cell? ⟨E0, 1, none⟩ = some (.int .i64 em) ∧ v.cell? ⟨E0, 2, none⟩ = some (.int .i64 ek) ∧ v.cell? ⟨E0, 3, none⟩ = some (.int .i64 eg) ∧ v.cell? ⟨E0, 4, none⟩ = some (.int .i64 ep) ∧ v.cell? ⟨E0, 5, none⟩ = some (.int .i64 eq) ∧ v.cell? ⟨E0, 6, none⟩ = some (.string ew) ∧ v.cell? ⟨E0, 7, none⟩ = some (.slice Av nv cv) := fun _ v hx _ => HCX.out v hx
           refine g_tk 0 (v := ?_) HG HQP (fun w hS => ?_) ?_
           rotate_left 1
           · go_simp; refine gives_mk ?_ rfl; with_reducible rfl
           refine g_tk 1 (v := ?_) HG HQP (fun w hS => ?_) ?_
           rotate_left 1
           · go_simp; refine gives_mk ?_ rfl; with_reducible rfl
           refine g_tk 2 (v := ?_) HG HQP (fun w hS => ?_) ?_
           rotate_left 1
           · go_simp; refine gives_mk ?_ rfl; with_reducible rfl
           refine g_tk 3 (v := ?_) HG HQP (fun w hS => ?_) ?_
           rotate_left 1
           · go_simp; refine gives_mk ?_ rfl; with_reducible rfl
           refine g_tk 4 (v := ?_) HG HQP (fun w hS => ?_) ?_
           rotate_left 1
           · go_simp; refine gives_mk ?_ rfl; with_reducible rfl
           refine g_tk 5 (v := ?_) HG HQP (fun w hS => ?_) ?_
           rotate_left 1
           · go_simp; refine gives_mk ?_ rfl; with_reducible rfl
           refine g_tk 6 (v := ?_) HG HQP (fun w hS => ?_) ?_
           rotate_left 1
           · go_simp; refine gives_mk ?_ rfl; with_reducible rfl
           refine g_tk 7 (v := ?_) HG HQP (fun w hS => ?_) ?_
           rotate_left 1
           · go_simp; refine gives_mk ?_ rfl; with_reducible rfl
           refine g_tk 8 (v := ?_) HG HQP (fun w hS => ?_) ?_
           rotate_left 1
           · go_simp; refine gives_mk ?_ rfl; with_reducible rfl
           refine g_mid (fun u v => u = .string (why (⟨⟨et, em, ek, eg, ep, eq⟩, ew, .slice Av nv cv⟩ : Le)) ∧ Ext we v) (k := 9) (by kernel_rfl) (fun _ v hh _ => HCX.out v hh.2) rfl (by kernel_rfl) (fun v hS R hR => ?_) (fun u hu => ?_)
           · have HR := Lib.hid hR
             clear hR
             have HV := Lib.hid hS
             go_simp
             refine givesM_call ((HWY.out (⟨⟨et, em, ek, eg, ep, eq⟩, ew, .slice Av nv cv⟩ : Le) v (HS8.out.ext.trans HV.out)).mono ?_)
             rintro e' v2 ⟨rfl, hx2⟩
             exact ⟨_, rfl, HR.out _ _ ⟨rfl, HV.out.trans hx2⟩⟩
           obtain ⟨_, rfl, -⟩ := hu
           refine g_mid (fun u v => u = .agg #[.int .i64 y2.time, .int .i64 0, .int .i64 nw.1, .int .i64 nw.2.1, .string (why (⟨⟨et, em, ek, eg, ep, eq⟩, ew, .slice Av nv cv⟩ : Le))] ∧ Ext we v) (k := 10) (by kernel_rfl) (fun _ v hh _ => HCX.out v hh.2) rfl (by kernel_rfl) (fun v hS R hR => ?_) (fun u hu => ?_)
           · have HR := Lib.hid hR
             clear hR
             go_simp
             refine givesM_val (HR.out _ _ ⟨rfl, hS.2⟩)
           obtain ⟨_, rfl, -⟩ := hu
           refine g_mid (fun u v => ∃ v5, u = .slice (some ⟨v5.heap.size, 0, none⟩) 1 1 ∧ v = v5.alloc (.cells (spL (Sp.opn y2.time (why (⟨⟨et, em, ek, eg, ep, eq⟩, ew, .slice Av nv cv⟩ : Le)) nw)).toArray 36) ∧ Ext we v5) (k := 11) (by kernel_rfl) (fun _ v hh _ => by obtain ⟨v5, _, rfl, hx⟩ := hh; exact HCX.out _ (hx.alloc _)) rfl (by kernel_rfl) (fun v hS R hR => ?_) (fun u hu => ?_)
           · have HR := Lib.hid hR
             clear hR
             go_simp
             refine givesM_val (HR.out _ _ ⟨v, rfl, rfl, hS.2⟩)
           obtain ⟨_, w5, rfl, -, -⟩ := hu
           generalize w5.heap.size = V5
           clear w5
           refine g_mid (fun u v => SpB w v X Y y2 ov u (done ++ [Sp.opn y2.time (why (⟨⟨et, em, ek, eg, ep, eq⟩, ew, .slice Av nv cv⟩ : Le)) nw]) ∧ v.heap[V0]? = some (.cells (vwC nw) 46 (0, 0))) (k := 12) (by kernel_rfl) (fun v w _ h0 => by cases h0) rfl (by kernel_rfl) (fun v hS R hR => ?_) (fun u hu => ?_)
           · have HR := Lib.hid hR
             clear hR
             obtain ⟨v5, hV, hv, hx⟩ := hS
             simp only [Value.slice.injEq, Option.some.injEq, Addr.mk.injEq, and_true] at hV
             subst hV hv
             obtain ⟨un, wn, hr1, hs1, hk1⟩ := (HS8.out.more hx).push (Sp.opn y2.time (why (⟨⟨et, em, ek, eg, ep, eq⟩, ew, .slice Av nv cv⟩ : Le)) nw) HLN.out
             refine givesM_append _ _ 27 rfl _ _ (by go_simp) (by go_simp) hr1 ?_
             exact HR.out _ _ ⟨hs1, hk1 _ _ (hx.blk HBVN.out) HUV.out⟩
           obtain ⟨_, hu9, -⟩ := hu
           refine g_end (k := 13) (by kernel_rfl) (by kernel_rfl) (by kernel_rfl) rfl (by kernel_rfl) (fun w9 hS R hR => ?_)
           have HR := Lib.hid hR
           clear hR hu9
           obtain ⟨hs9, hv9⟩ := hS
           have HS9 := Lib.hid hs9
           have HV9 := Lib.hid hv9
           clear hs9 hv9
           have hq9 := HQE.out
           subst hq9
           clear HQE HQP HG HCX
           go_simp
           refine givesM_val (HR.out _ _ ?_)
           go_simp
           have z0 : w9.cell? ⟨V0, 0, none⟩ = some (.int .i64 nw.1) := blk_cell HV9.out 0 _ rfl
           have z1 : w9.cell? ⟨V0, 1, none⟩ = some (.int .i64 nw.2.1) := blk_cell HV9.out 1 _ rfl
           have z2 : w9.cell? ⟨V0, 2, none⟩ = some (.int .i64 nw.2.2) := blk_cell HV9.out 2 _ rfl
           obtain ⟨hth, wf, hwf, hsf⟩ := HS9.out.setY nw
           have HTH := Lib.hid hth
           have HWF := Lib.hid hwf
           have HSF := Lib.hid hsf
           clear hth hwf hsf
           go_wp2_with (refine wpList_store_rowN rfl 46 _ _ rfl Y 0 [.int .i64 nw.1, .int .i64 nw.2.1, .int .i64 nw.2.2] (.agg ([.int .i64 nw.1, .int .i64 nw.2.1, .int .i64 nw.2.2]).toArray) (by go_simp) (by go_simp) rfl HTH.out (by kernel_rfl) (vw_one _ _ _) HWF.out ?_)
           go_roundw
           case rel => exact ⟨k + 1, y2, done, some (Sp.opn y2.time (why (⟨⟨et, em, ek, eg, ep, eq⟩, ew, .slice Av nv cv⟩ : Le)) nw), by omega, by go_num, by rw [HNB.out], HY2, HGF, by rw [HN2.out]; rfl, by rw [HNV.out]; first | exact HSF.out | simpa using HSF.out, by first | exact HLE.out | simpa using HLE.out⟩
           case measure => simp [intOf]; omega
          | true =>
           obtain ⟨c, rfl⟩ : ∃ c, cur = some c := by have := HCS.out; cases cur with
            | none => cases this
            | some c => exact ⟨c, rfl⟩
           obtain ⟨g, cg, hu, hgl, hcell, hfz, hse⟩ := SpB.ends (done := done) (s := c) HS7.out y2.time
           have hgE : g < E0 := HUE.out g (by rw [hu]; rfl)
           subst hu
           obtain ⟨n, hn⟩ : ∃ n, done.length = n := ⟨_, rfl⟩
           rw [hn] at hcell hfz hse ⊢
           have HNN := Lib.hid hn
           obtain ⟨wg, hwg⟩ : ∃ wg, we.setCell ⟨g, n * 5 + 1, none⟩ (.int .i64 y2.time) = wg := ⟨_, rfl⟩
           have hup : Upd g we wg := by rw [← hwg]; exact (Upd.refl _ _).set _ _
           rw [hwg] at hse
           have HS8 := Lib.hid hse
           have HWG := Lib.hid hwg
           have HBVM := Lib.hid (hup.blk HBVN.out (by have := HVS.out; have := HE3.out; omega))
           have HBEM := Lib.hid (hup.blk HBEN.out (by omega))
           obtain ⟨A8, c8, D8, d8, hb8, -⟩ := HS7.out.snap
           have q0 := blk_cell hb8 0 _ rfl
           have en : (n : Int) + 1 - 1 = (n : Int) := by omega
           have hnk : (n : Int) ≤ 1001 := by have h1 := HDL.out; have h2 := HKL.out; simp at h1; omega
           have HNK : Hid (n ≤ k) := Lib.hid (by have h1 := HDL.out; simp at h1; omega)
           have HLN : Hid ((done ++ [Sp.close y2.time c]).length ≤ 1000000) := Lib.hid (by simp; omega)
           clear hgl hse hwg hup hb8 hgE hn HBVN HBEN
           have HBVN := HBVM
           have HBEN := HBEM
           go_upto_region 18 with fail
           rw [HWG.out]
           clear hcell hfz q0 z0 z1 z2 y0 y1 y2' HS7 HWG HBVM HBEM
           cases nb with
           | true =>
            have HN2 : Hid (look y2 = some nw) := Lib.hid (by have h1 := HNB.out; have h2 := HNV.out; cases h3 : look y2 with
             | none => rw [h3] at h1; cases h1
             | some v => rw [h3] at h2; exact congrArg some h2)
            have HGF : Hid (Sp.go look why (es.drop (k + 1)) y2 (look y2) (done ++ [Sp.close y2.time c]) (some (Sp.opn y2.time (why (⟨⟨et, em, ek, eg, ep, eq⟩, ew, .slice Av nv cv⟩ : Le)) nw)) = r) := Lib.hid (by have := HGN.out; rw [HN2.out] at this ⊢; simpa using this)
            have HLE : Hid ((done ++ [Sp.close y2.time c] ++ [Sp.opn y2.time (why (⟨⟨et, em, ek, eg, ep, eq⟩, ew, .slice Av nv cv⟩ : Le)) nw]).length ≤ k + 1 + 1) := Lib.hid (by have h1 := HNK.out; have h2 := HNN.out; simp; omega)
            have HCX : Hid (∀ v, Ext wg v → v.cell? ⟨X, 0, none⟩ = some (.int .i64 y2.time) ∧ v.cell? ⟨V0, 0, none⟩ = some (.int .i64 nw.1) ∧ v.cell? ⟨V0, 1, none⟩ = some (.int .i64 nw.2.1) ∧ v.cell? ⟨E0, 0, none⟩ = some (.int .i64 et) ∧ v.cell? ⟨E0, 1, none⟩ = some (.int .i64 em) ∧ v.cell? ⟨E0, 2, none⟩ = some (.int .i64 ek) ∧ v.cell? ⟨E0, 3, none⟩ = some (.int .i64 eg) ∧ v.cell? ⟨E0, 4, none⟩ = some (.int .i64 ep) ∧ v.cell? ⟨E0, 5, none⟩ = some (.int .i64 eq) ∧ v.cell? ⟨E0, 6, none⟩ = some (.string ew) ∧ v.cell? ⟨E0, 7, none⟩ = some (.slice Av nv cv)) := Lib.hid fun v hv => by
             obtain ⟨A8, c8, D8, d8, hb8, -⟩ := (HS8.out.more hv).snap
             have hbe := hv.blk HBEN.out
             exact ⟨blk_cell hb8 0 _ rfl, blk_cell (hv.blk HBVN.out) 0 _ rfl, blk_cell (hv.blk HBVN.out) 1 _ rfl, blk_cell hbe 0 _ rfl, blk_cell hbe 1 _ rfl, blk_cell hbe 2 _ rfl, blk_cell hbe 3 _ rfl, blk_cell hbe 4 _ rfl, blk_cell hbe 5 _ rfl, blk_cell hbe 6 _ rfl, blk_cell hbe 7 _ rfl⟩
            go_wp2_with fail
            refine region_gq 12 (fun v => v.cell? ⟨X, 0, none⟩ = some (.int .i64 y2.time) ∧ v.cell? ⟨V0, 0, none⟩ = some (.int .i64 nw.1) ∧ v.cell? ⟨V0, 1, none⟩ = some (.int .i64 nw.2.1) ∧ v.cell? ⟨E0, 0, none⟩ = some (.int .i64 et) ∧ v.cell? ⟨E0, 1, none⟩ = some (.int .i64 em) ∧ v.cell? ⟨E0, 2, none⟩ = some (.int .i64 ek) ∧ v.cell? ⟨E0, 3, none⟩ = some (.int .i64 eg) ∧ v.cell? ⟨E0, 4, none⟩ = some (.int .i64 ep) ∧ v.cell? ⟨E0, 5, none⟩ = some (.int .i64 eq) ∧ v.cell? ⟨E0, 6, none⟩ = some (.string ew) ∧ v.cell? ⟨E0, 7, none⟩ = some (.slice Av nv cv)) (fun v => Ext wg v) (by kernel_rfl) (Ext.refl wg).drew (fun _ _ d _ _ h => by cases d <;> exact h) ?_
            intro Q9 HQE HQP
            have HG : ∀ (l : Array Bool) (v : World), Ext wg v → l.getD 12 false = false → v.cell? ⟨X, 0, none⟩ = some (.int .i64 y2.time) ∧ v.cell? ⟨V0, 0, none⟩ = some (.int .i64 nw.1) ∧ v.cell? ⟨V0, 1, none⟩ = some (.int .i64 nw.2.1) ∧ v.cell? ⟨E0, 0, none⟩ = some (.int .i64 et) ∧ v.cell? ⟨E0, 1, none⟩ = some (.int .i64 em) ∧ v.cell? ⟨E0, 2, none⟩ = some (.int .i64 ek) ∧ v.cell? ⟨E0, 3, none⟩ = some (.int .i64 eg) ∧ v.cell? ⟨E0, 4, none⟩ = some (.int .i64 ep) ∧ v.cell? ⟨E0, 5, none⟩ = some (.int .i64 eq) ∧ v.cell? ⟨E0, 6, none⟩ = some (.string ew) ∧ v.cell? ⟨E0, 7, none⟩ = some (.slice Av nv cv) := fun _ v hx _ => HCX.out v hx
            refine g_tk 0 (v := ?_) HG HQP (fun w hS => ?_) ?_
            rotate_left 1
            · go_simp; refine gives_mk ?_ rfl; with_reducible rfl
            refine g_tk 1 (v := ?_) HG HQP (fun w hS => ?_) ?_
            rotate_left 1
            · go_simp; refine gives_mk ?_ rfl; with_reducible rfl
            refine g_tk 2 (v := ?_) HG HQP (fun w hS => ?_) ?_
            rotate_left 1
            · go_simp; refine gives_mk ?_ rfl; with_reducible rfl
            refine g_tk 3 (v := ?_) HG HQP (fun w hS => ?_) ?_
            rotate_left 1
            · go_simp; refine gives_mk ?_ rfl; with_reducible rfl
            refine g_tk 4 (v := ?_) HG HQP (fun w hS => ?_) ?_
            rotate_left 1
            · go_simp; refine gives_mk ?_ rfl; with_reducible rfl
            refine g_tk 5 (v := ?_) HG HQP (fun w hS => ?_) ?_
            rotate_left 1
            · go_simp; refine gives_mk ?_ rfl; with_reducible rfl
            refine g_tk 6 (v := ?_) HG HQP (fun w hS => ?_) ?_
            rotate_left 1
            · go_simp; refine gives_mk ?_ rfl; with_reducible rfl
            refine g_tk 7 (v := ?_) HG HQP (fun w hS => ?_) ?_
            rotate_left 1
            · go_simp; refine gives_mk ?_ rfl; with_reducible rfl
            refine g_tk 8 (v := ?_) HG HQP (fun w hS => ?_) ?_
            rotate_left 1
            · go_simp; refine gives_mk ?_ rfl; with_reducible rfl
            refine g_mid (fun u v => u = .string (why (⟨⟨et, em, ek, eg, ep, eq⟩, ew, .slice Av nv cv⟩ : Le)) ∧ Ext wg v) (k := 9) (by kernel_rfl) (fun _ v hh _ => HCX.out v hh.2) rfl (by kernel_rfl) (fun v hS R hR => ?_) (fun u hu => ?_)
            · have HR := Lib.hid hR
              clear hR
              have HV := Lib.hid hS
              go_simp
              refine givesM_call ((HWY.out (⟨⟨et, em, ek, eg, ep, eq⟩, ew, .slice Av nv cv⟩ : Le) v (HS8.out.ext.trans HV.out)).mono ?_)
              rintro e' v2 ⟨rfl, hx2⟩
              exact ⟨_, rfl, HR.out _ _ ⟨rfl, HV.out.trans hx2⟩⟩
            obtain ⟨_, rfl, -⟩ := hu
            refine g_mid (fun u v => u = .agg #[.int .i64 y2.time, .int .i64 0, .int .i64 nw.1, .int .i64 nw.2.1, .string (why (⟨⟨et, em, ek, eg, ep, eq⟩, ew, .slice Av nv cv⟩ : Le))] ∧ Ext wg v) (k := 10) (by kernel_rfl) (fun _ v hh _ => HCX.out v hh.2) rfl (by kernel_rfl) (fun v hS R hR => ?_) (fun u hu => ?_)
            · have HR := Lib.hid hR
              clear hR
              go_simp
              refine givesM_val (HR.out _ _ ⟨rfl, hS.2⟩)
            obtain ⟨_, rfl, -⟩ := hu
            refine g_mid (fun u v => ∃ v5, u = .slice (some ⟨v5.heap.size, 0, none⟩) 1 1 ∧ v = v5.alloc (.cells (spL (Sp.opn y2.time (why (⟨⟨et, em, ek, eg, ep, eq⟩, ew, .slice Av nv cv⟩ : Le)) nw)).toArray 36) ∧ Ext wg v5) (k := 11) (by kernel_rfl) (fun _ v hh _ => by obtain ⟨v5, _, rfl, hx⟩ := hh; exact HCX.out _ (hx.alloc _)) rfl (by kernel_rfl) (fun v hS R hR => ?_) (fun u hu => ?_)
            · have HR := Lib.hid hR
              clear hR
              go_simp
              refine givesM_val (HR.out _ _ ⟨v, rfl, rfl, hS.2⟩)
            obtain ⟨_, w5, rfl, -, -⟩ := hu
            generalize w5.heap.size = V5
            clear w5
            refine g_mid (fun u v => SpB w v X Y y2 ov u ((done ++ [Sp.close y2.time c]) ++ [Sp.opn y2.time (why (⟨⟨et, em, ek, eg, ep, eq⟩, ew, .slice Av nv cv⟩ : Le)) nw]) ∧ v.heap[V0]? = some (.cells (vwC nw) 46 (0, 0))) (k := 12) (by kernel_rfl) (fun v w _ h0 => by cases h0) rfl (by kernel_rfl) (fun v hS R hR => ?_) (fun u hu => ?_)
            · have HR := Lib.hid hR
              clear hR
              obtain ⟨v5, hV, hv, hx⟩ := hS
              simp only [Value.slice.injEq, Option.some.injEq, Addr.mk.injEq, and_true] at hV
              subst hV hv
              obtain ⟨un, wn, hr1, hs1, hk1⟩ := (HS8.out.more hx).push (Sp.opn y2.time (why (⟨⟨et, em, ek, eg, ep, eq⟩, ew, .slice Av nv cv⟩ : Le)) nw) HLN.out
              refine givesM_append _ _ 27 rfl _ _ (by go_simp) (by go_simp) hr1 ?_
              exact HR.out _ _ ⟨hs1, hk1 _ _ (hx.blk HBVN.out) HUV.out⟩
            obtain ⟨_, hu9, -⟩ := hu
            refine g_end (k := 13) (by kernel_rfl) (by kernel_rfl) (by kernel_rfl) rfl (by kernel_rfl) (fun w9 hS R hR => ?_)
            have HR := Lib.hid hR
            clear hR hu9
            obtain ⟨hs9, hv9⟩ := hS
            have HS9 := Lib.hid hs9
            have HV9 := Lib.hid hv9
            clear hs9 hv9
            have hq9 := HQE.out
            subst hq9
            clear HQE HQP HG HCX
            go_simp
            refine givesM_val (HR.out _ _ ?_)
            go_simp
            have z0 : w9.cell? ⟨V0, 0, none⟩ = some (.int .i64 nw.1) := blk_cell HV9.out 0 _ rfl
            have z1 : w9.cell? ⟨V0, 1, none⟩ = some (.int .i64 nw.2.1) := blk_cell HV9.out 1 _ rfl
            have z2 : w9.cell? ⟨V0, 2, none⟩ = some (.int .i64 nw.2.2) := blk_cell HV9.out 2 _ rfl
            obtain ⟨hth, wf, hwf, hsf⟩ := HS9.out.setY nw
            have HTH := Lib.hid hth
            have HWF := Lib.hid hwf
            have HSF := Lib.hid hsf
            clear hth hwf hsf
            go_wp2_with (refine wpList_store_rowN rfl 46 _ _ rfl Y 0 [.int .i64 nw.1, .int .i64 nw.2.1, .int .i64 nw.2.2] (.agg ([.int .i64 nw.1, .int .i64 nw.2.1, .int .i64 nw.2.2]).toArray) (by go_simp) (by go_simp) rfl HTH.out (by kernel_rfl) (vw_one _ _ _) HWF.out ?_)
            go_roundw
            case rel => exact ⟨k + 1, y2, (done ++ [Sp.close y2.time c]), some (Sp.opn y2.time (why (⟨⟨et, em, ek, eg, ep, eq⟩, ew, .slice Av nv cv⟩ : Le)) nw), by omega, by go_num, by rw [HNB.out], HY2, HGF, by rw [HN2.out]; rfl, by rw [HNV.out]; first | exact HSF.out | simpa using HSF.out, by first | exact HLE.out | simpa using HLE.out⟩
            case measure => simp [intOf]; omega
           | false =>
            have HN2 : Hid (look y2 = none) := Lib.hid (by have h1 := HNB.out; cases h3 : look y2 with
             | none => rfl
             | some v => rw [h3] at h1; cases h1)
            have HGF : Hid (Sp.go look why (es.drop (k + 1)) y2 (look y2) (done ++ [Sp.close y2.time c]) none = r) := Lib.hid (by have := HGN.out; rw [HN2.out] at this ⊢; simpa using this)
            have HLE : Hid ((done ++ [Sp.close y2.time c]).length ≤ k + 1 + 1) := Lib.hid (by have h1 := HNK.out; have h2 := HNN.out; simp; omega)
            have z0 : wg.cell? ⟨V0, 0, none⟩ = some (.int .i64 nw.1) := blk_cell HBVN.out 0 _ rfl
            have z1 : wg.cell? ⟨V0, 1, none⟩ = some (.int .i64 nw.2.1) := blk_cell HBVN.out 1 _ rfl
            have z2 : wg.cell? ⟨V0, 2, none⟩ = some (.int .i64 nw.2.2) := blk_cell HBVN.out 2 _ rfl
            obtain ⟨hth, wf, hwf, hsf⟩ := HS8.out.setY nw
            have HTH := Lib.hid hth
            have HWF := Lib.hid hwf
            have HSF := Lib.hid hsf
            clear hth hwf hsf
            go_wp2_with (refine wpList_store_rowN rfl 46 _ _ rfl Y 0 [.int .i64 nw.1, .int .i64 nw.2.1, .int .i64 nw.2.2] (.agg ([.int .i64 nw.1, .int .i64 nw.2.1, .int .i64 nw.2.2]).toArray) (by go_simp) (by go_simp) rfl HTH.out (by kernel_rfl) (vw_one _ _ _) HWF.out ?_)
            go_roundw
            case rel => exact ⟨k + 1, y2, (done ++ [Sp.close y2.time c]), none, by omega, by go_num, by rw [HNB.out], HY2, HGF, by rw [HN2.out]; rfl, by rw [HNV.out]; first | exact HSF.out | simpa using HSF.out, by first | exact HLE.out | simpa using HLE.out⟩
            case measure => simp [intOf]; omega
   · obtain rfl : k = es.length := by omega
     have HFIN : Hid (done ++ (cur.map (Sp.close y.time)).toList = r) := Lib.hid (by have := HGO.out; rw [List.drop_length] at this; unfold Sp.go at this; exact this)
     clear hk hlt
     cases ob with
     | false =>
      obtain rfl : cur = none := by have := HCS.out; cases cur with
       | none => rfl
       | some c => cases this
      have HRW : Hid (RowsAt 5 spL wr u9 r) := Lib.hid (by have := HS1.out.own.rows spL_len; rw [← HFIN.out]; simpa using this)
      go_wp2
      go_ret
      exact ⟨_, rfl, HRW.out, HS1.out.ext⟩
     | true =>
      obtain ⟨c, rfl⟩ : ∃ c, cur = some c := by have := HCS.out; cases cur with
       | none => cases this
       | some c => exact ⟨c, rfl⟩
      obtain ⟨g, cg, hu, hgl, hcell, hfz, hse⟩ := SpB.ends (done := done) (s := c) HS1.out y.time
      obtain ⟨A8, c8, D8, d8, hb8, -⟩ := HS1.out.snap
      have q0 := blk_cell hb8 0 _ rfl
      subst hu
      obtain ⟨n, hn⟩ : ∃ n, done.length = n := ⟨_, rfl⟩
      rw [hn] at hcell hfz hse ⊢
      obtain ⟨wg, hwg⟩ : ∃ wg, wr.setCell ⟨g, n * 5 + 1, none⟩ (.int .i64 y.time) = wg := ⟨_, rfl⟩
      rw [hwg] at hse
      have HSE := Lib.hid hse
      have HWG := Lib.hid hwg
      have HRW : Hid (RowsAt 5 spL wg (.slice (some ⟨g, 0, none⟩) (n + 1) cg) r) := Lib.hid (by have := hse.own.rows spL_len; rw [← HFIN.out]; simpa using this)
      have en : (n : Int) + 1 - 1 = (n : Int) := by omega
      have hnk : (n : Int) ≤ 1001 := by have h1 := HDL.out; simp at h1; omega
      clear hgl hse hwg hb8 hn
      go_upto_region 24 with fail
      rw [HWG.out]
      clear hcell hfz q0
      go_wp2
      go_ret
      exact ⟨_, rfl, HRW.out, HSE.out.ext⟩
 | true =>
  have HN0 : Hid (look x = some v0) := Lib.hid (by have h1 := HB0.out; have h2 := HV0.out; cases h : look x with
   | none => rw [h] at h1; cases h1
   | some v => rw [h] at h2; exact congrArg some h2)
  obtain ⟨A6, c6, D6, d6, hbx, -⟩ := HS0.out.snap
  have q0 := blk_cell hbx 0 _ rfl
  have y0 : wy.cell? ⟨Y, 0, none⟩ = some (.int .i64 v0.1) := blk_cell HS0.out.ybox 0 _ rfl
  have y1 : wy.cell? ⟨Y, 1, none⟩ = some (.int .i64 v0.2.1) := blk_cell HS0.out.ybox 1 _ rfl
  clear hbx
  generalize hu0 : Value.slice none 0 0 = u0 at HS0 ⊢
  have HU0 := Lib.hid hu0
  clear hu0
  obtain ⟨un, wn, hr1, hs1, -⟩ := HS0.out.push (Sp.opn x.time ByteArray.empty v0) (by simp)
  have HR1 := Lib.hid hr1
  have HS1 := Lib.hid hs1
  clear hr1 hs1
  go_wp2_with (at_builtin; refine wpList_append_run rfl _ _ 27 rfl _ _ rfl rfl HR1.out ?_)
  have hu0 := HU0.out
  subst hu0
  clear HU0
  go_loopw [9, 11, 40] (fun uv tv iv wr => ∃ (k : Nat) (y : Sn) (done : List Sp) (cur : Option Sp), k ≤ es.length ∧ iv = .int .i64 k ∧ tv = .bool (look y).isSome ∧ Hid (y.may = true) ∧ Hid (Sp.go look why (es.drop k) y (look y) done cur = r) ∧ cur.isSome = (look y).isSome ∧ SpB w wr X Y y ((look y).getD (0, 0, 0)) uv (done ++ cur.toList) ∧ (done ++ cur.toList).length ≤ k + 1) (fun _ _ iv _ => es.length - (intOf iv).toNat)
  case atStart => exact ⟨0, x, [], some (Sp.opn x.time ByteArray.empty v0), by omega, rfl, by rw [HN0.out]; rfl, Lib.hid HMY.out, Lib.hid (by have := HRG.out; rw [HN0.out] at this ⊢; exact this), by rw [HN0.out]; rfl, by rw [HV0.out]; exact HS1.out, by simp⟩
  case round =>
   obtain ⟨k, y, done, cur, hk, rfl, rfl, HYM, HGO, hcs, hsb, hdl⟩ := hrel
   have HS1 := Lib.hid hsb
   have HCS := Lib.hid hcs
   have HDL := Lib.hid hdl
   clear hsb hcs hdl
   obtain ⟨ov, hov⟩ : ∃ ov, (look y).getD (0, 0, 0) = ov := ⟨_, rfl⟩
   obtain ⟨ob, hob⟩ : ∃ ob, (look y).isSome = ob := ⟨_, rfl⟩
   rw [hov] at HS1
   rw [hob] at HCS
   rw [hob]
   have HOV := Lib.hid hov
   have HOB := Lib.hid hob
   clear hov hob
   by_cases hlt : k < es.length
   · obtain ⟨e, he⟩ : ∃ e, es[k]? = some e := ⟨_, List.getElem?_eq_getElem hlt⟩
     have HD := Lib.hid (drop_cons he)
     have HST := Lib.hid (HE.out e (List.mem_of_getElem? he))
     obtain ⟨b, o, hB, hb, hc⟩ := (HLL.out.ext HS1.out.ext).get he
     subst hB
     obtain ⟨⟨et, em, ek, eg, ep, eq⟩, ew, ev⟩ := e
     have k0 := hc 0 _ rfl
     have k1 := hc 1 _ rfl
     have k2 := hc 2 _ rfl
     have k3 := hc 3 _ rfl
     have k4 := hc 4 _ rfl
     have k5 := hc 5 _ rfl
     have k6 := hc 6 _ rfl
     have k7 := hc 7 _ rfl
     rw [Nat.add_zero] at k0
     obtain ⟨Av, nv, cv, hev⟩ := HST.out
     dsimp only at hev
     subst hev
     dsimp only at k0 k1 k2 k3 k4 k5 k6 k7
     clear HST
     clear he hb hc
     go_upto_region 10 with fail
     obtain ⟨w3, hw3⟩ : ∃ w3, wr.alloc (.cells #[.int .i64 et, .int .i64 em, .int .i64 ek, .int .i64 eg, .int .i64 ep, .int .i64 eq, .string ew, .slice Av nv cv] 34) = w3 := ⟨_, rfl⟩
     have hx3 : Ext wr w3 := by rw [← hw3]; exact (Ext.refl _).alloc _
     have HBE : Hid (w3.heap[wr.heap.size]? = some (.cells #[.int .i64 et, .int .i64 em, .int .i64 ek, .int .i64 eg, .int .i64 ep, .int .i64 eq, .string ew, .slice Av nv cv] 34 (0, 0))) := Lib.hid (by rw [← hw3]; exact blk_new wr _)
     rw [hw3]
     obtain ⟨E0, hE0⟩ : ∃ E0, wr.heap.size = E0 := ⟨_, rfl⟩
     rw [hE0] at HBE ⊢
     have HS3 := Lib.hid (HS1.out.more hx3)
     have HUE : Hid (∀ k, u9.ownBlock = some k → k < E0) := Lib.hid fun k hk => by rw [← hE0]; exact (HS1.out.own.lt k hk).2
     have HXE : Hid (X < E0) := Lib.hid (by rw [← hE0]; obtain ⟨_, _, _, _, h, _⟩ := HS1.out.snap; exact blk_lt h)
     have HE3 : Hid (E0 < w3.heap.size) := Lib.hid (by rw [← hE0] at HBE ⊢; exact blk_lt HBE.out)
     clear hw3 hx3 hE0 k0 k1 k2 k3 k4 k5 k6 k7 HS1
     obtain ⟨A6, c6, D6, d6, hbx, hsn⟩ := HS3.out.snap
     have HBX3 := Lib.hid hbx
     have HSN3 := Lib.hid hsn
     clear hbx hsn
     go_wp2_with (first | (refine wpList_load_rowW rfl 25 _ rfl X rfl [.int .i64 y.time, .slice A6 y.ps.length c6, .slice D6 y.gs.length d6] (.agg #[.int .i64 y.time, .slice A6 y.ps.length c6, .slice D6 y.gs.length d6]) rfl _ (range_row HBX3.out) Tryd.underlying25 rfl (by kernel_rfl) ?_) | (refine wpList_load_rowW rfl 34 _ rfl E0 rfl [.int .i64 et, .int .i64 em, .int .i64 ek, .int .i64 eg, .int .i64 ep, .int .i64 eq, .string ew, .slice Av nv cv] (.agg #[.int .i64 et, .int .i64 em, .int .i64 ek, .int .i64 eg, .int .i64 ep, .int .i64 eq, .string ew, .slice Av nv cv]) rfl _ (range_row HBE.out) Tryd.underlying34 rfl (by kernel_rfl) ?_))
     obtain ⟨oa, hoa⟩ : ∃ oa, Md.app y ⟨et, em, ek, eg, ep, eq⟩ = oa := ⟨_, rfl⟩
     refine (mApply_allO _ y ⟨et, em, ek, eg, ep, eq⟩ (.string ew) (.slice Av nv cv) w3 HSN3.out oa hoa).mono ?_
     rintro e wa ⟨u, rfl, hso, hxa⟩
     have HOA := Lib.hid hoa
     have HS4 := Lib.hid (HS3.out.more hxa)
     have HBE4 := Lib.hid (hxa.blk HBE.out)
     have HYB : Hid (Y < w3.heap.size) := Lib.hid (blk_lt HS3.out.ybox)
     have HSZ1 : Hid (w3.heap.size ≤ wa.heap.size) := Lib.hid hxa.size
     have HUB : Hid (∀ k, u9.ownBlock = some k → k < w3.heap.size) := Lib.hid fun k hk => (HS3.out.own.lt k hk).2
     clear hxa hoa HBE HS3 HBX3 HSN3
     obtain ⟨A7, c7, D7, d7, rfl, k2, k3⟩ := hso
     cases oa with
     | none =>
      have HNIL : Hid ([] = r) := Lib.hid (by have := HGO.out; rw [HD.out] at this; unfold Sp.go at this; simp only [HOA.out] at this; exact this)
      have HX4 := Lib.hid HS4.out.ext
      clear k2 k3
      simp only [Option.getD, Option.isSome, Md.zero, List.length_nil]
      go_wp2
      go_ret
      obtain rfl := HNIL.out
      refine ⟨_, rfl, RowsAt.nil _, ?_⟩
      first | exact HX4.out | exact HX4.out.alloc _ | trace_state
     | some y2 =>
      have HY2 : Hid (y2.may = true) := Lib.hid (Md.app_time HOA.out).2.2.2.1
      simp only [Option.getD_some, Option.isSome_some] at k2 k3 ⊢
      have HO2 := Lib.hid k2
      have HO3 := Lib.hid k3
      clear k2 k3
      go_upto_region 13 with fail
      obtain ⟨wb, hwb⟩ : ∃ wb, wa.alloc (.cells #[.int .i64 y2.time, .slice A7 y2.ps.length c7, .slice D7 y2.gs.length d7] 25) = wb := ⟨_, rfl⟩
      have hxb : Ext wa wb := by rw [← hwb]; exact (Ext.refl _).alloc _
      have hbn : wb.heap[wa.heap.size]? = some (.cells #[.int .i64 y2.time, .slice A7 y2.ps.length c7, .slice D7 y2.gs.length d7] 25 (0, 0)) := by rw [← hwb]; exact blk_new wa _
      rw [hwb]
      obtain ⟨N0, hN0⟩ : ∃ N0, wa.heap.size = N0 := ⟨_, rfl⟩
      rw [hN0] at hbn ⊢
      have HBN := Lib.hid hbn
      obtain ⟨hth, wc, hwc, hs6⟩ := (HS4.out.more hxb).setX (B := w3.heap.size) ⟨A7, c7, D7, d7, rfl, HO2.out.ext hxb, HO3.out.ext hxb⟩ HYB.out HUB.out
      have HTH := Lib.hid hth
      have HWC := Lib.hid hwc
      have HS6 := Lib.hid hs6
      have HBE6 : Hid (wc.heap[E0]? = some (.cells #[.int .i64 et, .int .i64 em, .int .i64 ek, .int .i64 eg, .int .i64 ep, .int .i64 eq, .string ew, .slice Av nv cv] 34 (0, 0))) := Lib.hid (by
       rw [← hwc]
       exact (setCells_upd X _ wb 0).blk (hxb.blk HBE4.out) (by have := HXE.out; omega))
      have HSZ2 : Hid (w3.heap.size ≤ wc.heap.size) := Lib.hid (by rw [← hwc]; exact Nat.le_trans HSZ1.out (Nat.le_trans hxb.size (setCells_upd X _ wb 0).size))
      clear hwb hxb hbn hN0 hth hwc hs6 HS4 HBE4 HO2 HO3
      go_upto_region 14 with (first | (refine wpList_load_rowW rfl 25 _ rfl N0 rfl [.int .i64 y2.time, .slice A7 y2.ps.length c7, .slice D7 y2.gs.length d7] (.agg #[.int .i64 y2.time, .slice A7 y2.ps.length c7, .slice D7 y2.gs.length d7]) rfl _ (range_row HBN.out) Tryd.underlying25 rfl (by kernel_rfl) ?_) | (refine wpList_store_rowN rfl 25 _ _ rfl X 0 [.int .i64 y2.time, .slice A7 y2.ps.length c7, .slice D7 y2.gs.length d7] (.agg ([.int .i64 y2.time, .slice A7 y2.ps.length c7, .slice D7 y2.gs.length d7]).toArray) (by go_simp) (by go_simp) rfl HTH.out (by kernel_rfl) (sn3_one _ _ _ rfl rfl) HWC.out ?_))
      clear HTH HWC HBN
      obtain ⟨A8, c8, D8, d8, hbx, hsn⟩ := HS6.out.snap
      have HBX6 := Lib.hid hbx
      have HSN6 := Lib.hid hsn
      clear hbx hsn
      go_wp2_with (refine wpList_load_rowW rfl 25 _ rfl X rfl [.int .i64 y2.time, .slice A8 y2.ps.length c8, .slice D8 y2.gs.length d8] (.agg #[.int .i64 y2.time, .slice A8 y2.ps.length c8, .slice D8 y2.gs.length d8]) rfl _ (range_row HBX6.out) Tryd.underlying25 rfl (by kernel_rfl) ?_)
      refine (HLK.out _ y2 wc HS6.out.ext HSN6.out HY2.out).mono ?_
      rintro e wd ⟨rfl, hxd⟩
      obtain ⟨nw, hnw⟩ : ∃ nw, (look y2).getD (0, 0, 0) = nw := ⟨_, rfl⟩
      obtain ⟨nb, hnb⟩ : ∃ nb, (look y2).isSome = nb := ⟨_, rfl⟩
      rw [hnw, hnb]
      have HNV := Lib.hid hnw
      have HNB := Lib.hid hnb
      obtain ⟨we, hwe, hbv, hxe⟩ := vw_box wd nw
      obtain ⟨V0, hV0⟩ : ∃ V0, wd.heap.size = V0 := ⟨_, rfl⟩
      rw [hV0] at hbv
      have HWE := Lib.hid hwe
      have HV0 := Lib.hid hV0
      have HVS : Hid (w3.heap.size ≤ V0) := Lib.hid (by rw [← hV0]; exact Nat.le_trans HSZ2.out hxd.size)
      have HS7 := Lib.hid (HS6.out.more (hxd.trans hxe))
      have HBVN := Lib.hid hbv
      have HBEN := Lib.hid ((hxd.trans hxe).blk HBE6.out)
      clear hnw hnb hwe hV0 hbv hxd hxe HS6 HBE6 HBX6 HSN6
      simp only [vwC]
      go_upto_region 15 with fail
      rw [HWE.out, HV0.out]
      have z0 : we.cell? ⟨V0, 0, none⟩ = some (.int .i64 nw.1) := blk_cell HBVN.out 0 _ rfl
      have z1 : we.cell? ⟨V0, 1, none⟩ = some (.int .i64 nw.2.1) := blk_cell HBVN.out 1 _ rfl
      have z2 : we.cell? ⟨V0, 2, none⟩ = some (.int .i64 nw.2.2) := blk_cell HBVN.out 2 _ rfl
      have y0 : we.cell? ⟨Y, 0, none⟩ = some (.int .i64 ov.1) := blk_cell HS7.out.ybox 0 _ rfl
      have y1 : we.cell? ⟨Y, 1, none⟩ = some (.int .i64 ov.2.1) := blk_cell HS7.out.ybox 1 _ rfl
      have y2' : we.cell? ⟨Y, 2, none⟩ = some (.int .i64 ov.2.2) := blk_cell HS7.out.ybox 2 _ rfl
      by_cases heq : look y2 = look y
      · obtain rfl : nw = ov := by rw [← HNV.out, ← HOV.out, heq]
        obtain rfl : nb = ob := by rw [← HNB.out, ← HOB.out, heq]
        have HGN : Hid (Sp.go look why (es.drop (k + 1)) y2 (look y2) done cur = r) := Lib.hid (by
         have := HGO.out
         rw [HD.out] at this
         unfold Sp.go at this
         simp only [HOA.out, if_pos heq] at this
         rw [heq]
         exact this)
        have hq : ∀ w, (Op.equalIn 10000 46 (.agg #[.int .i64 nw.1, .int .i64 nw.2.1, .int .i64 nw.2.2]) (.agg #[.int .i64 nw.1, .int .i64 nw.2.1, .int .i64 nw.2.2])).run Tryd.prog w = .ok true w := fun w => by have := run_eqV nw.1 nw.2.1 nw.2.2 nw.1 nw.2.1 nw.2.2 w; rw [decide_eq_true rfl] at this; exact this
        have hbb : (nb == nb) = true := by simp
        clear heq
        go_wp2
        go_roundw
        case rel => exact ⟨k + 1, y2, done, cur, by omega, by go_num, by rw [HNB.out], HY2, HGN, by rw [HNB.out]; exact HCS.out, by rw [HNV.out]; exact HS7.out, by have := HDL.out; omega⟩
        case measure => simp [intOf]; omega
      · have HGN : Hid (Sp.go look why (es.drop (k + 1)) y2 (look y2) (done ++ (cur.map (Sp.close y2.time)).toList) ((look y2).map (Sp.opn y2.time (why (⟨⟨et, em, ek, eg, ep, eq⟩, ew, .slice Av nv cv⟩ : Le)))) = r) := Lib.hid (by
         have := HGO.out
         rw [HD.out] at this
         unfold Sp.go at this
         simp only [HOA.out, if_neg heq] at this
         exact this)
        have HUV : Hid (u9.ownBlock ≠ some V0) := Lib.hid fun e => by have := HUB.out V0 e; have := HVS.out; omega
        have HNE := Lib.hid heq
        have HKL : Hid (k ≤ 1000) := Lib.hid (by omega)
        clear heq
        by_cases hv : nw = ov
        · have hq : ∀ w, (Op.equalIn 10000 46 (.agg #[.int .i64 nw.1, .int .i64 nw.2.1, .int .i64 nw.2.2]) (.agg #[.int .i64 ov.1, .int .i64 ov.2.1, .int .i64 ov.2.2])).run Tryd.prog w = .ok true w := fun w => by have := run_eqV nw.1 nw.2.1 nw.2.2 ov.1 ov.2.1 ov.2.2 w; rw [decide_eq_true (by rw [hv])] at this; exact this
          have hbb : (nb == ob) = false := by
           cases hh : (nb == ob) with
           | false => rfl
           | true => exact absurd (opt_same (by rw [HNV.out, HOV.out, hv]) (by rw [HNB.out, HOB.out]; simpa using hh)) HNE.out
          clear hv
          cases ob with
          | false =>
           obtain rfl : cur = none := by have := HCS.out; cases cur with
            | none => rfl
            | some c => cases this
           have HNB1 : Hid (nb = true) := Lib.hid (by
            cases nb with
            | true => rfl
            | false => exact absurd (by have h1 := HNB.out; have h2 := HOB.out; cases h3 : look y2 with
                | none => cases h4 : look y with
                 | none => rfl
                 | some v => rw [h4] at h2; cases h2
                | some v => rw [h3] at h1; cases h1) HNE.out)
           obtain rfl := HNB1.out
           have HS8 : Hid (SpB w we X Y y2 ov u9 done) := Lib.hid (by simpa using HS7.out)
           have HLN : Hid (done.length ≤ 1000000) := Lib.hid (by have h1 := HDL.out; have h2 := HKL.out; simp at h1; omega)
           have HLE : Hid ((done ++ [Sp.opn y2.time (why (⟨⟨et, em, ek, eg, ep, eq⟩, ew, .slice Av nv cv⟩ : Le)) nw]).length ≤ k + 1 + 1) := Lib.hid (by have h1 := HDL.out; simp at h1 ⊢; omega)
           have HN2 : Hid (look y2 = some nw) := Lib.hid (by have h1 := HNB.out; have h2 := HNV.out; cases h3 : look y2 with
            | none => rw [h3] at h1; cases h1
            | some v => rw [h3] at h2; exact congrArg some h2)
           have HGF : Hid (Sp.go look why (es.drop (k + 1)) y2 (look y2) done (some (Sp.opn y2.time (why (⟨⟨et, em, ek, eg, ep, eq⟩, ew, .slice Av nv cv⟩ : Le)) nw)) = r) := Lib.hid (by have := HGN.out; rw [HN2.out] at this ⊢; simpa using this)
           clear HS7 HNB1
           have HCX : Hid (∀ v, Ext we v → v.cell? ⟨X, 0, none⟩ = some (.int .i64 y2.time) ∧ v.cell? ⟨V0, 0, none⟩ = some (.int .i64 nw.1) ∧ v.cell? ⟨V0, 1, none⟩ = some (.int .i64 nw.2.1) ∧ v.cell? ⟨E0, 0, none⟩ = some (.int .i64 et) ∧ v.cell? ⟨E0, 1, none⟩ = some (.int .i64 em) ∧ v.cell? ⟨E0, 2, none⟩ = some (.int .i64 ek) ∧ v.cell? ⟨E0, 3, none⟩ = some (.int .i64 eg) ∧ v.cell? ⟨E0, 4, none⟩ = some (.int .i64 ep) ∧ v.cell? ⟨E0, 5, none⟩ = some (.int .i64 eq) ∧ v.cell? ⟨E0, 6, none⟩ = some (.string ew) ∧ v.cell? ⟨E0, 7, none⟩ = some (.slice Av nv cv)) := Lib.hid fun v hv => by
            obtain ⟨A8, c8, D8, d8, hb8, -⟩ := (HS8.out.more hv).snap
            have hbe := hv.blk HBEN.out
            exact ⟨blk_cell hb8 0 _ rfl, blk_cell (hv.blk HBVN.out) 0 _ rfl, blk_cell (hv.blk HBVN.out) 1 _ rfl, blk_cell hbe 0 _ rfl, blk_cell hbe 1 _ rfl, blk_cell hbe 2 _ rfl, blk_cell hbe 3 _ rfl, blk_cell hbe 4 _ rfl, blk_cell hbe 5 _ rfl, blk_cell hbe 6 _ rfl, blk_cell hbe 7 _ rfl⟩
           go_wp2_with fail
           refine region_gq 12 (fun v => v.cell? ⟨X, 0, none⟩ = some (.int .i64 y2.time) ∧ v.cell? ⟨V0, 0, none⟩ = some (.int .i64 nw.1) ∧ v.cell? ⟨V0, 1, none⟩ = some (.int .i64 nw.2.1) ∧ v.cell? ⟨E0, 0, none⟩ = some (.int .i64 et) ∧ v.cell? ⟨E0, 1, none⟩ = some (.int .i64 em) ∧ v.cell? ⟨E0, 2, none⟩ = some (.int .i64 ek) ∧ v.cell? ⟨E0, 3, none⟩ = some (.int .i64 eg) ∧ v.cell? ⟨E0, 4, none⟩ = some (.int .i64 ep) ∧ v.cell? ⟨E0, 5, none⟩ = some (.int .i64 eq) ∧ v.cell? ⟨E0, 6, none⟩ = some (.string ew) ∧ v.cell? ⟨E0, 7, none⟩ = some (.slice Av nv cv)) (fun v => Ext we v) (by kernel_rfl) (Ext.refl we).drew (fun _ _ d _ _ h => by cases d <;> exact h) ?_
           intro Q9 HQE HQP
           have HG : ∀ (l : Array Bool) (v : World), Ext we v → l.getD 12 false = false → v.cell? ⟨X, 0, none⟩ = some (.int .i64 y2.time) ∧ v.cell? ⟨V0, 0, none⟩ = some (.int .i64 nw.1) ∧ v.cell? ⟨V0, 1, none⟩ = some (.int .i64 nw.2.1) ∧ v.cell? ⟨E0, 0, none⟩ = some (.int .i64 et) ∧ v.cell? ⟨E0, 1, none⟩ = some (.int .i64 em) ∧ v.cell? ⟨E0, 2, none⟩ = some (.int .i64 ek) ∧ v.cell? ⟨E0, 3, none⟩ = some (.int .i64 eg) ∧ v.cell? ⟨E0, 4, none⟩ = some (.int .i64 ep) ∧ v.cell? ⟨E0, 5, none⟩ = some (.int .i64 eq) ∧ v.cell? ⟨E0, 6, none⟩ = some (.string ew) ∧ v.cell? ⟨E0, 7, none⟩ = some (.slice Av nv cv) := fun _ v hx _ => HCX.out v hx
           refine g_tk 0 (v := ?_) HG HQP (fun w hS => ?_) ?_
           rotate_left 1
           · go_simp; refine gives_mk ?_ rfl; with_reducible rfl
           refine g_tk 1 (v := ?_) HG HQP (fun w hS => ?_) ?_
           rotate_left 1
           · go_simp; refine gives_mk ?_ rfl; with_reducible rfl
           refine g_tk 2 (v := ?_) HG HQP (fun w hS => ?_) ?_
           rotate_left 1
           · go_simp; refine gives_mk ?_ rfl; with_reducible rfl
           refine g_tk 3 (v := ?_) HG HQP (fun w hS => ?_) ?_
           rotate_left 1
           · go_simp; refine gives_mk ?_ rfl; with_reducible rfl
           refine g_tk 4 (v := ?_) HG HQP (fun w hS => ?_) ?_
           rotate_left 1
           · go_simp; refine gives_mk ?_ rfl; with_reducible rfl
           refine g_tk 5 (v := ?_) HG HQP (fun w hS => ?_) ?_
           rotate_left 1
           · go_simp; refine gives_mk ?_ rfl; with_reducible rfl
           refine g_tk 6 (v := ?_) HG HQP (fun w hS => ?_) ?_
           rotate_left 1
           · go_simp; refine gives_mk ?_ rfl; with_reducible rfl
           refine g_tk 7 (v := ?_) HG HQP (fun w hS => ?_) ?_
           rotate_left 1
           · go_simp; refine gives_mk ?_ rfl; with_reducible rfl
           refine g_tk 8 (v := ?_) HG HQP (fun w hS => ?_) ?_
           rotate_left 1
           · go_simp; refine gives_mk ?_ rfl; with_reducible rfl
           refine g_mid (fun u v => u = .string (why (⟨⟨et, em, ek, eg, ep, eq⟩, ew, .slice Av nv cv⟩ : Le)) ∧ Ext we v) (k := 9) (by kernel_rfl) (fun _ v hh _ => HCX.out v hh.2) rfl (by kernel_rfl) (fun v hS R hR => ?_) (fun u hu => ?_)
           · have HR := Lib.hid hR
             clear hR
             have HV := Lib.hid hS
             go_simp
             refine givesM_call ((HWY.out (⟨⟨et, em, ek, eg, ep, eq⟩, ew, .slice Av nv cv⟩ : Le) v (HS8.out.ext.trans HV.out)).mono ?_)
             rintro e' v2 ⟨rfl, hx2⟩
             exact ⟨_, rfl, HR.out _ _ ⟨rfl, HV.out.trans hx2⟩⟩
           obtain ⟨_, rfl, -⟩ := hu
           refine g_mid (fun u v => u = .agg #[.int .i64 y2.time, .int .i64 0, .int .i64 nw.1, .int .i64 nw.2.1, .string (why (⟨⟨et, em, ek, eg, ep, eq⟩, ew, .slice Av nv cv⟩ : Le))] ∧ Ext we v) (k := 10) (by kernel_rfl) (fun _ v hh _ => HCX.out v hh.2) rfl (by kernel_rfl) (fun v hS R hR => ?_) (fun u hu => ?_)
           · have HR := Lib.hid hR
             clear hR
             go_simp
             refine givesM_val (HR.out _ _ ⟨rfl, hS.2⟩)
           obtain ⟨_, rfl, -⟩ := hu
           refine g_mid (fun u v => ∃ v5, u = .slice (some ⟨v5.heap.size, 0, none⟩) 1 1 ∧ v = v5.alloc (.cells (spL (Sp.opn y2.time (why (⟨⟨et, em, ek, eg, ep, eq⟩, ew, .slice Av nv cv⟩ : Le)) nw)).toArray 36) ∧ Ext we v5) (k := 11) (by kernel_rfl) (fun _ v hh _ => by obtain ⟨v5, _, rfl, hx⟩ := hh; exact HCX.out _ (hx.alloc _)) rfl (by kernel_rfl) (fun v hS R hR => ?_) (fun u hu => ?_)
           · have HR := Lib.hid hR
             clear hR
             go_simp
             refine givesM_val (HR.out _ _ ⟨v, rfl, rfl, hS.2⟩)
           obtain ⟨_, w5, rfl, -, -⟩ := hu
           generalize w5.heap.size = V5
           clear w5
           refine g_mid (fun u v => SpB w v X Y y2 ov u (done ++ [Sp.opn y2.time (why (⟨⟨et, em, ek, eg, ep, eq⟩, ew, .slice Av nv cv⟩ : Le)) nw]) ∧ v.heap[V0]? = some (.cells (vwC nw) 46 (0, 0))) (k := 12) (by kernel_rfl) (fun v w _ h0 => by cases h0) rfl (by kernel_rfl) (fun v hS R hR => ?_) (fun u hu => ?_)
           · have HR := Lib.hid hR
             clear hR
             obtain ⟨v5, hV, hv, hx⟩ := hS
             simp only [Value.slice.injEq, Option.some.injEq, Addr.mk.injEq, and_true] at hV
             subst hV hv
             obtain ⟨un, wn, hr1, hs1, hk1⟩ := (HS8.out.more hx).push (Sp.opn y2.time (why (⟨⟨et, em, ek, eg, ep, eq⟩, ew, .slice Av nv cv⟩ : Le)) nw) HLN.out
             refine givesM_append _ _ 27 rfl _ _ (by go_simp) (by go_simp) hr1 ?_
             exact HR.out _ _ ⟨hs1, hk1 _ _ (hx.blk HBVN.out) HUV.out⟩
           obtain ⟨_, hu9, -⟩ := hu
           refine g_end (k := 13) (by kernel_rfl) (by kernel_rfl) (by kernel_rfl) rfl (by kernel_rfl) (fun w9 hS R hR => ?_)
           have HR := Lib.hid hR
           clear hR hu9
           obtain ⟨hs9, hv9⟩ := hS
           have HS9 := Lib.hid hs9
           have HV9 := Lib.hid hv9
           clear hs9 hv9
           have hq9 := HQE.out
           subst hq9
           clear HQE HQP HG HCX
           go_simp
           refine givesM_val (HR.out _ _ ?_)
           go_simp
           have z0 : w9.cell? ⟨V0, 0, none⟩ = some (.int .i64 nw.1) := blk_cell HV9.out 0 _ rfl
           have z1 : w9.cell? ⟨V0, 1, none⟩ = some (.int .i64 nw.2.1) := blk_cell HV9.out 1 _ rfl
           have z2 : w9.cell? ⟨V0, 2, none⟩ = some (.int .i64 nw.2.2) := blk_cell HV9.out 2 _ rfl
           obtain ⟨hth, wf, hwf, hsf⟩ := HS9.out.setY nw
           have HTH := Lib.hid hth
           have HWF := Lib.hid hwf
           have HSF := Lib.hid hsf
           clear hth hwf hsf
           go_wp2_with (refine wpList_store_rowN rfl 46 _ _ rfl Y 0 [.int .i64 nw.1, .int .i64 nw.2.1, .int .i64 nw.2.2] (.agg ([.int .i64 nw.1, .int .i64 nw.2.1, .int .i64 nw.2.2]).toArray) (by go_simp) (by go_simp) rfl HTH.out (by kernel_rfl) (vw_one _ _ _) HWF.out ?_)
           go_roundw
           case rel => exact ⟨k + 1, y2, done, some (Sp.opn y2.time (why (⟨⟨et, em, ek, eg, ep, eq⟩, ew, .slice Av nv cv⟩ : Le)) nw), by omega, by go_num, by rw [HNB.out], HY2, HGF, by rw [HN2.out]; rfl, by rw [HNV.out]; first | exact HSF.out | simpa using HSF.out, by first | exact HLE.out | simpa using HLE.out⟩
           case measure => simp [intOf]; omega
          | true =>
           obtain ⟨c, rfl⟩ : ∃ c, cur = some c := by have := HCS.out; cases cur with
            | none => cases this
            | some c => exact ⟨c, rfl⟩
           obtain ⟨g, cg, hu, hgl, hcell, hfz, hse⟩ := SpB.ends (done := done) (s := c) HS7.out y2.time
           have hgE : g < E0 := HUE.out g (by rw [hu]; rfl)
           subst hu
           obtain ⟨n, hn⟩ : ∃ n, done.length = n := ⟨_, rfl⟩
           rw [hn] at hcell hfz hse ⊢
           have HNN := Lib.hid hn
           obtain ⟨wg, hwg⟩ : ∃ wg, we.setCell ⟨g, n * 5 + 1, none⟩ (.int .i64 y2.time) = wg := ⟨_, rfl⟩
           have hup : Upd g we wg := by rw [← hwg]; exact (Upd.refl _ _).set _ _
           rw [hwg] at hse
           have HS8 := Lib.hid hse
           have HWG := Lib.hid hwg
           have HBVM := Lib.hid (hup.blk HBVN.out (by have := HVS.out; have := HE3.out; omega))
           have HBEM := Lib.hid (hup.blk HBEN.out (by omega))
           obtain ⟨A8, c8, D8, d8, hb8, -⟩ := HS7.out.snap
           have q0 := blk_cell hb8 0 _ rfl
           have en : (n : Int) + 1 - 1 = (n : Int) := by omega
           have hnk : (n : Int) ≤ 1001 := by have h1 := HDL.out; have h2 := HKL.out; simp at h1; omega
           have HNK : Hid (n ≤ k) := Lib.hid (by have h1 := HDL.out; simp at h1; omega)
           have HLN : Hid ((done ++ [Sp.close y2.time c]).length ≤ 1000000) := Lib.hid (by simp; omega)
           clear hgl hse hwg hup hb8 hgE hn HBVN HBEN
           have HBVN := HBVM
           have HBEN := HBEM
           go_upto_region 18 with fail
           rw [HWG.out]
           clear hcell hfz q0 z0 z1 z2 y0 y1 y2' HS7 HWG HBVM HBEM
           cases nb with
           | true =>
            have HN2 : Hid (look y2 = some nw) := Lib.hid (by have h1 := HNB.out; have h2 := HNV.out; cases h3 : look y2 with
             | none => rw [h3] at h1; cases h1
             | some v => rw [h3] at h2; exact congrArg some h2)
            have HGF : Hid (Sp.go look why (es.drop (k + 1)) y2 (look y2) (done ++ [Sp.close y2.time c]) (some (Sp.opn y2.time (why (⟨⟨et, em, ek, eg, ep, eq⟩, ew, .slice Av nv cv⟩ : Le)) nw)) = r) := Lib.hid (by have := HGN.out; rw [HN2.out] at this ⊢; simpa using this)
            have HLE : Hid ((done ++ [Sp.close y2.time c] ++ [Sp.opn y2.time (why (⟨⟨et, em, ek, eg, ep, eq⟩, ew, .slice Av nv cv⟩ : Le)) nw]).length ≤ k + 1 + 1) := Lib.hid (by have h1 := HNK.out; have h2 := HNN.out; simp; omega)
            have HCX : Hid (∀ v, Ext wg v → v.cell? ⟨X, 0, none⟩ = some (.int .i64 y2.time) ∧ v.cell? ⟨V0, 0, none⟩ = some (.int .i64 nw.1) ∧ v.cell? ⟨V0, 1, none⟩ = some (.int .i64 nw.2.1) ∧ v.cell? ⟨E0, 0, none⟩ = some (.int .i64 et) ∧ v.cell? ⟨E0, 1, none⟩ = some (.int .i64 em) ∧ v.cell? ⟨E0, 2, none⟩ = some (.int .i64 ek) ∧ v.cell? ⟨E0, 3, none⟩ = some (.int .i64 eg) ∧ v.cell? ⟨E0, 4, none⟩ = some (.int .i64 ep) ∧ v.cell? ⟨E0, 5, none⟩ = some (.int .i64 eq) ∧ v.cell? ⟨E0, 6, none⟩ = some (.string ew) ∧ v.cell? ⟨E0, 7, none⟩ = some (.slice Av nv cv)) := Lib.hid fun v hv => by
             obtain ⟨A8, c8, D8, d8, hb8, -⟩ := (HS8.out.more hv).snap
             have hbe := hv.blk HBEN.out
             exact ⟨blk_cell hb8 0 _ rfl, blk_cell (hv.blk HBVN.out) 0 _ rfl, blk_cell (hv.blk HBVN.out) 1 _ rfl, blk_cell hbe 0 _ rfl, blk_cell hbe 1 _ rfl, blk_cell hbe 2 _ rfl, blk_cell hbe 3 _ rfl, blk_cell hbe 4 _ rfl, blk_cell hbe 5 _ rfl, blk_cell hbe 6 _ rfl, blk_cell hbe 7 _ rfl⟩
            go_wp2_with fail
            refine region_gq 12 (fun v => v.cell? ⟨X, 0, none⟩ = some (.int .i64 y2.time) ∧ v.cell? ⟨V0, 0, none⟩ = some (.int .i64 nw.1) ∧ v.cell? ⟨V0, 1, none⟩ = some (.int .i64 nw.2.1) ∧ v.cell? ⟨E0, 0, none⟩ = some (.int .i64 et) ∧ v.cell? ⟨E0, 1, none⟩ = some (.int .i64 em) ∧ v.cell? ⟨E0, 2, none⟩ = some (.int .i64 ek) ∧ v.cell? ⟨E0, 3, none⟩ = some (.int .i64 eg) ∧ v.cell? ⟨E0, 4, none⟩ = some (.int .i64 ep) ∧ v.cell? ⟨E0, 5, none⟩ = some (.int .i64 eq) ∧ v.cell? ⟨E0, 6, none⟩ = some (.string ew) ∧ v.cell? ⟨E0, 7, none⟩ = some (.slice Av nv cv)) (fun v => Ext wg v) (by kernel_rfl) (Ext.refl wg).drew (fun _ _ d _ _ h => by cases d <;> exact h) ?_
            intro Q9 HQE HQP
            have HG : ∀ (l : Array Bool) (v : World), Ext wg v → l.getD 12 false = false → v.cell? ⟨X, 0, none⟩ = some (.int .i64 y2.time) ∧ v.cell? ⟨V0, 0, none⟩ = some (.int .i64 nw.1) ∧ v.cell? ⟨V0, 1, none⟩ = some (.int .i64 nw.2.1) ∧ v.cell? ⟨E0, 0, none⟩ = some (.int .i64 et) ∧ v.cell? ⟨E0, 1, none⟩ = some (.int .i64 em) ∧ v.cell? ⟨E0, 2, none⟩ = some (.int .i64 ek) ∧ v.cell? ⟨E0, 3, none⟩ = some (.int .i64 eg) ∧ v.cell? ⟨E0, 4, none⟩ = some (.int .i64 ep) ∧ v.cell? ⟨E0, 5, none⟩ = some (.int .i64 eq) ∧ v.cell? ⟨E0, 6, none⟩ = some (.string ew) ∧ v.cell? ⟨E0, 7, none⟩ = some (.slice Av nv cv) := fun _ v hx _ => HCX.out v hx
            refine g_tk 0 (v := ?_) HG HQP (fun w hS => ?_) ?_
            rotate_left 1
            · go_simp; refine gives_mk ?_ rfl; with_reducible rfl
            refine g_tk 1 (v := ?_) HG HQP (fun w hS => ?_) ?_
            rotate_left 1
            · go_simp; refine gives_mk ?_ rfl; with_reducible rfl
            refine g_tk 2 (v := ?_) HG HQP (fun w hS => ?_) ?_
            rotate_left 1
            · go_simp; refine gives_mk ?_ rfl; with_reducible rfl
            refine g_tk 3 (v := ?_) HG HQP (fun w hS => ?_) ?_
            rotate_left 1
            · go_simp; refine gives_mk ?_ rfl; with_reducible rfl
            refine g_tk 4 (v := ?_) HG HQP (fun w hS => ?_) ?_
            rotate_left 1
            · go_simp; refine gives_mk ?_ rfl; with_reducible rfl
            refine g_tk 5 (v := ?_) HG HQP (fun w hS => ?_) ?_
            rotate_left 1
            · go_simp; refine gives_mk ?_ rfl; with_reducible rfl
            refine g_tk 6 (v := ?_) HG HQP (fun w hS => ?_) ?_
            rotate_left 1
            · go_simp; refine gives_mk ?_ rfl; with_reducible rfl
            refine g_tk 7 (v := ?_) HG HQP (fun w hS => ?_) ?_
            rotate_left 1
            · go_simp; refine gives_mk ?_ rfl; with_reducible rfl
            refine g_tk 8 (v := ?_) HG HQP (fun w hS => ?_) ?_
            rotate_left 1
            · go_simp; refine gives_mk ?_ rfl; with_reducible rfl
            refine g_mid (fun u v => u = .string (why (⟨⟨et, em, ek, eg, ep, eq⟩, ew, .slice Av nv cv⟩ : Le)) ∧ Ext wg v) (k := 9) (by kernel_rfl) (fun _ v hh _ => HCX.out v hh.2) rfl (by kernel_rfl) (fun v hS R hR => ?_) (fun u hu => ?_)
            · have HR := Lib.hid hR
              clear hR
              have HV := Lib.hid hS
              go_simp
              refine givesM_call ((HWY.out (⟨⟨et, em, ek, eg, ep, eq⟩, ew, .slice Av nv cv⟩ : Le) v (HS8.out.ext.trans HV.out)).mono ?_)
              rintro e' v2 ⟨rfl, hx2⟩
              exact ⟨_, rfl, HR.out _ _ ⟨rfl, HV.out.trans hx2⟩⟩
            obtain ⟨_, rfl, -⟩ := hu
            refine g_mid (fun u v => u = .agg #[.int .i64 y2.time, .int .i64 0, .int .i64 nw.1, .int .i64 nw.2.1, .string (why (⟨⟨et, em, ek, eg, ep, eq⟩, ew, .slice Av nv cv⟩ : Le))] ∧ Ext wg v) (k := 10) (by kernel_rfl) (fun _ v hh _ => HCX.out v hh.2) rfl (by kernel_rfl) (fun v hS R hR => ?_) (fun u hu => ?_)
            · have HR := Lib.hid hR
              clear hR
              go_simp
              refine givesM_val (HR.out _ _ ⟨rfl, hS.2⟩)
            obtain ⟨_, rfl, -⟩ := hu
            refine g_mid (fun u v => ∃ v5, u = .slice (some ⟨v5.heap.size, 0, none⟩) 1 1 ∧ v = v5.alloc (.cells (spL (Sp.opn y2.time (why (⟨⟨et, em, ek, eg, ep, eq⟩, ew, .slice Av nv cv⟩ : Le)) nw)).toArray 36) ∧ Ext wg v5) (k := 11) (by kernel_rfl) (fun _ v hh _ => by obtain ⟨v5, _, rfl, hx⟩ := hh; exact HCX.out _ (hx.alloc _)) rfl (by kernel_rfl) (fun v hS R hR => ?_) (fun u hu => ?_)
            · have HR := Lib.hid hR
              clear hR
              go_simp
              refine givesM_val (HR.out _ _ ⟨v, rfl, rfl, hS.2⟩)
            obtain ⟨_, w5, rfl, -, -⟩ := hu
            generalize w5.heap.size = V5
            clear w5
            refine g_mid (fun u v => SpB w v X Y y2 ov u ((done ++ [Sp.close y2.time c]) ++ [Sp.opn y2.time (why (⟨⟨et, em, ek, eg, ep, eq⟩, ew, .slice Av nv cv⟩ : Le)) nw]) ∧ v.heap[V0]? = some (.cells (vwC nw) 46 (0, 0))) (k := 12) (by kernel_rfl) (fun v w _ h0 => by cases h0) rfl (by kernel_rfl) (fun v hS R hR => ?_) (fun u hu => ?_)
            · have HR := Lib.hid hR
              clear hR
              obtain ⟨v5, hV, hv, hx⟩ := hS
              simp only [Value.slice.injEq, Option.some.injEq, Addr.mk.injEq, and_true] at hV
              subst hV hv
              obtain ⟨un, wn, hr1, hs1, hk1⟩ := (HS8.out.more hx).push (Sp.opn y2.time (why (⟨⟨et, em, ek, eg, ep, eq⟩, ew, .slice Av nv cv⟩ : Le)) nw) HLN.out
              refine givesM_append _ _ 27 rfl _ _ (by go_simp) (by go_simp) hr1 ?_
              exact HR.out _ _ ⟨hs1, hk1 _ _ (hx.blk HBVN.out) HUV.out⟩
            obtain ⟨_, hu9, -⟩ := hu
            refine g_end (k := 13) (by kernel_rfl) (by kernel_rfl) (by kernel_rfl) rfl (by kernel_rfl) (fun w9 hS R hR => ?_)
            have HR := Lib.hid hR
            clear hR hu9
            obtain ⟨hs9, hv9⟩ := hS
            have HS9 := Lib.hid hs9
            have HV9 := Lib.hid hv9
            clear hs9 hv9
            have hq9 := HQE.out
            subst hq9
            clear HQE HQP HG HCX
            go_simp
            refine givesM_val (HR.out _ _ ?_)
            go_simp
            have z0 : w9.cell? ⟨V0, 0, none⟩ = some (.int .i64 nw.1) := blk_cell HV9.out 0 _ rfl
            have z1 : w9.cell? ⟨V0, 1, none⟩ = some (.int .i64 nw.2.1) := blk_cell HV9.out 1 _ rfl
            have z2 : w9.cell? ⟨V0, 2, none⟩ = some (.int .i64 nw.2.2) := blk_cell HV9.out 2 _ rfl
            obtain ⟨hth, wf, hwf, hsf⟩ := HS9.out.setY nw
            have HTH := Lib.hid hth
            have HWF := Lib.hid hwf
            have HSF := Lib.hid hsf
            clear hth hwf hsf
            go_wp2_with (refine wpList_store_rowN rfl 46 _ _ rfl Y 0 [.int .i64 nw.1, .int .i64 nw.2.1, .int .i64 nw.2.2] (.agg ([.int .i64 nw.1, .int .i64 nw.2.1, .int .i64 nw.2.2]).toArray) (by go_simp) (by go_simp) rfl HTH.out (by kernel_rfl) (vw_one _ _ _) HWF.out ?_)
            go_roundw
            case rel => exact ⟨k + 1, y2, (done ++ [Sp.close y2.time c]), some (Sp.opn y2.time (why (⟨⟨et, em, ek, eg, ep, eq⟩, ew, .slice Av nv cv⟩ : Le)) nw), by omega, by go_num, by rw [HNB.out], HY2, HGF, by rw [HN2.out]; rfl, by rw [HNV.out]; first | exact HSF.out | simpa using HSF.out, by first | exact HLE.out | simpa using HLE.out⟩
            case measure => simp [intOf]; omega
           | false =>
            have HN2 : Hid (look y2 = none) := Lib.hid (by have h1 := HNB.out; cases h3 : look y2 with
             | none => rfl
             | some v => rw [h3] at h1; cases h1)
            have HGF : Hid (Sp.go look why (es.drop (k + 1)) y2 (look y2) (done ++ [Sp.close y2.time c]) none = r) := Lib.hid (by have := HGN.out; rw [HN2.out] at this ⊢; simpa using this)
            have HLE : Hid ((done ++ [Sp.close y2.time c]).length ≤ k + 1 + 1) := Lib.hid (by have h1 := HNK.out; have h2 := HNN.out; simp; omega)
            have z0 : wg.cell? ⟨V0, 0, none⟩ = some (.int .i64 nw.1) := blk_cell HBVN.out 0 _ rfl
            have z1 : wg.cell? ⟨V0, 1, none⟩ = some (.int .i64 nw.2.1) := blk_cell HBVN.out 1 _ rfl
            have z2 : wg.cell? ⟨V0, 2, none⟩ = some (.int .i64 nw.2.2) := blk_cell HBVN.out 2 _ rfl
            obtain ⟨hth, wf, hwf, hsf⟩ := HS8.out.setY nw
            have HTH := Lib.hid hth
            have HWF := Lib.hid hwf
            have HSF := Lib.hid hsf
            clear hth hwf hsf
            go_wp2_with (refine wpList_store_rowN rfl 46 _ _ rfl Y 0 [.int .i64 nw.1, .int .i64 nw.2.1, .int .i64 nw.2.2] (.agg ([.int .i64 nw.1, .int .i64 nw.2.1, .int .i64 nw.2.2]).toArray) (by go_simp) (by go_simp) rfl HTH.out (by kernel_rfl) (vw_one _ _ _) HWF.out ?_)
            go_roundw
            case rel => exact ⟨k + 1, y2, (done ++ [Sp.close y2.time c]), none, by omega, by go_num, by rw [HNB.out], HY2, HGF, by rw [HN2.out]; rfl, by rw [HNV.out]; first | exact HSF.out | simpa using HSF.out, by first | exact HLE.out | simpa using HLE.out⟩
            case measure => simp [intOf]; omega
        · have hq : ∀ w, (Op.equalIn 10000 46 (.agg #[.int .i64 nw.1, .int .i64 nw.2.1, .int .i64 nw.2.2]) (.agg #[.int .i64 ov.1, .int .i64 ov.2.1, .int .i64 ov.2.2])).run Tryd.prog w = .ok false w := fun w => by
           have := run_eqV nw.1 nw.2.1 nw.2.2 ov.1 ov.2.1 ov.2.2 w
           rw [decide_eq_false (fun h => hv (by simp only [List.cons.injEq, and_true] at h; exact Prod.ext h.1 (Prod.ext h.2.1 h.2.2)))] at this
           exact this
          clear hv
          cases ob with
          | false =>
           obtain rfl : cur = none := by have := HCS.out; cases cur with
            | none => rfl
            | some c => cases this
           have HNB1 : Hid (nb = true) := Lib.hid (by
            cases nb with
            | true => rfl
            | false => exact absurd (by have h1 := HNB.out; have h2 := HOB.out; cases h3 : look y2 with
                | none => cases h4 : look y with
                 | none => rfl
                 | some v => rw [h4] at h2; cases h2
                | some v => rw [h3] at h1; cases h1) HNE.out)
           obtain rfl := HNB1.out
           have HS8 : Hid (SpB w we X Y y2 ov u9 done) := Lib.hid (by simpa using HS7.out)
           have HLN : Hid (done.length ≤ 1000000) := Lib.hid (by have h1 := HDL.out; have h2 := HKL.out; simp at h1; omega)
           have HLE : Hid ((done ++ [Sp.opn y2.time (why (⟨⟨et, em, ek, eg, ep, eq⟩, ew, .slice Av nv cv⟩ : Le)) nw]).length ≤ k + 1 + 1) := Lib.hid (by have h1 := HDL.out; simp at h1 ⊢; omega)
           have HN2 : Hid (look y2 = some nw) := Lib.hid (by have h1 := HNB.out; have h2 := HNV.out; cases h3 : look y2 with
            | none => rw [h3] at h1; cases h1
            | some v => rw [h3] at h2; exact congrArg some h2)
           have HGF : Hid (Sp.go look why (es.drop (k + 1)) y2 (look y2) done (some (Sp.opn y2.time (why (⟨⟨et, em, ek, eg, ep, eq⟩, ew, .slice Av nv cv⟩ : Le)) nw)) = r) := Lib.hid (by have := HGN.out; rw [HN2.out] at this ⊢; simpa using this)
           clear HS7 HNB1
           have HCX : Hid (∀ v, Ext we v → v.cell? ⟨X, 0, none⟩ = some (.int .i64 y2.time) ∧ v.cell? ⟨V0, 0, none⟩ = some (.int .i64 nw.1) ∧ v.cell? ⟨V0, 1, none⟩ = some (.int .i64 nw.2.1) ∧ v.cell? ⟨E0, 0, none⟩ = some (.int .i64 et) ∧ v.cell? ⟨E0, 1, none⟩ = some (.int .i64 em) ∧ v.cell? ⟨E0, 2, none⟩ = some (.int .i64 ek) ∧ v.cell? ⟨E0, 3, none⟩ = some (.int .i64 eg) ∧ v.cell? ⟨E0, 4, none⟩ = some (.int .i64 ep) ∧ v.cell? ⟨E0, 5, none⟩ = some (.int .i64 eq) ∧ v.cell? ⟨E0, 6, none⟩ = some (.string ew) ∧ v.cell? ⟨E0, 7, none⟩ = some (.slice Av nv cv)) := Lib.hid fun v hv => by
            obtain ⟨A8, c8, D8, d8, hb8, -⟩ := (HS8.out.more hv).snap
            have hbe := hv.blk HBEN.out
            exact ⟨blk_cell hb8 0 _ rfl, blk_cell (hv.blk HBVN.out) 0 _ rfl, blk_cell (hv.blk HBVN.out) 1 _ rfl, blk_cell hbe 0 _ rfl, blk_cell hbe 1 _ rfl, blk_cell hbe 2 _ rfl, blk_cell hbe 3 _ rfl, blk_cell hbe 4 _ rfl, blk_cell hbe 5 _ rfl, blk_cell hbe 6 _ rfl, blk_cell hbe 7 _ rfl⟩
           go_wp2_with fail
           refine region_gq 12 (fun v => v.cell? ⟨X, 0, none⟩ = some (.int .i64 y2.time) ∧ v.cell? ⟨V0, 0, none⟩ = some (.int .i64 nw.1) ∧ v.cell? ⟨V0, 1, none⟩ = some (.int .i64 nw.2.1) ∧ v.cell? ⟨E0, 0, none⟩ = some (.int .i64 et) ∧ v.cell? ⟨E0, 1, none⟩ = some (.int .i64 em) ∧ v.cell? ⟨E0, 2, none⟩ = some (.int .i64 ek) ∧ v.cell? ⟨E0, 3, none⟩ = some (.int .i64 eg) ∧ v.cell? ⟨E0, 4, none⟩ = some (.int .i64 ep) ∧ v.cell? ⟨E0, 5, none⟩ = some (.int .i64 eq) ∧ v.cell? ⟨E0, 6, none⟩ = some (.string ew) ∧ v.cell? ⟨E0, 7, none⟩ = some (.slice Av nv cv)) (fun v => Ext we v) (by kernel_rfl) (Ext.refl we).drew (fun _ _ d _ _ h => by cases d <;> exact h) ?_
           intro Q9 HQE HQP
           have HG : ∀ (l : Array Bool) (v : World), Ext we v → l.getD 12 false = false → v.cell? ⟨X, 0, none⟩ = some (.int .i64 y2.time) ∧ v.cell? ⟨V0, 0, none⟩ = some (.int .i64 nw.1) ∧ v.cell? ⟨V0, 1, none⟩ = some (.int .i64 nw.2.1) ∧ v.cell? ⟨E0, 0, none⟩ = some (.int .i64 et) ∧ v.cell? ⟨E0, 1, none⟩ = some (.int .i64 em) ∧ v.cell? ⟨E0, 2, none⟩ = some (.int .i64 ek) ∧ v.cell? ⟨E0, 3, none⟩ = some (.int .i64 eg) ∧ v.cell? ⟨E0, 4, none⟩ = some (.int .i64 ep) ∧ v.cell? ⟨E0, 5, none⟩ = some (.int .i64 eq) ∧ v.cell? ⟨E0, 6, none⟩ = some (.string ew) ∧ v.cell? ⟨E0, 7, none⟩ = some (.slice Av nv cv) := fun _ v hx _ => HCX.out v hx
           refine g_tk 0 (v := ?_) HG HQP (fun w hS => ?_) ?_
           rotate_left 1
           · go_simp; refine gives_mk ?_ rfl; with_reducible rfl
           refine g_tk 1 (v := ?_) HG HQP (fun w hS => ?_) ?_
           rotate_left 1
           · go_simp; refine gives_mk ?_ rfl; with_reducible rfl
           refine g_tk 2 (v := ?_) HG HQP (fun w hS => ?_) ?_
           rotate_left 1
           · go_simp; refine gives_mk ?_ rfl; with_reducible rfl
           refine g_tk 3 (v := ?_) HG HQP (fun w hS => ?_) ?_
           rotate_left 1
           · go_simp; refine gives_mk ?_ rfl; with_reducible rfl
           refine g_tk 4 (v := ?_) HG HQP (fun w hS => ?_) ?_
           rotate_left 1
           · go_simp; refine gives_mk ?_ rfl; with_reducible rfl
           refine g_tk 5 (v := ?_) HG HQP (fun w hS => ?_) ?_
           rotate_left 1
           · go_simp; refine gives_mk ?_ rfl; with_reducible rfl
           refine g_tk 6 (v := ?_) HG HQP (fun w hS => ?_) ?_
           rotate_left 1
           · go_simp; refine gives_mk ?_ rfl; with_reducible rfl
           refine g_tk 7 (v := ?_) HG HQP (fun w hS => ?_) ?_
           rotate_left 1
           · go_simp; refine gives_mk ?_ rfl; with_reducible rfl
           refine g_tk 8 (v := ?_) HG HQP (fun w hS => ?_) ?_
           rotate_left 1
           · go_simp; refine gives_mk ?_ rfl; with_reducible rfl
           refine g_mid (fun u v => u = .string (why (⟨⟨et, em, ek, eg, ep, eq⟩, ew, .slice Av nv cv⟩ : Le)) ∧ Ext we v) (k := 9) (by kernel_rfl) (fun _ v hh _ => HCX.out v hh.2) rfl (by kernel_rfl) (fun v hS R hR => ?_) (fun u hu => ?_)
           · have HR := Lib.hid hR
             clear hR
             have HV := Lib.hid hS
             go_simp
             refine givesM_call ((HWY.out (⟨⟨et, em, ek, eg, ep, eq⟩, ew, .slice Av nv cv⟩ : Le) v (HS8.out.ext.trans HV.out)).mono ?_)
             rintro e' v2 ⟨rfl, hx2⟩
             exact ⟨_, rfl, HR.out _ _ ⟨rfl, HV.out.trans hx2⟩⟩
           obtain ⟨_, rfl, -⟩ := hu
           refine g_mid (fun u v => u = .agg #[.int .i64 y2.time, .int .i64 0, .int .i64 nw.1, .int .i64 nw.2.1, .string (why (⟨⟨et, em, ek, eg, ep, eq⟩, ew, .slice Av nv cv⟩ : Le))] ∧ Ext we v) (k := 10) (by kernel_rfl) (fun _ v hh _ => HCX.out v hh.2) rfl (by kernel_rfl) (fun v hS R hR => ?_) (fun u hu => ?_)
           · have HR := Lib.hid hR
             clear hR
             go_simp
             refine givesM_val (HR.out _ _ ⟨rfl, hS.2⟩)
           obtain ⟨_, rfl, -⟩ := hu
           refine g_mid (fun u v => ∃ v5, u = .slice (some ⟨v5.heap.size, 0, none⟩) 1 1 ∧ v = v5.alloc (.cells (spL (Sp.opn y2.time (why (⟨⟨et, em, ek, eg, ep, eq⟩, ew, .slice Av nv cv⟩ : Le)) nw)).toArray 36) ∧ Ext we v5) (k := 11) (by kernel_rfl) (fun _ v hh _ => by obtain ⟨v5, _, rfl, hx⟩ := hh; exact HCX.out _ (hx.alloc _)) rfl (by kernel_rfl) (fun v hS R hR => ?_) (fun u hu => ?_)
           · have HR := Lib.hid hR
             clear hR
             go_simp
             refine givesM_val (HR.out _ _ ⟨v, rfl, rfl, hS.2⟩)
           obtain ⟨_, w5, rfl, -, -⟩ := hu
           generalize w5.heap.size = V5
           clear w5
           refine g_mid (fun u v => SpB w v X Y y2 ov u (done ++ [Sp.opn y2.time (why (⟨⟨et, em, ek, eg, ep, eq⟩, ew, .slice Av nv cv⟩ : Le)) nw]) ∧ v.heap[V0]? = some (.cells (vwC nw) 46 (0, 0))) (k := 12) (by kernel_rfl) (fun v w _ h0 => by cases h0) rfl (by kernel_rfl) (fun v hS R hR => ?_) (fun u hu => ?_)
           · have HR := Lib.hid hR
             clear hR
             obtain ⟨v5, hV, hv, hx⟩ := hS
             simp only [Value.slice.injEq, Option.some.injEq, Addr.mk.injEq, and_true] at hV
             subst hV hv
             obtain ⟨un, wn, hr1, hs1, hk1⟩ := (HS8.out.more hx).push (Sp.opn y2.time (why (⟨⟨et, em, ek, eg, ep, eq⟩, ew, .slice Av nv cv⟩ : Le)) nw) HLN.out
             refine givesM_append _ _ 27 rfl _ _ (by go_simp) (by go_simp) hr1 ?_
             exact HR.out _ _ ⟨hs1, hk1 _ _ (hx.blk HBVN.out) HUV.out⟩
           obtain ⟨_, hu9, -⟩ := hu
           refine g_end (k := 13) (by kernel_rfl) (by kernel_rfl) (by kernel_rfl) rfl (by kernel_rfl) (fun w9 hS R hR => ?_)
           have HR := Lib.hid hR
           clear hR hu9
           obtain ⟨hs9, hv9⟩ := hS
           have HS9 := Lib.hid hs9
           have HV9 := Lib.hid hv9
           clear hs9 hv9
           have hq9 := HQE.out
           subst hq9
           clear HQE HQP HG HCX
           go_simp
           refine givesM_val (HR.out _ _ ?_)
           go_simp
           have z0 : w9.cell? ⟨V0, 0, none⟩ = some (.int .i64 nw.1) := blk_cell HV9.out 0 _ rfl
           have z1 : w9.cell? ⟨V0, 1, none⟩ = some (.int .i64 nw.2.1) := blk_cell HV9.out 1 _ rfl
           have z2 : w9.cell? ⟨V0, 2, none⟩ = some (.int .i64 nw.2.2) := blk_cell HV9.out 2 _ rfl
           obtain ⟨hth, wf, hwf, hsf⟩ := HS9.out.setY nw
           have HTH := Lib.hid hth
           have HWF := Lib.hid hwf
           have HSF := Lib.hid hsf
           clear hth hwf hsf
           go_wp2_with (refine wpList_store_rowN rfl 46 _ _ rfl Y 0 [.int .i64 nw.1, .int .i64 nw.2.1, .int .i64 nw.2.2] (.agg ([.int .i64 nw.1, .int .i64 nw.2.1, .int .i64 nw.2.2]).toArray) (by go_simp) (by go_simp) rfl HTH.out (by kernel_rfl) (vw_one _ _ _) HWF.out ?_)
           go_roundw
           case rel => exact ⟨k + 1, y2, done, some (Sp.opn y2.time (why (⟨⟨et, em, ek, eg, ep, eq⟩, ew, .slice Av nv cv⟩ : Le)) nw), by omega, by go_num, by rw [HNB.out], HY2, HGF, by rw [HN2.out]; rfl, by rw [HNV.out]; first | exact HSF.out | simpa using HSF.out, by first | exact HLE.out | simpa using HLE.out⟩
           case measure => simp [intOf]; omega
          | true =>
           obtain ⟨c, rfl⟩ : ∃ c, cur = some c := by have := HCS.out; cases cur with
            | none => cases this
            | some c => exact ⟨c, rfl⟩
           obtain ⟨g, cg, hu, hgl, hcell, hfz, hse⟩ := SpB.ends (done := done) (s := c) HS7.out y2.time
           have hgE : g < E0 := HUE.out g (by rw [hu]; rfl)
           subst hu
           obtain ⟨n, hn⟩ : ∃ n, done.length = n := ⟨_, rfl⟩
           rw [hn] at hcell hfz hse ⊢
           have HNN := Lib.hid hn
           obtain ⟨wg, hwg⟩ : ∃ wg, we.setCell ⟨g, n * 5 + 1, none⟩ (.int .i64 y2.time) = wg := ⟨_, rfl⟩
           have hup : Upd g we wg := by rw [← hwg]; exact (Upd.refl _ _).set _ _
           rw [hwg] at hse
           have HS8 := Lib.hid hse
           have HWG := Lib.hid hwg
           have HBVM := Lib.hid (hup.blk HBVN.out (by have := HVS.out; have := HE3.out; omega))
           have HBEM := Lib.hid (hup.blk HBEN.out (by omega))
           obtain ⟨A8, c8, D8, d8, hb8, -⟩ := HS7.out.snap
           have q0 := blk_cell hb8 0 _ rfl
           have en : (n : Int) + 1 - 1 = (n : Int) := by omega
           have hnk : (n : Int) ≤ 1001 := by have h1 := HDL.out; have h2 := HKL.out; simp at h1; omega
           have HNK : Hid (n ≤ k) := Lib.hid (by have h1 := HDL.out; simp at h1; omega)
           have HLN : Hid ((done ++ [Sp.close y2.time c]).length ≤ 1000000) := Lib.hid (by simp; omega)
           clear hgl hse hwg hup hb8 hgE hn HBVN HBEN
           have HBVN := HBVM
           have HBEN := HBEM
           go_upto_region 18 with fail
           rw [HWG.out]
           clear hcell hfz q0 z0 z1 z2 y0 y1 y2' HS7 HWG HBVM HBEM
           cases nb with
           | true =>
            have HN2 : Hid (look y2 = some nw) := Lib.hid (by have h1 := HNB.out; have h2 := HNV.out; cases h3 : look y2 with
             | none => rw [h3] at h1; cases h1
             | some v => rw [h3] at h2; exact congrArg some h2)
            have HGF : Hid (Sp.go look why (es.drop (k + 1)) y2 (look y2) (done ++ [Sp.close y2.time c]) (some (Sp.opn y2.time (why (⟨⟨et, em, ek, eg, ep, eq⟩, ew, .slice Av nv cv⟩ : Le)) nw)) = r) := Lib.hid (by have := HGN.out; rw [HN2.out] at this ⊢; simpa using this)
            have HLE : Hid ((done ++ [Sp.close y2.time c] ++ [Sp.opn y2.time (why (⟨⟨et, em, ek, eg, ep, eq⟩, ew, .slice Av nv cv⟩ : Le)) nw]).length ≤ k + 1 + 1) := Lib.hid (by have h1 := HNK.out; have h2 := HNN.out; simp; omega)
            have HCX : Hid (∀ v, Ext wg v → v.cell? ⟨X, 0, none⟩ = some (.int .i64 y2.time) ∧ v.cell? ⟨V0, 0, none⟩ = some (.int .i64 nw.1) ∧ v.cell? ⟨V0, 1, none⟩ = some (.int .i64 nw.2.1) ∧ v.cell? ⟨E0, 0, none⟩ = some (.int .i64 et) ∧ v.cell? ⟨E0, 1, none⟩ = some (.int .i64 em) ∧ v.cell? ⟨E0, 2, none⟩ = some (.int .i64 ek) ∧ v.cell? ⟨E0, 3, none⟩ = some (.int .i64 eg) ∧ v.cell? ⟨E0, 4, none⟩ = some (.int .i64 ep) ∧ v.cell? ⟨E0, 5, none⟩ = some (.int .i64 eq) ∧ v.cell? ⟨E0, 6, none⟩ = some (.string ew) ∧ v.cell? ⟨E0, 7, none⟩ = some (.slice Av nv cv)) := Lib.hid fun v hv => by
             obtain ⟨A8, c8, D8, d8, hb8, -⟩ := (HS8.out.more hv).snap
             have hbe := hv.blk HBEN.out
             exact ⟨blk_cell hb8 0 _ rfl, blk_cell (hv.blk HBVN.out) 0 _ rfl, blk_cell (hv.blk HBVN.out) 1 _ rfl, blk_cell hbe 0 _ rfl, blk_cell hbe 1 _ rfl, blk_cell hbe 2 _ rfl, blk_cell hbe 3 _ rfl, blk_cell hbe 4 _ rfl, blk_cell hbe 5 _ rfl, blk_cell hbe 6 _ rfl, blk_cell hbe 7 _ rfl⟩
            go_wp2_with fail
            refine region_gq 12 (fun v => v.cell? ⟨X, 0, none⟩ = some (.int .i64 y2.time) ∧ v.cell? ⟨V0, 0, none⟩ = some (.int .i64 nw.1) ∧ v.cell? ⟨V0, 1, none⟩ = some (.int .i64 nw.2.1) ∧ v.cell? ⟨E0, 0, none⟩ = some (.int .i64 et) ∧ v.cell? ⟨E0, 1, none⟩ = some (.int .i64 em) ∧ v.cell? ⟨E0, 2, none⟩ = some (.int .i64 ek) ∧ v.cell? ⟨E0, 3, none⟩ = some (.int .i64 eg) ∧ v.cell? ⟨E0, 4, none⟩ = some (.int .i64 ep) ∧ v.cell? ⟨E0, 5, none⟩ = some (.int .i64 eq) ∧ v.cell? ⟨E0, 6, none⟩ = some (.string ew) ∧ v.cell? ⟨E0, 7, none⟩ = some (.slice Av nv cv)) (fun v => Ext wg v) (by kernel_rfl) (Ext.refl wg).drew (fun _ _ d _ _ h => by cases d <;> exact h) ?_
            intro Q9 HQE HQP
            have HG : ∀ (l : Array Bool) (v : World), Ext wg v → l.getD 12 false = false → v.cell? ⟨X, 0, none⟩ = some (.int .i64 y2.time) ∧ v.cell? ⟨V0, 0, none⟩ = some (.int .i64 nw.1) ∧ v.cell? ⟨V0, 1, none⟩ = some (.int .i64 nw.2.1) ∧ v.cell? ⟨E0, 0, none⟩ = some (.int .i64 et) ∧ v.cell? ⟨E0, 1, none⟩ = some (.int .i64 em) ∧ v.cell? ⟨E0, 2, none⟩ = some (.int .i64 ek) ∧ v.cell? ⟨E0, 3, none⟩ = some (.int .i64 eg) ∧ v.cell? ⟨E0, 4, none⟩ = some (.int .i64 ep) ∧ v.cell? ⟨E0, 5, none⟩ = some (.int .i64 eq) ∧ v.cell? ⟨E0, 6, none⟩ = some (.string ew) ∧ v.cell? ⟨E0, 7, none⟩ = some (.slice Av nv cv) := fun _ v hx _ => HCX.out v hx
            refine g_tk 0 (v := ?_) HG HQP (fun w hS => ?_) ?_
            rotate_left 1
            · go_simp; refine gives_mk ?_ rfl; with_reducible rfl
            refine g_tk 1 (v := ?_) HG HQP (fun w hS => ?_) ?_
            rotate_left 1
            · go_simp; refine gives_mk ?_ rfl; with_reducible rfl
            refine g_tk 2 (v := ?_) HG HQP (fun w hS => ?_) ?_
            rotate_left 1
            · go_simp; refine gives_mk ?_ rfl; with_reducible rfl
            refine g_tk 3 (v := ?_) HG HQP (fun w hS => ?_) ?_
            rotate_left 1
            · go_simp; refine gives_mk ?_ rfl; with_reducible rfl
            refine g_tk 4 (v := ?_) HG HQP (fun w hS => ?_) ?_
            rotate_left 1
            · go_simp; refine gives_mk ?_ rfl; with_reducible rfl
            refine g_tk 5 (v := ?_) HG HQP (fun w hS => ?_) ?_
            rotate_left 1
            · go_simp; refine gives_mk ?_ rfl; with_reducible rfl
            refine g_tk 6 (v := ?_) HG HQP (fun w hS => ?_) ?_
            rotate_left 1
            · go_simp; refine gives_mk ?_ rfl; with_reducible rfl
            refine g_tk 7 (v := ?_) HG HQP (fun w hS => ?_) ?_
            rotate_left 1
            · go_simp; refine gives_mk ?_ rfl; with_reducible rfl
            refine g_tk 8 (v := ?_) HG HQP (fun w hS => ?_) ?_
            rotate_left 1
            · go_simp; refine gives_mk ?_ rfl; with_reducible rfl
            refine g_mid (fun u v => u = .string (why (⟨⟨et, em, ek, eg, ep, eq⟩, ew, .slice Av nv cv⟩ : Le)) ∧ Ext wg v) (k := 9) (by kernel_rfl) (fun _ v hh _ => HCX.out v hh.2) rfl (by kernel_rfl) (fun v hS R hR => ?_) (fun u hu => ?_)
            · have HR := Lib.hid hR
              clear hR
              have HV := Lib.hid hS
              go_simp
              refine givesM_call ((HWY.out (⟨⟨et, em, ek, eg, ep, eq⟩, ew, .slice Av nv cv⟩ : Le) v (HS8.out.ext.trans HV.out)).mono ?_)
              rintro e' v2 ⟨rfl, hx2⟩
              exact ⟨_, rfl, HR.out _ _ ⟨rfl, HV.out.trans hx2⟩⟩
            obtain ⟨_, rfl, -⟩ := hu
            refine g_mid (fun u v => u = .agg #[.int .i64 y2.time, .int .i64 0, .int .i64 nw.1, .int .i64 nw.2.1, .string (why (⟨⟨et, em, ek, eg, ep, eq⟩, ew, .slice Av nv cv⟩ : Le))] ∧ Ext wg v) (k := 10) (by kernel_rfl) (fun _ v hh _ => HCX.out v hh.2) rfl (by kernel_rfl) (fun v hS R hR => ?_) (fun u hu => ?_)
            · have HR := Lib.hid hR
              clear hR
              go_simp
              refine givesM_val (HR.out _ _ ⟨rfl, hS.2⟩)
            obtain ⟨_, rfl, -⟩ := hu
            refine g_mid (fun u v => ∃ v5, u = .slice (some ⟨v5.heap.size, 0, none⟩) 1 1 ∧ v = v5.alloc (.cells (spL (Sp.opn y2.time (why (⟨⟨et, em, ek, eg, ep, eq⟩, ew, .slice Av nv cv⟩ : Le)) nw)).toArray 36) ∧ Ext wg v5) (k := 11) (by kernel_rfl) (fun _ v hh _ => by obtain ⟨v5, _, rfl, hx⟩ := hh; exact HCX.out _ (hx.alloc _)) rfl (by kernel_rfl) (fun v hS R hR => ?_) (fun u hu => ?_)
            · have HR := Lib.hid hR
              clear hR
              go_simp
              refine givesM_val (HR.out _ _ ⟨v, rfl, rfl, hS.2⟩)
            obtain ⟨_, w5, rfl, -, -⟩ := hu
            generalize w5.heap.size = V5
            clear w5
            refine g_mid (fun u v => SpB w v X Y y2 ov u ((done ++ [Sp.close y2.time c]) ++ [Sp.opn y2.time (why (⟨⟨et, em, ek, eg, ep, eq⟩, ew, .slice Av nv cv⟩ : Le)) nw]) ∧ v.heap[V0]? = some (.cells (vwC nw) 46 (0, 0))) (k := 12) (by kernel_rfl) (fun v w _ h0 => by cases h0) rfl (by kernel_rfl) (fun v hS R hR => ?_) (fun u hu => ?_)
            · have HR := Lib.hid hR
              clear hR
              obtain ⟨v5, hV, hv, hx⟩ := hS
              simp only [Value.slice.injEq, Option.some.injEq, Addr.mk.injEq, and_true] at hV
              subst hV hv
              obtain ⟨un, wn, hr1, hs1, hk1⟩ := (HS8.out.more hx).push (Sp.opn y2.time (why (⟨⟨et, em, ek, eg, ep, eq⟩, ew, .slice Av nv cv⟩ : Le)) nw) HLN.out
              refine givesM_append _ _ 27 rfl _ _ (by go_simp) (by go_simp) hr1 ?_
              exact HR.out _ _ ⟨hs1, hk1 _ _ (hx.blk HBVN.out) HUV.out⟩
            obtain ⟨_, hu9, -⟩ := hu
            refine g_end (k := 13) (by kernel_rfl) (by kernel_rfl) (by kernel_rfl) rfl (by kernel_rfl) (fun w9 hS R hR => ?_)
            have HR := Lib.hid hR
            clear hR hu9
            obtain ⟨hs9, hv9⟩ := hS
            have HS9 := Lib.hid hs9
            have HV9 := Lib.hid hv9
            clear hs9 hv9
            have hq9 := HQE.out
            subst hq9
            clear HQE HQP HG HCX
            go_simp
            refine givesM_val (HR.out _ _ ?_)
            go_simp
            have z0 : w9.cell? ⟨V0, 0, none⟩ = some (.int .i64 nw.1) := blk_cell HV9.out 0 _ rfl
            have z1 : w9.cell? ⟨V0, 1, none⟩ = some (.int .i64 nw.2.1) := blk_cell HV9.out 1 _ rfl
            have z2 : w9.cell? ⟨V0, 2, none⟩ = some (.int .i64 nw.2.2) := blk_cell HV9.out 2 _ rfl
            obtain ⟨hth, wf, hwf, hsf⟩ := HS9.out.setY nw
            have HTH := Lib.hid hth
            have HWF := Lib.hid hwf
            have HSF := Lib.hid hsf
            clear hth hwf hsf
            go_wp2_with (refine wpList_store_rowN rfl 46 _ _ rfl Y 0 [.int .i64 nw.1, .int .i64 nw.2.1, .int .i64 nw.2.2] (.agg ([.int .i64 nw.1, .int .i64 nw.2.1, .int .i64 nw.2.2]).toArray) (by go_simp) (by go_simp) rfl HTH.out (by kernel_rfl) (vw_one _ _ _) HWF.out ?_)
            go_roundw
            case rel => exact ⟨k + 1, y2, (done ++ [Sp.close y2.time c]), some (Sp.opn y2.time (why (⟨⟨et, em, ek, eg, ep, eq⟩, ew, .slice Av nv cv⟩ : Le)) nw), by omega, by go_num, by rw [HNB.out], HY2, HGF, by rw [HN2.out]; rfl, by rw [HNV.out]; first | exact HSF.out | simpa using HSF.out, by first | exact HLE.out | simpa using HLE.out⟩
            case measure => simp [intOf]; omega
           | false =>
            have HN2 : Hid (look y2 = none) := Lib.hid (by have h1 := HNB.out; cases h3 : look y2 with
             | none => rfl
             | some v => rw [h3] at h1; cases h1)
            have HGF : Hid (Sp.go look why (es.drop (k + 1)) y2 (look y2) (done ++ [Sp.close y2.time c]) none = r) := Lib.hid (by have := HGN.out; rw [HN2.out] at this ⊢; simpa using this)
            have HLE : Hid ((done ++ [Sp.close y2.time c]).length ≤ k + 1 + 1) := Lib.hid (by have h1 := HNK.out; have h2 := HNN.out; simp; omega)
            have z0 : wg.cell? ⟨V0, 0, none⟩ = some (.int .i64 nw.1) := blk_cell HBVN.out 0 _ rfl
            have z1 : wg.cell? ⟨V0, 1, none⟩ = some (.int .i64 nw.2.1) := blk_cell HBVN.out 1 _ rfl
            have z2 : wg.cell? ⟨V0, 2, none⟩ = some (.int .i64 nw.2.2) := blk_cell HBVN.out 2 _ rfl
            obtain ⟨hth, wf, hwf, hsf⟩ := HS8.out.setY nw
            have HTH := Lib.hid hth
            have HWF := Lib.hid hwf
            have HSF := Lib.hid hsf
            clear hth hwf hsf
            go_wp2_with (refine wpList_store_rowN rfl 46 _ _ rfl Y 0 [.int .i64 nw.1, .int .i64 nw.2.1, .int .i64 nw.2.2] (.agg ([.int .i64 nw.1, .int .i64 nw.2.1, .int .i64 nw.2.2]).toArray) (by go_simp) (by go_simp) rfl HTH.out (by kernel_rfl) (vw_one _ _ _) HWF.out ?_)
            go_roundw
            case rel => exact ⟨k + 1, y2, (done ++ [Sp.close y2.time c]), none, by omega, by go_num, by rw [HNB.out], HY2, HGF, by rw [HN2.out]; rfl, by rw [HNV.out]; first | exact HSF.out | simpa using HSF.out, by first | exact HLE.out | simpa using HLE.out⟩
            case measure => simp [intOf]; omega
   · obtain rfl : k = es.length := by omega
     have HFIN : Hid (done ++ (cur.map (Sp.close y.time)).toList = r) := Lib.hid (by have := HGO.out; rw [List.drop_length] at this; unfold Sp.go at this; exact this)
     clear hk hlt
     cases ob with
     | false =>
      obtain rfl : cur = none := by have := HCS.out; cases cur with
       | none => rfl
       | some c => cases this
      have HRW : Hid (RowsAt 5 spL wr u9 r) := Lib.hid (by have := HS1.out.own.rows spL_len; rw [← HFIN.out]; simpa using this)
      go_wp2
      go_ret
      exact ⟨_, rfl, HRW.out, HS1.out.ext⟩
     | true =>
      obtain ⟨c, rfl⟩ : ∃ c, cur = some c := by have := HCS.out; cases cur with
       | none => cases this
       | some c => exact ⟨c, rfl⟩
      obtain ⟨g, cg, hu, hgl, hcell, hfz, hse⟩ := SpB.ends (done := done) (s := c) HS1.out y.time
      obtain ⟨A8, c8, D8, d8, hb8, -⟩ := HS1.out.snap
      have q0 := blk_cell hb8 0 _ rfl
      subst hu
      obtain ⟨n, hn⟩ : ∃ n, done.length = n := ⟨_, rfl⟩
      rw [hn] at hcell hfz hse ⊢
      obtain ⟨wg, hwg⟩ : ∃ wg, wr.setCell ⟨g, n * 5 + 1, none⟩ (.int .i64 y.time) = wg := ⟨_, rfl⟩
      rw [hwg] at hse
      have HSE := Lib.hid hse
      have HWG := Lib.hid hwg
      have HRW : Hid (RowsAt 5 spL wg (.slice (some ⟨g, 0, none⟩) (n + 1) cg) r) := Lib.hid (by have := hse.own.rows spL_len; rw [← HFIN.out]; simpa using this)
      have en : (n : Int) + 1 - 1 = (n : Int) := by omega
      have hnk : (n : Int) ≤ 1001 := by have h1 := HDL.out; simp at h1; omega
      clear hgl hse hwg hb8 hn
      go_upto_region 24 with fail
      rw [HWG.out]
      clear hcell hfz q0
      go_wp2
      go_ret
      exact ⟨_, rfl, HRW.out, HSE.out.ext⟩
end Go.Proofs.YtohncgikdlbogaaDoor
