/-
  Several texts in one: Jza.
-/
import Derived.Test.YtohncgikdlbogaaDoorE17
import Derived.Test.YtohncgikdlbogaaDoorE13
import Derived.IntWalk
set_option linter.unusedVariables false
set_option linter.unusedSimpArgs false
namespace Go.Proofs.YtohncgikdlbogaaDoor
open Go.RowKit
theorem gs_box (wa : World) (v : Gs4) : ∃ wb, wa.alloc (.cells #[.int .i64 v.1, .int .i64 v.2.1, .int .i64 v.2.2.1, .int .i64 v.2.2.2] 49) = wb ∧ wb.heap[wa.heap.size]? = some (.cells (gsC v) 49 (0, 0)) ∧ Ext wa wb :=
 ⟨_, rfl, blk_new wa _, (Ext.refl wa).alloc _⟩
theorem gs_one (v : Gs4) : ∀ x ∈ [Value.int .i64 v.1, .int .i64 v.2.1, .int .i64 v.2.2.1, .int .i64 v.2.2.2], x.oneCell' = true := by intro u hu; simp at hu; rcases hu with rfl | rfl | rfl | rfl <;> rfl
theorem sv_get {w : World} {A : Option Addr} {n c : Nat} {vs : List Sv} (h : RowsAt 3 svL w (.slice A n c) vs) (hall : ∀ s ∈ vs, SvAt w s) {k : Nat} {s : Sv} (hs : vs[k]? = some s) : ∃ b o, A = some ⟨b, o, none⟩ ∧ b < w.heap.size ∧ (∀ v, Ext w v → v.rangeAt b (o + k * 3) [.int .i64 s.x.time, .slice s.A s.x.ps.length s.c, .slice s.D s.x.gs.length s.d]) ∧ ∀ v, Ext w v → SnAt v (.agg #[.int .i64 s.x.time, .slice s.A s.x.ps.length s.c, .slice s.D s.x.gs.length s.d]) s.x := by
 obtain ⟨b, o, hA, hb, hc⟩ := RowsAt.get h hs
 exact ⟨b, o, hA, hb, fun v hv j u hu => (Below.cell (p := ⟨b, o + k * 3 + j, none⟩) hv hb).trans (hc j u hu), fun v hv => ((hall s (List.mem_of_getElem? hs)).ext hv).at⟩
theorem sn_size {x : Sn} (h : x.may = true) : x.ps.length ≤ 10000 ∧ x.gs.length ≤ 10000 := by
 have h1 := (Sn.may_iff x).1 h
 omega
set_option maxRecDepth 100000 in
set_option maxHeartbeats 16000000 in
theorem rspG_any (v vl : Value) (x : Sn) (es : List Le) (g : Int) (w : World) (hs : SnAt w v x) (hl : RowsAt 8 leL w vl es) (hn : es.length ≤ 1000) (he : ∀ e ∈ es, ∃ A n c, e.stack = .slice A n c) (r : List Sp) (hr : Sp.ofG x es g = r) :
    Calls Tryd.prog 10 #[v, vl, .int .i64 g] w fun e w' => ∃ u, e = .returned u ∧ RowsAt 5 spL w' u r ∧ Ext w w' := by
 obtain ⟨A, c, D, d, rfl, h2, h3⟩ := hs
 obtain ⟨w1, hw1⟩ : ∃ w1, w.alloc (.cells #[.int .i64 x.time, .slice A x.ps.length c, .slice D x.gs.length d] 25) = w1 := ⟨_, rfl⟩
 have hx1 : Ext w w1 := by rw [← hw1]; exact (Ext.refl w).alloc _
 have hb1 : w1.heap[w.heap.size]? = some (.cells #[.int .i64 x.time, .slice A x.ps.length c, .slice D x.gs.length d] 25 (0, 0)) := by rw [← hw1]; exact blk_new w _
 obtain ⟨X, hX⟩ : ∃ X, w.heap.size = X := ⟨_, rfl⟩
 rw [hX] at hb1
 have HX := Lib.hid hX
 have HW1 := Lib.hid hw1
 have X1 := Lib.hid hx1
 have HB1 := Lib.hid hb1
 have HSN0 : Hid (SnAt w1 (.agg #[.int .i64 x.time, .slice A x.ps.length c, .slice D x.gs.length d]) x) := Lib.hid ⟨A, c, D, d, rfl, h2.ext hx1, h3.ext hx1⟩
 obtain ⟨AL, CL, rfl, -⟩ := hl.form
 have HLL := Lib.hid (hl.ext hx1)
 have HE := Lib.hid he
 have HRR := Lib.hid hr
 have hn' : (es.length : Int) ≤ 1000 := by omega
 clear hw1 hx1 hb1 hX h2 h3 hl he hr
 go_enter Tryd.func10, Tryd.ntmps10
 go_upto_region 1 with fail
 rw [HW1.out, HX.out]
 obtain ⟨o, ho⟩ : ∃ o, Sp.snaps x es = o := ⟨_, rfl⟩
 have HO := Lib.hid ho
 go_wp2_with (refine wpList_load_rowW rfl 25 _ rfl X rfl [.int .i64 x.time, .slice A x.ps.length c, .slice D x.gs.length d] (.agg #[.int .i64 x.time, .slice A x.ps.length c, .slice D x.gs.length d]) rfl _ (range_row HB1.out) Tryd.underlying25 rfl (by kernel_rfl) ?_)
 refine (rsnaps_any _ _ x es w1 HSN0.out HLL.out hn HE.out o ho).mono ?_
 rintro e w2 ⟨us, rfl, hus0, hus, hx2⟩
 clear ho
 have X2 := Lib.hid (X1.out.trans hx2)
 have HB2 := Lib.hid (hx2.blk HB1.out)
 have HL2 := Lib.hid (HLL.out.ext hx2)
 clear HB1 HSN0 HLL
 cases o with
 | none =>
  obtain rfl : [] = r := by rw [← HRR.out]; exact (Sp.ofG_none HO.out).symm
  have hu := hus0 rfl
  subst hu
  clear hus0 hus hx2
  simp only [Option.isSome]
  go_wp2
  go_ret
  exact ⟨_, rfl, RowsAt.nil _, X2.out⟩
 | some xs =>
 obtain ⟨hmay, hlen, s, rfl, hst⟩ := Sp.snaps_may HO.out
 obtain ⟨vs, hvs, hrow, hall⟩ := hus _ rfl
 clear hus0 hus
 obtain ⟨AS, CS, rfl, hcs⟩ := hrow.form
 have hvl : vs.length = es.length + 1 := by rw [← hlen, ← hvs, List.length_map]
 obtain ⟨s0, vs', rfl⟩ : ∃ s0 vs', vs = s0 :: vs' := by
  cases vs with
  | nil => simp at hvl
  | cons a l => exact ⟨a, l, rfl⟩
 simp only [List.map_cons, List.cons.injEq] at hvs
 obtain ⟨hs0, hvs⟩ := hvs
 obtain ⟨y0, A0, c0, D0, d0⟩ := s0
 simp only at hs0
 subst hs0
 obtain ⟨bs, os, rfl, hbs, hr0, hsn0⟩ := sv_get (k := 0) (s := ⟨y0, A0, c0, D0, d0⟩) hrow hall rfl
 simp only at hr0 hsn0
 rw [Nat.zero_mul, Nat.add_zero] at hr0
 have HMAY := Lib.hid hmay
 have HROW := Lib.hid hrow
 have HALL := Lib.hid hall
 have HVS := Lib.hid hvs
 have HST := Lib.hid hst
 have HR0 := Lib.hid hr0
 have HSN := Lib.hid hsn0
 have HBS := Lib.hid hbs
 obtain ⟨nv0, hnv0⟩ : ∃ nv0, (({ x := y0, A := A0, c := c0, D := D0, d := d0 } : Sv) :: vs').length = nv0 := ⟨_, rfl⟩
 have HNV := Lib.hid hnv0
 rw [hnv0] at hvl ⊢
 have hnv1 : (0 : Int) < (nv0 : Int) := by omega
 have hnv2 : (nv0 : Int) ≤ 1001 := by omega
 have HVL := Lib.hid hvl
 obtain ⟨T, hT⟩ : ∃ T, ((y0 :: s).getLast (by simp)).time = T := ⟨_, rfl⟩
 have HT := Lib.hid hT
 have HFIN : Hid (Sp.fin T (Sp.rgo (Sp.lookG g) (Sp.whyG g) es s (Sp.lookG g y0, [], (Sp.lookG g y0).map (Sp.opr y0.time ByteArray.empty))) = r) := Lib.hid (by rw [← HRR.out, ← hT]; exact (Sp.ofG_some HO.out).symm)
 clear hmay hrow hall hvs hst hr0 hsn0 hbs hnv0 hvl hT hlen hx2 HRR hcs
 simp only [Option.isSome]
 go_upto_region 5 with fail
 obtain ⟨w3, hw3⟩ : ∃ w3, w2.alloc (.cells #[] 36) = w3 := ⟨_, rfl⟩
 have hx3 : Ext w2 w3 := by rw [← hw3]; exact (Ext.refl _).alloc _
 obtain ⟨U0, hU0⟩ : ∃ U0, w2.heap.size = U0 := ⟨_, rfl⟩
 have HO0 : Hid (OuR w2 w3 (.slice (some ⟨U0, 0, none⟩) 0 0) []) := Lib.hid ⟨by rw [← hw3, ← hU0]; exact ⟨rfl, .inr ⟨_, 0, _, rfl, Nat.le_refl _, blk_new w2 _, Nat.le_refl _, by decide, rfl, rfl⟩⟩, hx3⟩
 have HU0 : Hid (U0 < w3.heap.size) := Lib.hid (by rw [← hw3, World.size_alloc]; omega)
 rw [hw3, hU0]
 have HX3 := Lib.hid hx3
 clear hw3 hx3 hU0
 go_wp2_with (refine wpList_load_rowM rfl 25 _ rfl bs os (by go_simp) [.int .i64 y0.time, .slice A0 y0.ps.length c0, .slice D0 y0.gs.length d0] (.agg #[.int .i64 y0.time, .slice A0 y0.ps.length c0, .slice D0 y0.gs.length d0]) rfl _ (HR0.out _ HX3.out) Tryd.underlying25 rfl (by kernel_rfl) ?_)
 obtain ⟨oa, hoa⟩ : ∃ oa, Sp.atG g y0 = oa := ⟨_, rfl⟩
 have HM0 := Lib.hid (sn_size (HMAY.out y0 (by simp)))
 refine (rat_any _ y0 g w3 (HSN.out _ HX3.out) HM0.out.1 HM0.out.2 oa hoa).mono ?_
 rintro e w4 ⟨rfl, hx4⟩
 obtain ⟨v0, hv0⟩ : ∃ v0, oa.getD (0, 0, 0, 0) = v0 := ⟨_, rfl⟩
 obtain ⟨b0, hb0⟩ : ∃ b0, oa.isSome = b0 := ⟨_, rfl⟩
 rw [hv0, hb0]
 obtain ⟨wy, hwy, hby, hxy⟩ := gs_box w4 v0
 obtain ⟨Y, hY⟩ : ∃ Y, w4.heap.size = Y := ⟨_, rfl⟩
 rw [hY] at hby
 have HWY := Lib.hid hwy
 have HYY := Lib.hid hY
 have HV0 := Lib.hid hv0
 have HB0 := Lib.hid hb0
 have HOA := Lib.hid hoa
 have HS0 : Hid (OuB w2 wy Y v0 (.slice (some ⟨U0, 0, none⟩) 0 0) []) := Lib.hid ⟨HO0.out.more (hx4.trans hxy), hby, fun e => by simp [Value.ownBlock] at e; have := HU0.out; have := hx4.size; omega, by have := HX3.out.size; have := hx4.size; omega⟩
 clear hx4 hwy hby hxy hY hv0 hb0 hoa
 simp only [gsA]
 have HLK : Hid (Sp.lookG g y0 = oa.map (·.2)) := Lib.hid (by rw [Sp.atG_look, HOA.out])
 have HFST : Hid (∀ z, oa = some z → z.1 = g) := Lib.hid fun z hz => Sp.atG_fst (HOA.out.trans hz)
 go_upto_region 6 with fail
 rw [HWY.out, HYY.out]
 cases b0 with
 | false =>
  obtain rfl : oa = none := by have := HB0.out; cases oa with
   | none => rfl
   | some z => cases this
  have HGO0 : Hid (Sp.fin T (Sp.rgo (Sp.lookG g) (Sp.whyG g) es s ((none : Option Gs4).map (·.2), [], none)) = r) := Lib.hid (by have := HFIN.out; rw [HLK.out] at this; exact this)
  go_wp2_with fail
  go_loopw [9, 11, 12] (fun uv tv iv wr => ∃ (k : Nat) (old : Option Gs4) (done : List Sp) (cur : Option Sp), 1 ≤ k ∧ k ≤ nv0 ∧ iv = .int .i64 k ∧ tv = .bool old.isSome ∧ cur.isSome = old.isSome ∧ Hid (∀ z, old = some z → z.1 = g) ∧ Hid (Sp.fin T (Sp.rgo (Sp.lookG g) (Sp.whyG g) (es.drop (k - 1)) (s.drop (k - 1)) (old.map (·.2), done, cur)) = r) ∧ OuB w2 wr Y (old.getD (0, 0, 0, 0)) uv (done ++ cur.toList) ∧ (done ++ cur.toList).length ≤ k) (fun _ _ iv _ => nv0 - (intOf iv).toNat)
  case atStart => exact ⟨1, none, [], none, by omega, by omega, rfl, rfl, rfl, HFST, HGO0, by have h := HV0.out; rw [h]; exact HS0.out, by simp⟩
  case round =>
   obtain ⟨k, old, done, cur, hk1, hk, rfl, rfl, hcs, HOF, HGO, hsb, hdl⟩ := hrel
   have HS1 := Lib.hid hsb
   have HCS := Lib.hid hcs
   have HDL := Lib.hid hdl
   clear hsb hcs hdl
   obtain ⟨ov, hov⟩ : ∃ ov, old.getD (0, 0, 0, 0) = ov := ⟨_, rfl⟩
   obtain ⟨ob, hob⟩ : ∃ ob, old.isSome = ob := ⟨_, rfl⟩
   rw [hov] at HS1
   rw [hob] at HCS
   rw [hob]
   have HOV := Lib.hid hov
   have HOB := Lib.hid hob
   obtain ⟨j, hj⟩ : ∃ j, k = j + 1 := ⟨k - 1, by omega⟩
   have hkj : (k : Int) - 1 = (j : Int) := by omega
   have HKJ := Lib.hid hj
   clear hov hob hj
   by_cases hlt : k < nv0
   · obtain ⟨sv, hsv⟩ : ∃ sv, (({ x := y0, A := A0, c := c0, D := D0, d := d0 } : Sv) :: vs')[k]? = some sv := ⟨_, List.getElem?_eq_getElem (by rw [HNV.out]; exact hlt)⟩
     obtain ⟨y, Ay, cy, Dy, dy⟩ := sv
     have hsj : s[j]? = some y := by
      have := HKJ.out
      subst this
      rw [List.getElem?_cons_succ] at hsv
      rw [← HVS.out, List.getElem?_map, hsv]
      rfl
     obtain ⟨b', o', hb', -, hry, hsny⟩ := sv_get HROW.out HALL.out hsv
     simp only [Option.some.injEq, Addr.mk.injEq, and_true] at hb'
     obtain ⟨hb1, hb2⟩ := hb'
     subst hb1 hb2
     simp only at hry hsny
     have HRY := Lib.hid hry
     have HSY := Lib.hid hsny
     have HMY := Lib.hid (sn_size (HMAY.out y (List.mem_cons_of_mem _ (List.mem_of_getElem? hsj))))
     have hje : j < es.length := by have := HVL.out; have := HKJ.out; omega
     obtain ⟨e, he⟩ : ∃ e, es[j]? = some e := ⟨_, List.getElem?_eq_getElem hje⟩
     have HD := Lib.hid (drop_cons he)
     have HDS := Lib.hid (drop_cons hsj)
     have HSTK := HE.out e (List.mem_of_getElem? he)
     obtain ⟨bl, ol, hBL, hbl, hcl⟩ := HL2.out.get he
     subst hBL
     obtain ⟨⟨et, em, ek, eg, ep, eq⟩, ew, ev⟩ := e
     obtain ⟨Av, nv, cv, hev⟩ := HSTK
     dsimp only at hev
     subst hev
     have HCL : Hid (∀ v, Ext w2 v → v.cell? ⟨bl, ol + j * 8, none⟩ = some (.int .i64 et) ∧ v.cell? ⟨bl, ol + j * 8 + 1, none⟩ = some (.int .i64 em) ∧ v.cell? ⟨bl, ol + j * 8 + 2, none⟩ = some (.int .i64 ek) ∧ v.cell? ⟨bl, ol + j * 8 + 3, none⟩ = some (.int .i64 eg) ∧ v.cell? ⟨bl, ol + j * 8 + 4, none⟩ = some (.int .i64 ep) ∧ v.cell? ⟨bl, ol + j * 8 + 5, none⟩ = some (.int .i64 eq) ∧ v.cell? ⟨bl, ol + j * 8 + 6, none⟩ = some (.string ew) ∧ v.cell? ⟨bl, ol + j * 8 + 7, none⟩ = some (.slice Av nv cv)) := Lib.hid fun v hv =>
      ⟨(Below.cell (p := ⟨bl, ol + j * 8, none⟩) hv hbl).trans (by have := hcl 0 _ rfl; rwa [Nat.add_zero] at this), (Below.cell (p := ⟨bl, ol + j * 8 + 1, none⟩) hv hbl).trans (hcl 1 _ rfl), (Below.cell (p := ⟨bl, ol + j * 8 + 2, none⟩) hv hbl).trans (hcl 2 _ rfl), (Below.cell (p := ⟨bl, ol + j * 8 + 3, none⟩) hv hbl).trans (hcl 3 _ rfl), (Below.cell (p := ⟨bl, ol + j * 8 + 4, none⟩) hv hbl).trans (hcl 4 _ rfl), (Below.cell (p := ⟨bl, ol + j * 8 + 5, none⟩) hv hbl).trans (hcl 5 _ rfl), (Below.cell (p := ⟨bl, ol + j * 8 + 6, none⟩) hv hbl).trans (hcl 6 _ rfl), (Below.cell (p := ⟨bl, ol + j * 8 + 7, none⟩) hv hbl).trans (hcl 7 _ rfl)⟩
     have hkb : (k : Int) < (nv0 : Int) := by omega
     have hj0 : (0 : Int) ≤ (j : Int) := by omega
     have hjb : (j : Int) < (es.length : Int) := by omega
     have hwj : IntKind.i64.wrap (j : Int) = (j : Int) := IntWalk.i64_in _ (by omega)
     clear hsv hry hsny hsj he hbl hcl hje
     go_wp2_with (refine wpList_load_rowM rfl 25 _ rfl bs (os + k * 3) (by go_simp) [.int .i64 y.time, .slice Ay y.ps.length cy, .slice Dy y.gs.length dy] (.agg #[.int .i64 y.time, .slice Ay y.ps.length cy, .slice Dy y.gs.length dy]) rfl _ (HRY.out _ HS1.out.r.ext) Tryd.underlying25 rfl (by kernel_rfl) ?_)
     obtain ⟨isO, his⟩ : ∃ isO, Sp.atG g y = isO := ⟨_, rfl⟩
     refine (rat_any _ y g wr (HSY.out _ HS1.out.r.ext) HMY.out.1 HMY.out.2 isO his).mono ?_
     rintro e' wd ⟨rfl, hxd⟩
     obtain ⟨nw, hnw⟩ : ∃ nw, isO.getD (0, 0, 0, 0) = nw := ⟨_, rfl⟩
     obtain ⟨nb, hnb⟩ : ∃ nb, isO.isSome = nb := ⟨_, rfl⟩
     rw [hnw, hnb]
     obtain ⟨we, hwe, hbv, hxe⟩ := gs_box wd nw
     obtain ⟨V0, hV0⟩ : ∃ V0, wd.heap.size = V0 := ⟨_, rfl⟩
     rw [hV0] at hbv
     have HNV := Lib.hid hnw
     have HNB := Lib.hid hnb
     have HIS := Lib.hid his
     have HWE := Lib.hid hwe
     have HV0' := Lib.hid hV0
     have HBV := Lib.hid hbv
     have HUV : Hid (u9.ownBlock ≠ some V0) := Lib.hid fun e => by have := (HS1.out.r.own.lt V0 e).2; have := hxd.size; omega
     have HS7 := Lib.hid (HS1.out.more (hxd.trans hxe))
     have HFN : Hid (∀ z, isO = some z → z.1 = g) := Lib.hid fun z hz => Sp.atG_fst (his.trans hz)
     have HLY : Hid (Sp.lookG g y = isO.map (·.2)) := Lib.hid (by rw [Sp.atG_look, his])
     have HKL : Hid (k ≤ 1000) := Lib.hid (by omega)
     have HGR : Hid (Sp.fin T (Sp.rgo (Sp.lookG g) (Sp.whyG g) (es.drop (j + 1)) (s.drop (j + 1)) (isO.map (·.2), (if isO.map (·.2) = old.map (·.2) then done else done ++ (cur.map (Sp.close y.time)).toList), (if isO.map (·.2) = old.map (·.2) then cur.map (Sp.close y.time) else (isO.map (·.2)).map (Sp.opr y.time (Sp.whyG g (⟨⟨et, em, ek, eg, ep, eq⟩, ew, .slice Av nv cv⟩ : Le)))))) = r) := Lib.hid (by
      have h := HGO.out
      have e1 : k - 1 = j := by have := HKJ.out; omega
      rw [e1, HD.out, HDS.out] at h
      unfold Sp.rgo Sp.rstep at h
      rw [HLY.out] at h
      exact h)
     have HGP : Hid (∀ a : Option Vw × List Sp × Option Sp, Sp.fin T (Sp.rgo (Sp.lookG g) (Sp.whyG g) (es.drop (j + 1)) (s.drop (j + 1)) a) = r → Sp.fin T (Sp.rgo (Sp.lookG g) (Sp.whyG g) (es.drop (k + 1 - 1)) (s.drop (k + 1 - 1)) a) = r) := Lib.hid fun a h => by
      have e1 : k + 1 - 1 = j + 1 := by have := HKJ.out; omega
      rw [e1]; exact h
     clear hxd hnw hnb his hwe hV0 hbv hxe HS1 HGO
     simp only [gsA]
     go_upto_region 12 with fail
     rw [HWE.out, HV0'.out]
     cases ob with
     | false =>
      obtain rfl : cur = none := by have := HCS.out; cases cur with
       | none => rfl
       | some c => cases this
      have HS8 : Hid (OuB w2 we Y ov u9 done) := Lib.hid (by simpa using HS7.out)
      have HLN : Hid (done.length ≤ 1000000) := Lib.hid (by have h1 := HDL.out; have h2 := HKL.out; simp at h1; omega)
      cases nb with
      | false =>
       have HGF : Hid (Sp.fin T (Sp.rgo (Sp.lookG g) (Sp.whyG g) (es.drop (j + 1)) (s.drop (j + 1)) (isO.map (·.2), done, none)) = r) := Lib.hid (by
        have h := HGR.out
        have e1 : isO.map (·.2) = old.map (·.2) := by
         have h1 := HNB.out; have h2 := HOB.out
         cases isO with
         | some z => cases h1
         | none => cases old with
          | some z => cases h2
          | none => rfl
        rw [if_pos e1, if_pos e1] at h
        exact h)
       have HLE : Hid ((done ++ (none : Option Sp).toList).length ≤ k + 1) := Lib.hid (by have h1 := HDL.out; simp at h1 ⊢; omega)
       obtain ⟨hth, wf, hwf, hsf⟩ := OuB.setY HS7.out nw
       have HTH := Lib.hid hth
       have HWF := Lib.hid hwf
       have HSF := Lib.hid hsf
       clear hth hwf hsf
       go_wp2_with (first | (refine wpList_load_rowW rfl 49 _ rfl V0 rfl [.int .i64 nw.1, .int .i64 nw.2.1, .int .i64 nw.2.2.1, .int .i64 nw.2.2.2] (.agg #[.int .i64 nw.1, .int .i64 nw.2.1, .int .i64 nw.2.2.1, .int .i64 nw.2.2.2]) rfl _ (range_row HBV.out) Tryd.underlying49 rfl (by kernel_rfl) ?_) | (refine wpList_store_rowN rfl 49 _ _ rfl Y 0 [.int .i64 nw.1, .int .i64 nw.2.1, .int .i64 nw.2.2.1, .int .i64 nw.2.2.2] (.agg ([.int .i64 nw.1, .int .i64 nw.2.1, .int .i64 nw.2.2.1, .int .i64 nw.2.2.2]).toArray) (by go_simp) (by go_simp) rfl HTH.out (by kernel_rfl) (gs_one nw) HWF.out ?_))
       go_roundw
       case rel => exact ⟨k + 1, isO, done, none, by omega, by omega, by go_num, by first | rfl | rw [HNB.out], (by have h1 := HNB.out; cases isO with | none => rfl | some z => cases h1), HFN, Lib.hid (HGP.out _ HGF.out), by first | exact HSF.out | (rw [HNV.out]; exact HSF.out), HLE.out⟩
       case measure => simp [intOf]; omega
      | true =>
       obtain ⟨z, rfl⟩ : ∃ z, isO = some z := by have := HNB.out; cases isO with
        | none => cases this
        | some z => exact ⟨z, rfl⟩
       obtain rfl : nw = z := HNV.out.symm
       have HGF : Hid (Sp.fin T (Sp.rgo (Sp.lookG g) (Sp.whyG g) (es.drop (j + 1)) (s.drop (j + 1)) ((some nw).map (·.2), done, some (Sp.opr y.time (Sp.whyG g (⟨⟨et, em, ek, eg, ep, eq⟩, ew, .slice Av nv cv⟩ : Le)) nw.2))) = r) := Lib.hid (by
        have h := HGR.out
        have e1 : (some nw).map (·.2) ≠ old.map (·.2) := by
         have h2 := HOB.out
         cases old with
         | some z => cases h2
         | none => intro h; cases h
        rw [if_neg e1, if_neg e1] at h
        simpa using h)
       have HLE : Hid ((done ++ (some (Sp.opr y.time (Sp.whyG g (⟨⟨et, em, ek, eg, ep, eq⟩, ew, .slice Av nv cv⟩ : Le)) nw.2)).toList).length ≤ k + 1) := Lib.hid (by have h1 := HDL.out; simp at h1 ⊢; omega)
       have HCX : Hid (∀ v, Ext we v → v.cell? ⟨bs, os + k * 3, none⟩ = some (.int .i64 y.time) ∧ v.cell? ⟨V0, 1, none⟩ = some (.int .i64 nw.2.1) ∧ v.cell? ⟨V0, 2, none⟩ = some (.int .i64 nw.2.2.1) ∧ v.cell? ⟨bl, ol + j * 8, none⟩ = some (.int .i64 et) ∧ v.cell? ⟨bl, ol + j * 8 + 1, none⟩ = some (.int .i64 em) ∧ v.cell? ⟨bl, ol + j * 8 + 2, none⟩ = some (.int .i64 ek) ∧ v.cell? ⟨bl, ol + j * 8 + 3, none⟩ = some (.int .i64 eg) ∧ v.cell? ⟨bl, ol + j * 8 + 4, none⟩ = some (.int .i64 ep) ∧ v.cell? ⟨bl, ol + j * 8 + 5, none⟩ = some (.int .i64 eq) ∧ v.cell? ⟨bl, ol + j * 8 + 6, none⟩ = some (.string ew) ∧ v.cell? ⟨bl, ol + j * 8 + 7, none⟩ = some (.slice Av nv cv)) := Lib.hid fun v hv => by
        have hxv := HS8.out.r.ext.trans hv
        obtain ⟨l0, l1, l2, l3, l4, l5, l6, l7⟩ := HCL.out v hxv
        have h0 := HRY.out v hxv 0 _ rfl
        rw [Nat.add_zero] at h0
        exact ⟨h0, blk_cell (hv.blk HBV.out) 1 _ rfl, blk_cell (hv.blk HBV.out) 2 _ rfl, l0, l1, l2, l3, l4, l5, l6, l7⟩
       go_wp2_with fail
       refine region_gq 24 (fun v => v.cell? ⟨bs, os + k * 3, none⟩ = some (.int .i64 y.time) ∧ v.cell? ⟨V0, 1, none⟩ = some (.int .i64 nw.2.1) ∧ v.cell? ⟨V0, 2, none⟩ = some (.int .i64 nw.2.2.1) ∧ v.cell? ⟨bl, ol + j * 8, none⟩ = some (.int .i64 et) ∧ v.cell? ⟨bl, ol + j * 8 + 1, none⟩ = some (.int .i64 em) ∧ v.cell? ⟨bl, ol + j * 8 + 2, none⟩ = some (.int .i64 ek) ∧ v.cell? ⟨bl, ol + j * 8 + 3, none⟩ = some (.int .i64 eg) ∧ v.cell? ⟨bl, ol + j * 8 + 4, none⟩ = some (.int .i64 ep) ∧ v.cell? ⟨bl, ol + j * 8 + 5, none⟩ = some (.int .i64 eq) ∧ v.cell? ⟨bl, ol + j * 8 + 6, none⟩ = some (.string ew) ∧ v.cell? ⟨bl, ol + j * 8 + 7, none⟩ = some (.slice Av nv cv)) (fun v => Ext we v) (by kernel_rfl) (Ext.refl we).drew (fun _ _ d _ _ h => by cases d <;> exact h) ?_
       intro Q9 HQE HQP
       have HG : ∀ (l : Array Bool) (v : World), Ext we v → l.getD 24 false = false → v.cell? ⟨bs, os + k * 3, none⟩ = some (.int .i64 y.time) ∧ v.cell? ⟨V0, 1, none⟩ = some (.int .i64 nw.2.1) ∧ v.cell? ⟨V0, 2, none⟩ = some (.int .i64 nw.2.2.1) ∧ v.cell? ⟨bl, ol + j * 8, none⟩ = some (.int .i64 et) ∧ v.cell? ⟨bl, ol + j * 8 + 1, none⟩ = some (.int .i64 em) ∧ v.cell? ⟨bl, ol + j * 8 + 2, none⟩ = some (.int .i64 ek) ∧ v.cell? ⟨bl, ol + j * 8 + 3, none⟩ = some (.int .i64 eg) ∧ v.cell? ⟨bl, ol + j * 8 + 4, none⟩ = some (.int .i64 ep) ∧ v.cell? ⟨bl, ol + j * 8 + 5, none⟩ = some (.int .i64 eq) ∧ v.cell? ⟨bl, ol + j * 8 + 6, none⟩ = some (.string ew) ∧ v.cell? ⟨bl, ol + j * 8 + 7, none⟩ = some (.slice Av nv cv) := fun _ v hx _ => HCX.out v hx
       refine g_tk 0 (v := ?_) HG HQP (fun w hS => ?_) ?_
       rotate_left 1
       · go_simp; refine gives_mk ?_ rfl; with_reducible rfl
       refine g_tk 1 (v := ?_) HG HQP (fun w hS => ?_) ?_
       rotate_left 1
       · go_simp; refine gives_mk ?_ rfl; with_reducible rfl
       refine g_tk 2 (v := ?_) HG HQP (fun w hS => ?_) ?_
       rotate_left 1
       · go_simp; refine gives_mk ?_ rfl; with_reducible rfl
       refine g_tk 3 (v := ?_) HG HQP (fun w hS => ?_) ?_
       rotate_left 1
       · go_simp; refine gives_mk ?_ rfl; with_reducible rfl
       refine g_tk 4 (v := ?_) HG HQP (fun w hS => ?_) ?_
       rotate_left 1
       · go_simp; refine gives_mk ?_ rfl; with_reducible rfl
       refine g_tk 5 (v := ?_) HG HQP (fun w hS => ?_) ?_
       rotate_left 1
       · go_simp; refine gives_mk ?_ rfl; with_reducible rfl
       refine g_tk 6 (v := ?_) HG HQP (fun w hS => ?_) ?_
       rotate_left 1
       · go_simp; refine gives_mk ?_ rfl; with_reducible rfl
       refine g_tk 7 (v := ?_) HG HQP (fun w hS => ?_) ?_
       rotate_left 1
       · go_simp; refine gives_mk ?_ rfl; with_reducible rfl
       refine g_tk 8 (v := ?_) HG HQP (fun w hS => ?_) ?_
       rotate_left 1
       · go_simp; refine gives_mk ?_ rfl; with_reducible rfl
       refine g_tk 9 (v := ?_) HG HQP (fun w hS => ?_) ?_
       rotate_left 1
       · go_simp; refine gives_mk ?_ rfl; with_reducible rfl
       refine g_tk 10 (v := ?_) HG HQP (fun w hS => ?_) ?_
       rotate_left 1
       · go_simp; refine gives_mk ?_ rfl; with_reducible rfl
       refine g_tk 11 (v := ?_) HG HQP (fun w hS => ?_) ?_
       rotate_left 1
       · go_simp; refine gives_mk ?_ rfl; with_reducible rfl
       refine g_tk 12 (v := ?_) HG HQP (fun w hS => ?_) ?_
       rotate_left 1
       · go_simp; refine gives_mk ?_ rfl; with_reducible rfl
       refine g_tk 13 (v := ?_) HG HQP (fun w hS => ?_) ?_
       rotate_left 1
       · go_simp; refine gives_mk ?_ rfl; with_reducible rfl
       refine g_tk 14 (v := ?_) HG HQP (fun w hS => ?_) ?_
       rotate_left 1
       · go_simp; refine gives_mk ?_ rfl; with_reducible rfl
       refine g_tk 15 (v := ?_) HG HQP (fun w hS => ?_) ?_
       rotate_left 1
       · go_simp; refine gives_mk ?_ rfl; with_reducible rfl
       refine g_tk 16 (v := ?_) HG HQP (fun w hS => ?_) ?_
       rotate_left 1
       · go_simp; refine gives_mk ?_ rfl; with_reducible rfl
       refine g_tk 17 (v := ?_) HG HQP (fun w hS => ?_) ?_
       rotate_left 1
       · go_simp; refine gives_mk ?_ rfl; with_reducible rfl
       refine g_tk 18 (v := ?_) HG HQP (fun w hS => ?_) ?_
       rotate_left 1
       · go_simp; refine gives_mk ?_ rfl; with_reducible rfl
       refine g_tk 19 (v := ?_) HG HQP (fun w hS => ?_) ?_
       rotate_left 1
       · go_simp; refine gives_mk ?_ rfl; with_reducible rfl
       refine g_tk 20 (v := ?_) HG HQP (fun w hS => ?_) ?_
       rotate_left 1
       · go_simp; refine gives_mk ?_ rfl; with_reducible rfl
       refine g_mid (fun u v => u = .string (Sp.whyG g (⟨⟨et, em, ek, eg, ep, eq⟩, ew, .slice Av nv cv⟩ : Le)) ∧ Ext we v) (k := 21) (by kernel_rfl) (fun _ v hh _ => HCX.out v hh.2) rfl (by kernel_rfl) (fun v hS R hR => ?_) (fun u hu => ?_)
       · have HR := Lib.hid hR
         clear hR
         have HV := Lib.hid hS
         go_simp
         refine givesM_call ((rwhy_any g (⟨⟨et, em, ek, eg, ep, eq⟩, ew, .slice Av nv cv⟩ : Le) v _ rfl).mono ?_)
         rintro e' v2 ⟨rfl, hx2⟩
         exact ⟨_, rfl, HR.out _ _ ⟨rfl, HV.out.trans hx2⟩⟩
       obtain ⟨_, rfl, -⟩ := hu
       refine g_mid (fun u v => u = .agg #[.int .i64 y.time, .int .i64 y.time, .int .i64 nw.2.1, .int .i64 nw.2.2.1, .string (Sp.whyG g (⟨⟨et, em, ek, eg, ep, eq⟩, ew, .slice Av nv cv⟩ : Le))] ∧ Ext we v) (k := 22) (by kernel_rfl) (fun _ v hh _ => HCX.out v hh.2) rfl (by kernel_rfl) (fun v hS R hR => ?_) (fun u hu => ?_)
       · have HR := Lib.hid hR
         clear hR
         go_simp
         refine givesM_val (HR.out _ _ ⟨rfl, hS.2⟩)
       obtain ⟨_, rfl, -⟩ := hu
       refine g_mid (fun u v => ∃ v5, u = .slice (some ⟨v5.heap.size, 0, none⟩) 1 1 ∧ v = v5.alloc (.cells (spL (Sp.opr y.time (Sp.whyG g (⟨⟨et, em, ek, eg, ep, eq⟩, ew, .slice Av nv cv⟩ : Le)) nw.2)).toArray 36) ∧ Ext we v5) (k := 23) (by kernel_rfl) (fun _ v hh _ => by obtain ⟨v5, _, rfl, hx⟩ := hh; exact HCX.out _ (hx.alloc _)) rfl (by kernel_rfl) (fun v hS R hR => ?_) (fun u hu => ?_)
       · have HR := Lib.hid hR
         clear hR
         go_simp
         refine givesM_val (HR.out _ _ ⟨v, rfl, rfl, hS.2⟩)
       obtain ⟨_, w5, rfl, -, -⟩ := hu
       generalize w5.heap.size = V5
       clear w5
       refine g_mid (fun u v => OuB w2 v Y ov u (done ++ [(Sp.opr y.time (Sp.whyG g (⟨⟨et, em, ek, eg, ep, eq⟩, ew, .slice Av nv cv⟩ : Le)) nw.2)]) ∧ v.heap[V0]? = some (.cells (gsC nw) 49 (0, 0))) (k := 24) (by kernel_rfl) (fun v w _ h0 => by cases h0) rfl (by kernel_rfl) (fun v hS R hR => ?_) (fun u hu => ?_)
       · have HR := Lib.hid hR
         clear hR
         obtain ⟨v5, hV, hv, hx⟩ := hS
         simp only [Value.slice.injEq, Option.some.injEq, Addr.mk.injEq, and_true] at hV
         subst hV hv
         obtain ⟨un, wn, hr1, hs1, hk1⟩ := (HS8.out.more hx).push (Sp.opr y.time (Sp.whyG g (⟨⟨et, em, ek, eg, ep, eq⟩, ew, .slice Av nv cv⟩ : Le)) nw.2) HLN.out
         refine givesM_append _ _ 27 rfl _ _ (by go_simp) (by go_simp) hr1 ?_
         exact HR.out _ _ ⟨hs1, (hk1 _ _ (hx.blk HBV.out) HUV.out).1⟩
       obtain ⟨_, hu9, -⟩ := hu
       refine g_end (k := 25) (by kernel_rfl) (by kernel_rfl) (by kernel_rfl) rfl (by kernel_rfl) (fun w9 hS R hR => ?_)
       have HR := Lib.hid hR
       clear hR hu9
       obtain ⟨hs9, hv9⟩ := hS
       have HS9 := Lib.hid hs9
       have HV9 := Lib.hid hv9
       clear hs9 hv9
       have hq9 := HQE.out
       subst hq9
       clear HQE HQP HG HCX
       go_simp
       refine givesM_val (HR.out _ _ ?_)
       go_simp
       obtain ⟨hth, wf, hwf, hsf⟩ := OuB.setY HS9.out nw
       have HTH := Lib.hid hth
       have HWF := Lib.hid hwf
       have HSF := Lib.hid hsf
       clear hth hwf hsf
       go_wp2_with (first | (refine wpList_load_rowW rfl 49 _ rfl V0 rfl [.int .i64 nw.1, .int .i64 nw.2.1, .int .i64 nw.2.2.1, .int .i64 nw.2.2.2] (.agg #[.int .i64 nw.1, .int .i64 nw.2.1, .int .i64 nw.2.2.1, .int .i64 nw.2.2.2]) rfl _ (range_row HV9.out) Tryd.underlying49 rfl (by kernel_rfl) ?_) | (refine wpList_store_rowN rfl 49 _ _ rfl Y 0 [.int .i64 nw.1, .int .i64 nw.2.1, .int .i64 nw.2.2.1, .int .i64 nw.2.2.2] (.agg ([.int .i64 nw.1, .int .i64 nw.2.1, .int .i64 nw.2.2.1, .int .i64 nw.2.2.2]).toArray) (by go_simp) (by go_simp) rfl HTH.out (by kernel_rfl) (gs_one nw) HWF.out ?_))
       go_roundw
       case rel => exact ⟨k + 1, some nw, done, some (Sp.opr y.time (Sp.whyG g (⟨⟨et, em, ek, eg, ep, eq⟩, ew, .slice Av nv cv⟩ : Le)) nw.2), by omega, by omega, by go_num, by first | rfl | rw [HNB.out], rfl, HFN, Lib.hid (HGP.out _ HGF.out), by first | exact HSF.out | (rw [HNV.out]; exact HSF.out), HLE.out⟩
       case measure => simp [intOf]; omega
     | true =>
      obtain ⟨c1, rfl⟩ : ∃ c, cur = some c := by have := HCS.out; cases cur with
       | none => cases this
       | some c => exact ⟨c, rfl⟩
      obtain ⟨gb, cg, hu, hgl, hcell, hfz, hupd, hown, hse⟩ := OuB.ends (done := done) (s := c1) HS7.out y.time
      have q0 := HRY.out _ HS7.out.r.ext 0 _ rfl
      rw [Nat.add_zero] at q0
      have hVg : V0 ≠ gb := fun e => HUV.out (by rw [hown, e])
      have HUO := Lib.hid hu
      subst hu
      obtain ⟨n, hn⟩ : ∃ n, done.length = n := ⟨_, rfl⟩
      rw [hn] at hcell hfz hse hupd ⊢
      obtain ⟨wg, hwg⟩ : ∃ wg, we.setCell ⟨gb, n * 5 + 1, none⟩ (.int .i64 y.time) = wg := ⟨_, rfl⟩
      rw [hwg] at hse hupd
      have HSE := Lib.hid hse
      have HWG := Lib.hid hwg
      have HBG := Lib.hid (hupd.blk HBV.out hVg)
      have en : (n : Int) + 1 - 1 = (n : Int) := by omega
      have hnk : (n : Int) ≤ 1001 := by have h1 := HDL.out; have h2 := HKL.out; simp at h1; omega
      have HLN : Hid ((done ++ [Sp.close y.time c1]).length ≤ 1000000) := Lib.hid (by have h1 := HDL.out; have h2 := HKL.out; simp at h1 ⊢; omega)
      clear hgl hse hwg hn hupd hown hVg HS7 HBV
      go_upto_region 14 with fail
      rw [HWG.out]
      clear hcell hfz q0
      cases nb with
      | false =>
       have HGF : Hid (Sp.fin T (Sp.rgo (Sp.lookG g) (Sp.whyG g) (es.drop (j + 1)) (s.drop (j + 1)) (isO.map (·.2), done ++ [Sp.close y.time c1], none)) = r) := Lib.hid (by
        have h := HGR.out
        have e1 : isO.map (·.2) ≠ old.map (·.2) := by
         have h1 := HNB.out; have h2 := HOB.out
         cases isO with
         | some z => cases h1
         | none => cases old with
          | none => cases h2
          | some z => intro h; cases h
        have e2 : isO = none := by have h1 := HNB.out; cases isO with | none => rfl | some z => cases h1
        rw [if_neg e1, if_neg e1] at h
        rw [e2] at h ⊢
        exact h)
       have HSN2 : Hid (OuB w2 wg Y ov (.slice (some ⟨gb, 0, none⟩) (n + 1) cg) (done ++ [Sp.close y.time c1] ++ (none : Option Sp).toList)) := Lib.hid (by simpa using HSE.out)
       have HLE : Hid ((done ++ [Sp.close y.time c1] ++ (none : Option Sp).toList).length ≤ k + 1) := Lib.hid (by have h1 := HDL.out; simp at h1 ⊢; omega)
       obtain ⟨hth, wf, hwf, hsf⟩ := OuB.setY HSN2.out nw
       have HTH := Lib.hid hth
       have HWF := Lib.hid hwf
       have HSF := Lib.hid hsf
       clear hth hwf hsf
       go_wp2_with (first | (refine wpList_load_rowW rfl 49 _ rfl V0 rfl [.int .i64 nw.1, .int .i64 nw.2.1, .int .i64 nw.2.2.1, .int .i64 nw.2.2.2] (.agg #[.int .i64 nw.1, .int .i64 nw.2.1, .int .i64 nw.2.2.1, .int .i64 nw.2.2.2]) rfl _ (range_row HBG.out) Tryd.underlying49 rfl (by kernel_rfl) ?_) | (refine wpList_store_rowN rfl 49 _ _ rfl Y 0 [.int .i64 nw.1, .int .i64 nw.2.1, .int .i64 nw.2.2.1, .int .i64 nw.2.2.2] (.agg ([.int .i64 nw.1, .int .i64 nw.2.1, .int .i64 nw.2.2.1, .int .i64 nw.2.2.2]).toArray) (by go_simp) (by go_simp) rfl HTH.out (by kernel_rfl) (gs_one nw) HWF.out ?_))
       go_roundw
       case rel => exact ⟨k + 1, isO, (done ++ [Sp.close y.time c1]), none, by omega, by omega, by go_num, by first | rfl | rw [HNB.out], (by have h1 := HNB.out; cases isO with | none => rfl | some z => cases h1), HFN, Lib.hid (HGP.out _ HGF.out), by first | exact HSF.out | (rw [HNV.out]; exact HSF.out), HLE.out⟩
       case measure => simp [intOf]; omega
      | true =>
       obtain ⟨z, rfl⟩ : ∃ z, isO = some z := by have := HNB.out; cases isO with
        | none => cases this
        | some z => exact ⟨z, rfl⟩
       obtain rfl : nw = z := HNV.out.symm
       obtain ⟨z', rfl⟩ : ∃ z, old = some z := by have := HOB.out; cases old with
        | none => cases this
        | some z => exact ⟨z, rfl⟩
       obtain rfl : ov = z' := HOV.out.symm
       have HEQ : Hid (nw.1 = ov.1) := Lib.hid (by rw [HFN.out nw rfl, HOF.out ov rfl])
       have v0' : wg.rangeAt V0 0 [.int .i64 nw.1, .int .i64 nw.2.1, .int .i64 nw.2.2.1, .int .i64 nw.2.2.2] := range_row HBG.out
       have HRV := Lib.hid v0'
       have HRY0 : Hid (wg.rangeAt Y 0 [.int .i64 ov.1, .int .i64 ov.2.1, .int .i64 ov.2.2.1, .int .i64 ov.2.2.2]) := Lib.hid (range_row HSE.out.ybox)
       have he := run_eqG4 nw ov
       clear v0'
       by_cases hq : nw = ov
       · have HGF : Hid (Sp.fin T (Sp.rgo (Sp.lookG g) (Sp.whyG g) (es.drop (j + 1)) (s.drop (j + 1)) ((some nw).map (·.2), done, some (Sp.close y.time c1))) = r) := Lib.hid (by
          have h := HGR.out
          rw [if_pos (by rw [hq]), if_pos (by rw [hq])] at h
          exact h)
         have hq' : ∀ w, (Op.equalIn 10000 49 (.agg #[.int .i64 nw.1, .int .i64 nw.2.1, .int .i64 nw.2.2.1, .int .i64 nw.2.2.2]) (.agg #[.int .i64 ov.1, .int .i64 ov.2.1, .int .i64 ov.2.2.1, .int .i64 ov.2.2.2])).run Tryd.prog w = .ok true w := fun w => by have := he w; rw [decide_eq_true hq] at this; exact this
         have HLE : Hid ((done ++ (some (Sp.close y.time c1)).toList).length ≤ k + 1) := Lib.hid (by have h1 := HDL.out; simp at h1 ⊢; omega)
         clear he hq
         go_upto_if 79 with (first | (refine wpList_load_rowW rfl 49 _ (by rfl) V0 rfl [.int .i64 nw.1, .int .i64 nw.2.1, .int .i64 nw.2.2.1, .int .i64 nw.2.2.2] (.agg #[.int .i64 nw.1, .int .i64 nw.2.1, .int .i64 nw.2.2.1, .int .i64 nw.2.2.2]) rfl _ HRV.out Tryd.underlying49 rfl (by kernel_rfl) ?_) | (refine wpList_load_rowW rfl 49 _ (by rfl) Y rfl [.int .i64 ov.1, .int .i64 ov.2.1, .int .i64 ov.2.2.1, .int .i64 ov.2.2.2] (.agg #[.int .i64 ov.1, .int .i64 ov.2.1, .int .i64 ov.2.2.1, .int .i64 ov.2.2.2]) rfl _ HRY0.out Tryd.underlying49 rfl (by kernel_rfl) ?_))
         clear hq'
         obtain ⟨hth, wf, hwf, hsf⟩ := OuB.setY HSE.out nw
         have HTH := Lib.hid hth
         have HWF := Lib.hid hwf
         have HSF := Lib.hid hsf
         clear hth hwf hsf
         go_wp2_with (first | (refine wpList_load_rowW rfl 49 _ rfl V0 rfl [.int .i64 nw.1, .int .i64 nw.2.1, .int .i64 nw.2.2.1, .int .i64 nw.2.2.2] (.agg #[.int .i64 nw.1, .int .i64 nw.2.1, .int .i64 nw.2.2.1, .int .i64 nw.2.2.2]) rfl _ (range_row HBG.out) Tryd.underlying49 rfl (by kernel_rfl) ?_) | (refine wpList_store_rowN rfl 49 _ _ rfl Y 0 [.int .i64 nw.1, .int .i64 nw.2.1, .int .i64 nw.2.2.1, .int .i64 nw.2.2.2] (.agg ([.int .i64 nw.1, .int .i64 nw.2.1, .int .i64 nw.2.2.1, .int .i64 nw.2.2.2]).toArray) (by go_simp) (by go_simp) rfl HTH.out (by kernel_rfl) (gs_one nw) HWF.out ?_))
         go_roundw
         case rel => exact ⟨k + 1, some nw, done, (some (Sp.close y.time c1)), by omega, by omega, by go_num, by first | rfl | rw [HNB.out], rfl, HFN, Lib.hid (HGP.out _ HGF.out), by first | exact HSF.out | (rw [HNV.out]; exact HSF.out), HLE.out⟩
         case measure => simp [intOf]; omega
       · have HGF : Hid (Sp.fin T (Sp.rgo (Sp.lookG g) (Sp.whyG g) (es.drop (j + 1)) (s.drop (j + 1)) ((some nw).map (·.2), done ++ [Sp.close y.time c1], some (Sp.opr y.time (Sp.whyG g (⟨⟨et, em, ek, eg, ep, eq⟩, ew, .slice Av nv cv⟩ : Le)) nw.2))) = r) := Lib.hid (by
          have h := HGR.out
          have e1 : (some nw).map (·.2) ≠ (some ov).map (·.2) := by
           intro h
           simp only [Option.map_some, Option.some.injEq] at h
           exact hq (Prod.ext HEQ.out h)
          rw [if_neg e1, if_neg e1] at h
          simpa using h)
         have hq' : ∀ w, (Op.equalIn 10000 49 (.agg #[.int .i64 nw.1, .int .i64 nw.2.1, .int .i64 nw.2.2.1, .int .i64 nw.2.2.2]) (.agg #[.int .i64 ov.1, .int .i64 ov.2.1, .int .i64 ov.2.2.1, .int .i64 ov.2.2.2])).run Tryd.prog w = .ok false w := fun w => by have := he w; rw [decide_eq_false hq] at this; exact this
         have HLE : Hid ((done ++ [Sp.close y.time c1] ++ (some (Sp.opr y.time (Sp.whyG g (⟨⟨et, em, ek, eg, ep, eq⟩, ew, .slice Av nv cv⟩ : Le)) nw.2)).toList).length ≤ k + 1) := Lib.hid (by have h1 := HDL.out; simp at h1 ⊢; omega)
         clear he hq
         go_upto_if 79 with (first | (refine wpList_load_rowW rfl 49 _ (by rfl) V0 rfl [.int .i64 nw.1, .int .i64 nw.2.1, .int .i64 nw.2.2.1, .int .i64 nw.2.2.2] (.agg #[.int .i64 nw.1, .int .i64 nw.2.1, .int .i64 nw.2.2.1, .int .i64 nw.2.2.2]) rfl _ HRV.out Tryd.underlying49 rfl (by kernel_rfl) ?_) | (refine wpList_load_rowW rfl 49 _ (by rfl) Y rfl [.int .i64 ov.1, .int .i64 ov.2.1, .int .i64 ov.2.2.1, .int .i64 ov.2.2.2] (.agg #[.int .i64 ov.1, .int .i64 ov.2.1, .int .i64 ov.2.2.1, .int .i64 ov.2.2.2]) rfl _ HRY0.out Tryd.underlying49 rfl (by kernel_rfl) ?_))
         clear hq'
         have HCX : Hid (∀ v, Ext wg v → v.cell? ⟨bs, os + k * 3, none⟩ = some (.int .i64 y.time) ∧ v.cell? ⟨V0, 1, none⟩ = some (.int .i64 nw.2.1) ∧ v.cell? ⟨V0, 2, none⟩ = some (.int .i64 nw.2.2.1) ∧ v.cell? ⟨bl, ol + j * 8, none⟩ = some (.int .i64 et) ∧ v.cell? ⟨bl, ol + j * 8 + 1, none⟩ = some (.int .i64 em) ∧ v.cell? ⟨bl, ol + j * 8 + 2, none⟩ = some (.int .i64 ek) ∧ v.cell? ⟨bl, ol + j * 8 + 3, none⟩ = some (.int .i64 eg) ∧ v.cell? ⟨bl, ol + j * 8 + 4, none⟩ = some (.int .i64 ep) ∧ v.cell? ⟨bl, ol + j * 8 + 5, none⟩ = some (.int .i64 eq) ∧ v.cell? ⟨bl, ol + j * 8 + 6, none⟩ = some (.string ew) ∧ v.cell? ⟨bl, ol + j * 8 + 7, none⟩ = some (.slice Av nv cv)) := Lib.hid fun v hv => by
          have hxv := HSE.out.r.ext.trans hv
          obtain ⟨l0, l1, l2, l3, l4, l5, l6, l7⟩ := HCL.out v hxv
          have h0 := HRY.out v hxv 0 _ rfl
          rw [Nat.add_zero] at h0
          exact ⟨h0, blk_cell (hv.blk HBG.out) 1 _ rfl, blk_cell (hv.blk HBG.out) 2 _ rfl, l0, l1, l2, l3, l4, l5, l6, l7⟩
         go_wp2_with fail
         refine region_gq 24 (fun v => v.cell? ⟨bs, os + k * 3, none⟩ = some (.int .i64 y.time) ∧ v.cell? ⟨V0, 1, none⟩ = some (.int .i64 nw.2.1) ∧ v.cell? ⟨V0, 2, none⟩ = some (.int .i64 nw.2.2.1) ∧ v.cell? ⟨bl, ol + j * 8, none⟩ = some (.int .i64 et) ∧ v.cell? ⟨bl, ol + j * 8 + 1, none⟩ = some (.int .i64 em) ∧ v.cell? ⟨bl, ol + j * 8 + 2, none⟩ = some (.int .i64 ek) ∧ v.cell? ⟨bl, ol + j * 8 + 3, none⟩ = some (.int .i64 eg) ∧ v.cell? ⟨bl, ol + j * 8 + 4, none⟩ = some (.int .i64 ep) ∧ v.cell? ⟨bl, ol + j * 8 + 5, none⟩ = some (.int .i64 eq) ∧ v.cell? ⟨bl, ol + j * 8 + 6, none⟩ = some (.string ew) ∧ v.cell? ⟨bl, ol + j * 8 + 7, none⟩ = some (.slice Av nv cv)) (fun v => Ext wg v) (by kernel_rfl) (Ext.refl wg).drew (fun _ _ d _ _ h => by cases d <;> exact h) ?_
         intro Q9 HQE HQP
         have HG : ∀ (l : Array Bool) (v : World), Ext wg v → l.getD 24 false = false → v.cell? ⟨bs, os + k * 3, none⟩ = some (.int .i64 y.time) ∧ v.cell? ⟨V0, 1, none⟩ = some (.int .i64 nw.2.1) ∧ v.cell? ⟨V0, 2, none⟩ = some (.int .i64 nw.2.2.1) ∧ v.cell? ⟨bl, ol + j * 8, none⟩ = some (.int .i64 et) ∧ v.cell? ⟨bl, ol + j * 8 + 1, none⟩ = some (.int .i64 em) ∧ v.cell? ⟨bl, ol + j * 8 + 2, none⟩ = some (.int .i64 ek) ∧ v.cell? ⟨bl, ol + j * 8 + 3, none⟩ = some (.int .i64 eg) ∧ v.cell? ⟨bl, ol + j * 8 + 4, none⟩ = some (.int .i64 ep) ∧ v.cell? ⟨bl, ol + j * 8 + 5, none⟩ = some (.int .i64 eq) ∧ v.cell? ⟨bl, ol + j * 8 + 6, none⟩ = some (.string ew) ∧ v.cell? ⟨bl, ol + j * 8 + 7, none⟩ = some (.slice Av nv cv) := fun _ v hx _ => HCX.out v hx
         refine g_tk 0 (v := ?_) HG HQP (fun w hS => ?_) ?_
         rotate_left 1
         · go_simp; refine gives_mk ?_ rfl; with_reducible rfl
         refine g_tk 1 (v := ?_) HG HQP (fun w hS => ?_) ?_
         rotate_left 1
         · go_simp; refine gives_mk ?_ rfl; with_reducible rfl
         refine g_tk 2 (v := ?_) HG HQP (fun w hS => ?_) ?_
         rotate_left 1
         · go_simp; refine gives_mk ?_ rfl; with_reducible rfl
         refine g_tk 3 (v := ?_) HG HQP (fun w hS => ?_) ?_
         rotate_left 1
         · go_simp; refine gives_mk ?_ rfl; with_reducible rfl
         refine g_tk 4 (v := ?_) HG HQP (fun w hS => ?_) ?_
         rotate_left 1
         · go_simp; refine gives_mk ?_ rfl; with_reducible rfl
         refine g_tk 5 (v := ?_) HG HQP (fun w hS => ?_) ?_
         rotate_left 1
         · go_simp; refine gives_mk ?_ rfl; with_reducible rfl
         refine g_tk 6 (v := ?_) HG HQP (fun w hS => ?_) ?_
         rotate_left 1
         · go_simp; refine gives_mk ?_ rfl; with_reducible rfl
         refine g_tk 7 (v := ?_) HG HQP (fun w hS => ?_) ?_
         rotate_left 1
         · go_simp; refine gives_mk ?_ rfl; with_reducible rfl
         refine g_tk 8 (v := ?_) HG HQP (fun w hS => ?_) ?_
         rotate_left 1
         · go_simp; refine gives_mk ?_ rfl; with_reducible rfl
         refine g_tk 9 (v := ?_) HG HQP (fun w hS => ?_) ?_
         rotate_left 1
         · go_simp; refine gives_mk ?_ rfl; with_reducible rfl
         refine g_tk 10 (v := ?_) HG HQP (fun w hS => ?_) ?_
         rotate_left 1
         · go_simp; refine gives_mk ?_ rfl; with_reducible rfl
         refine g_tk 11 (v := ?_) HG HQP (fun w hS => ?_) ?_
         rotate_left 1
         · go_simp; refine gives_mk ?_ rfl; with_reducible rfl
         refine g_tk 12 (v := ?_) HG HQP (fun w hS => ?_) ?_
         rotate_left 1
         · go_simp; refine gives_mk ?_ rfl; with_reducible rfl
         refine g_tk 13 (v := ?_) HG HQP (fun w hS => ?_) ?_
         rotate_left 1
         · go_simp; refine gives_mk ?_ rfl; with_reducible rfl
         refine g_tk 14 (v := ?_) HG HQP (fun w hS => ?_) ?_
         rotate_left 1
         · go_simp; refine gives_mk ?_ rfl; with_reducible rfl
         refine g_tk 15 (v := ?_) HG HQP (fun w hS => ?_) ?_
         rotate_left 1
         · go_simp; refine gives_mk ?_ rfl; with_reducible rfl
         refine g_tk 16 (v := ?_) HG HQP (fun w hS => ?_) ?_
         rotate_left 1
         · go_simp; refine gives_mk ?_ rfl; with_reducible rfl
         refine g_tk 17 (v := ?_) HG HQP (fun w hS => ?_) ?_
         rotate_left 1
         · go_simp; refine gives_mk ?_ rfl; with_reducible rfl
         refine g_tk 18 (v := ?_) HG HQP (fun w hS => ?_) ?_
         rotate_left 1
         · go_simp; refine gives_mk ?_ rfl; with_reducible rfl
         refine g_tk 19 (v := ?_) HG HQP (fun w hS => ?_) ?_
         rotate_left 1
         · go_simp; refine gives_mk ?_ rfl; with_reducible rfl
         refine g_tk 20 (v := ?_) HG HQP (fun w hS => ?_) ?_
         rotate_left 1
         · go_simp; refine gives_mk ?_ rfl; with_reducible rfl
         refine g_mid (fun u v => u = .string (Sp.whyG g (⟨⟨et, em, ek, eg, ep, eq⟩, ew, .slice Av nv cv⟩ : Le)) ∧ Ext wg v) (k := 21) (by kernel_rfl) (fun _ v hh _ => HCX.out v hh.2) rfl (by kernel_rfl) (fun v hS R hR => ?_) (fun u hu => ?_)
         · have HR := Lib.hid hR
           clear hR
           have HV := Lib.hid hS
           go_simp
           refine givesM_call ((rwhy_any g (⟨⟨et, em, ek, eg, ep, eq⟩, ew, .slice Av nv cv⟩ : Le) v _ rfl).mono ?_)
           rintro e' v2 ⟨rfl, hx2⟩
           exact ⟨_, rfl, HR.out _ _ ⟨rfl, HV.out.trans hx2⟩⟩
         obtain ⟨_, rfl, -⟩ := hu
         refine g_mid (fun u v => u = .agg #[.int .i64 y.time, .int .i64 y.time, .int .i64 nw.2.1, .int .i64 nw.2.2.1, .string (Sp.whyG g (⟨⟨et, em, ek, eg, ep, eq⟩, ew, .slice Av nv cv⟩ : Le))] ∧ Ext wg v) (k := 22) (by kernel_rfl) (fun _ v hh _ => HCX.out v hh.2) rfl (by kernel_rfl) (fun v hS R hR => ?_) (fun u hu => ?_)
         · have HR := Lib.hid hR
           clear hR
           go_simp
           refine givesM_val (HR.out _ _ ⟨rfl, hS.2⟩)
         obtain ⟨_, rfl, -⟩ := hu
         refine g_mid (fun u v => ∃ v5, u = .slice (some ⟨v5.heap.size, 0, none⟩) 1 1 ∧ v = v5.alloc (.cells (spL (Sp.opr y.time (Sp.whyG g (⟨⟨et, em, ek, eg, ep, eq⟩, ew, .slice Av nv cv⟩ : Le)) nw.2)).toArray 36) ∧ Ext wg v5) (k := 23) (by kernel_rfl) (fun _ v hh _ => by obtain ⟨v5, _, rfl, hx⟩ := hh; exact HCX.out _ (hx.alloc _)) rfl (by kernel_rfl) (fun v hS R hR => ?_) (fun u hu => ?_)
         · have HR := Lib.hid hR
           clear hR
           go_simp
           refine givesM_val (HR.out _ _ ⟨v, rfl, rfl, hS.2⟩)
         obtain ⟨_, w5, rfl, -, -⟩ := hu
         generalize w5.heap.size = V5
         clear w5
         refine g_mid (fun u v => OuB w2 v Y ov u ((done ++ [Sp.close y.time c1]) ++ [(Sp.opr y.time (Sp.whyG g (⟨⟨et, em, ek, eg, ep, eq⟩, ew, .slice Av nv cv⟩ : Le)) nw.2)]) ∧ v.heap[V0]? = some (.cells (gsC nw) 49 (0, 0))) (k := 24) (by kernel_rfl) (fun v w _ h0 => by cases h0) rfl (by kernel_rfl) (fun v hS R hR => ?_) (fun u hu => ?_)
         · have HR := Lib.hid hR
           clear hR
           obtain ⟨v5, hV, hv, hx⟩ := hS
           simp only [Value.slice.injEq, Option.some.injEq, Addr.mk.injEq, and_true] at hV
           subst hV hv
           obtain ⟨un, wn, hr1, hs1, hk1⟩ := (HSE.out.more hx).push (Sp.opr y.time (Sp.whyG g (⟨⟨et, em, ek, eg, ep, eq⟩, ew, .slice Av nv cv⟩ : Le)) nw.2) HLN.out
           refine givesM_append _ _ 27 rfl _ _ (by go_simp) (by go_simp) hr1 ?_
           exact HR.out _ _ ⟨hs1, (hk1 _ _ (hx.blk HBG.out) HUV.out).1⟩
         obtain ⟨_, hu9, -⟩ := hu
         refine g_end (k := 25) (by kernel_rfl) (by kernel_rfl) (by kernel_rfl) rfl (by kernel_rfl) (fun w9 hS R hR => ?_)
         have HR := Lib.hid hR
         clear hR hu9
         obtain ⟨hs9, hv9⟩ := hS
         have HS9 := Lib.hid hs9
         have HV9 := Lib.hid hv9
         clear hs9 hv9
         have hq9 := HQE.out
         subst hq9
         clear HQE HQP HG HCX
         go_simp
         refine givesM_val (HR.out _ _ ?_)
         go_simp
         obtain ⟨hth, wf, hwf, hsf⟩ := OuB.setY HS9.out nw
         have HTH := Lib.hid hth
         have HWF := Lib.hid hwf
         have HSF := Lib.hid hsf
         clear hth hwf hsf
         go_wp2_with (first | (refine wpList_load_rowW rfl 49 _ rfl V0 rfl [.int .i64 nw.1, .int .i64 nw.2.1, .int .i64 nw.2.2.1, .int .i64 nw.2.2.2] (.agg #[.int .i64 nw.1, .int .i64 nw.2.1, .int .i64 nw.2.2.1, .int .i64 nw.2.2.2]) rfl _ (range_row HV9.out) Tryd.underlying49 rfl (by kernel_rfl) ?_) | (refine wpList_store_rowN rfl 49 _ _ rfl Y 0 [.int .i64 nw.1, .int .i64 nw.2.1, .int .i64 nw.2.2.1, .int .i64 nw.2.2.2] (.agg ([.int .i64 nw.1, .int .i64 nw.2.1, .int .i64 nw.2.2.1, .int .i64 nw.2.2.2]).toArray) (by go_simp) (by go_simp) rfl HTH.out (by kernel_rfl) (gs_one nw) HWF.out ?_))
         go_roundw
         case rel => exact ⟨k + 1, some nw, (done ++ [Sp.close y.time c1]), (some (Sp.opr y.time (Sp.whyG g (⟨⟨et, em, ek, eg, ep, eq⟩, ew, .slice Av nv cv⟩ : Le)) nw.2)), by omega, by omega, by go_num, by first | rfl | rw [HNB.out], rfl, HFN, Lib.hid (HGP.out _ HGF.out), by first | exact HSF.out | (rw [HNV.out]; exact HSF.out), HLE.out⟩
         case measure => simp [intOf]; omega
   · obtain rfl : k = nv0 := by omega
     have HGE : Hid (done ++ (cur.map (Sp.close T)).toList = r) := Lib.hid (by
      have h := HGO.out
      have e1 : es.drop (k - 1) = [] := by rw [show k - 1 = es.length by have := HVL.out; omega]; exact List.drop_length
      rw [e1] at h
      unfold Sp.rgo Sp.fin at h
      exact h)
     cases ob with
     | false =>
      obtain rfl : cur = none := by have := HCS.out; cases cur with
       | none => rfl
       | some c => cases this
      have HRW : Hid (RowsAt 5 spL wr u9 r) := Lib.hid (by have h := HS1.out.r.own.rows spL_len; rw [← HGE.out]; exact h)
      have HXF := Lib.hid (X2.out.trans HS1.out.r.ext)
      go_wp2
      go_ret
      exact ⟨_, rfl, HRW.out, HXF.out⟩
     | true =>
      obtain ⟨c1, rfl⟩ : ∃ c, cur = some c := by have := HCS.out; cases cur with
       | none => cases this
       | some c => exact ⟨c, rfl⟩
      obtain ⟨sv, hsv⟩ : ∃ sv, (({ x := y0, A := A0, c := c0, D := D0, d := d0 } : Sv) :: vs')[j]? = some sv := ⟨_, List.getElem?_eq_getElem (by rw [HNV.out]; have := HKJ.out; omega)⟩
      obtain ⟨y, Ay, cy, Dy, dy⟩ := sv
      have hty : y.time = T := by
       have h1 : (y0 :: s)[j]? = some y := by
        have h2 := congrArg (Option.map (·.x)) hsv
        rw [← List.getElem?_map, List.map_cons, HVS.out] at h2
        exact h2
       have h3 : (y0 :: s).length = k := by rw [← HNV.out, List.length_cons, List.length_cons, ← HVS.out, List.length_map]
       rw [← HT.out, List.getLast_eq_getElem]
       have h4 := List.getElem?_eq_some_iff.1 h1
       obtain ⟨h5, h6⟩ := h4
       have h7 : (y0 :: s).length - 1 = j := by have := HKJ.out; omega
       simp only [h7, h6]
      obtain ⟨b', o', hb', -, hry, -⟩ := sv_get HROW.out HALL.out hsv
      simp only [Option.some.injEq, Addr.mk.injEq, and_true] at hb'
      obtain ⟨hb1, hb2⟩ := hb'
      subst hb1 hb2
      simp only at hry
      rw [hty] at hry
      obtain ⟨gb, cg, hu, hgl, hcell, hfz, hupd, hown, hse⟩ := OuB.ends (done := done) (s := c1) HS1.out T
      have q0 := hry _ HS1.out.r.ext 0 _ rfl
      rw [Nat.add_zero] at q0
      subst hu
      obtain ⟨n, hn⟩ : ∃ n, done.length = n := ⟨_, rfl⟩
      rw [hn] at hcell hfz hse hupd ⊢
      obtain ⟨wg, hwg⟩ : ∃ wg, wr.setCell ⟨gb, n * 5 + 1, none⟩ (.int .i64 T) = wg := ⟨_, rfl⟩
      rw [hwg] at hse hupd
      have HXF := Lib.hid (X2.out.trans hse.r.ext)
      have HWG := Lib.hid hwg
      have HRW : Hid (RowsAt 5 spL wg (.slice (some ⟨gb, 0, none⟩) (n + 1) cg) r) := Lib.hid (by have h := hse.r.own.rows spL_len; rw [← HGE.out]; exact h)
      have en : (n : Int) + 1 - 1 = (n : Int) := by omega
      have hnk : (n : Int) ≤ 1001 := by have h1 := HDL.out; simp at h1; omega
      have hj0 : (0 : Int) ≤ (j : Int) := by omega
      have hjb : (j : Int) < (k : Int) := by omega
      clear hgl hse hwg hn hupd hown hry hsv hty HS1
      go_upto_region 20 with fail
      rw [HWG.out]
      clear hcell hfz q0
      go_wp2
      go_ret
      exact ⟨_, rfl, HRW.out, HXF.out⟩
 | true =>
  obtain ⟨z, rfl⟩ : ∃ z, oa = some z := by have := HB0.out; cases oa with
   | none => cases this
   | some z => exact ⟨z, rfl⟩
  obtain rfl : z = v0 := HV0.out
  have HGO0 : Hid (Sp.fin T (Sp.rgo (Sp.lookG g) (Sp.whyG g) es s ((some z).map (·.2), [], some ⟨y0.time, 0, z.2.1, z.2.2.1, ByteArray.empty⟩)) = r) := Lib.hid (by have := HFIN.out; rw [HLK.out] at this; exact (Sp.fin_cur (c := ⟨y0.time, 0, z.2.1, z.2.2.1, ByteArray.empty⟩) (d := Sp.opr y0.time ByteArray.empty z.2) (fun t => rfl)).trans this)
  have x0 : wy.cell? ⟨X, 0, none⟩ = some (.int .i64 y0.time) := blk_cell ((HS0.out.r.ext).blk HB2.out) 0 _ rfl
  have q1 : wy.cell? ⟨Y, 1, none⟩ = some (.int .i64 z.2.1) := blk_cell HS0.out.ybox 1 _ rfl
  have q2 : wy.cell? ⟨Y, 2, none⟩ = some (.int .i64 z.2.2.1) := blk_cell HS0.out.ybox 2 _ rfl
  obtain ⟨un, wn, hr8, hs8, -⟩ := HS0.out.push ⟨y0.time, 0, z.2.1, z.2.2.1, ByteArray.empty⟩ (by simp)
  have HR8 := Lib.hid hr8
  have HS8 := Lib.hid hs8
  clear hr8 hs8
  go_upto_region 8 with (at_builtin; refine wpList_append_run rfl _ _ 27 rfl _ _ rfl rfl HR8.out ?_)
  clear x0 q1 q2
  go_wp2_with fail
  go_loopw [9, 11, 12] (fun uv tv iv wr => ∃ (k : Nat) (old : Option Gs4) (done : List Sp) (cur : Option Sp), 1 ≤ k ∧ k ≤ nv0 ∧ iv = .int .i64 k ∧ tv = .bool old.isSome ∧ cur.isSome = old.isSome ∧ Hid (∀ z, old = some z → z.1 = g) ∧ Hid (Sp.fin T (Sp.rgo (Sp.lookG g) (Sp.whyG g) (es.drop (k - 1)) (s.drop (k - 1)) (old.map (·.2), done, cur)) = r) ∧ OuB w2 wr Y (old.getD (0, 0, 0, 0)) uv (done ++ cur.toList) ∧ (done ++ cur.toList).length ≤ k) (fun _ _ iv _ => nv0 - (intOf iv).toNat)
  case atStart => exact ⟨1, some z, [], some ⟨y0.time, 0, z.2.1, z.2.2.1, ByteArray.empty⟩, by omega, by omega, rfl, rfl, rfl, HFST, HGO0, by have h := HV0.out; rw [h]; exact HS8.out, by simp⟩
  case round =>
   obtain ⟨k, old, done, cur, hk1, hk, rfl, rfl, hcs, HOF, HGO, hsb, hdl⟩ := hrel
   have HS1 := Lib.hid hsb
   have HCS := Lib.hid hcs
   have HDL := Lib.hid hdl
   clear hsb hcs hdl
   obtain ⟨ov, hov⟩ : ∃ ov, old.getD (0, 0, 0, 0) = ov := ⟨_, rfl⟩
   obtain ⟨ob, hob⟩ : ∃ ob, old.isSome = ob := ⟨_, rfl⟩
   rw [hov] at HS1
   rw [hob] at HCS
   rw [hob]
   have HOV := Lib.hid hov
   have HOB := Lib.hid hob
   obtain ⟨j, hj⟩ : ∃ j, k = j + 1 := ⟨k - 1, by omega⟩
   have hkj : (k : Int) - 1 = (j : Int) := by omega
   have HKJ := Lib.hid hj
   clear hov hob hj
   by_cases hlt : k < nv0
   · obtain ⟨sv, hsv⟩ : ∃ sv, (({ x := y0, A := A0, c := c0, D := D0, d := d0 } : Sv) :: vs')[k]? = some sv := ⟨_, List.getElem?_eq_getElem (by rw [HNV.out]; exact hlt)⟩
     obtain ⟨y, Ay, cy, Dy, dy⟩ := sv
     have hsj : s[j]? = some y := by
      have := HKJ.out
      subst this
      rw [List.getElem?_cons_succ] at hsv
      rw [← HVS.out, List.getElem?_map, hsv]
      rfl
     obtain ⟨b', o', hb', -, hry, hsny⟩ := sv_get HROW.out HALL.out hsv
     simp only [Option.some.injEq, Addr.mk.injEq, and_true] at hb'
     obtain ⟨hb1, hb2⟩ := hb'
     subst hb1 hb2
     simp only at hry hsny
     have HRY := Lib.hid hry
     have HSY := Lib.hid hsny
     have HMY := Lib.hid (sn_size (HMAY.out y (List.mem_cons_of_mem _ (List.mem_of_getElem? hsj))))
     have hje : j < es.length := by have := HVL.out; have := HKJ.out; omega
     obtain ⟨e, he⟩ : ∃ e, es[j]? = some e := ⟨_, List.getElem?_eq_getElem hje⟩
     have HD := Lib.hid (drop_cons he)
     have HDS := Lib.hid (drop_cons hsj)
     have HSTK := HE.out e (List.mem_of_getElem? he)
     obtain ⟨bl, ol, hBL, hbl, hcl⟩ := HL2.out.get he
     subst hBL
     obtain ⟨⟨et, em, ek, eg, ep, eq⟩, ew, ev⟩ := e
     obtain ⟨Av, nv, cv, hev⟩ := HSTK
     dsimp only at hev
     subst hev
     have HCL : Hid (∀ v, Ext w2 v → v.cell? ⟨bl, ol + j * 8, none⟩ = some (.int .i64 et) ∧ v.cell? ⟨bl, ol + j * 8 + 1, none⟩ = some (.int .i64 em) ∧ v.cell? ⟨bl, ol + j * 8 + 2, none⟩ = some (.int .i64 ek) ∧ v.cell? ⟨bl, ol + j * 8 + 3, none⟩ = some (.int .i64 eg) ∧ v.cell? ⟨bl, ol + j * 8 + 4, none⟩ = some (.int .i64 ep) ∧ v.cell? ⟨bl, ol + j * 8 + 5, none⟩ = some (.int .i64 eq) ∧ v.cell? ⟨bl, ol + j * 8 + 6, none⟩ = some (.string ew) ∧ v.cell? ⟨bl, ol + j * 8 + 7, none⟩ = some (.slice Av nv cv)) := Lib.hid fun v hv =>
      ⟨(Below.cell (p := ⟨bl, ol + j * 8, none⟩) hv hbl).trans (by have := hcl 0 _ rfl; rwa [Nat.add_zero] at this), (Below.cell (p := ⟨bl, ol + j * 8 + 1, none⟩) hv hbl).trans (hcl 1 _ rfl), (Below.cell (p := ⟨bl, ol + j * 8 + 2, none⟩) hv hbl).trans (hcl 2 _ rfl), (Below.cell (p := ⟨bl, ol + j * 8 + 3, none⟩) hv hbl).trans (hcl 3 _ rfl), (Below.cell (p := ⟨bl, ol + j * 8 + 4, none⟩) hv hbl).trans (hcl 4 _ rfl), (Below.cell (p := ⟨bl, ol + j * 8 + 5, none⟩) hv hbl).trans (hcl 5 _ rfl), (Below.cell (p := ⟨bl, ol + j * 8 + 6, none⟩) hv hbl).trans (hcl 6 _ rfl), (Below.cell (p := ⟨bl, ol + j * 8 + 7, none⟩) hv hbl).trans (hcl 7 _ rfl)⟩
     have hkb : (k : Int) < (nv0 : Int) := by omega
     have hj0 : (0 : Int) ≤ (j : Int) := by omega
     have hjb : (j : Int) < (es.length : Int) := by omega
     have hwj : IntKind.i64.wrap (j : Int) = (j : Int) := IntWalk.i64_in _ (by omega)
     clear hsv hry hsny hsj he hbl hcl hje
     go_wp2_with (refine wpList_load_rowM rfl 25 _ rfl bs (os + k * 3) (by go_simp) [.int .i64 y.time, .slice Ay y.ps.length cy, .slice Dy y.gs.length dy] (.agg #[.int .i64 y.time, .slice Ay y.ps.length cy, .slice Dy y.gs.length dy]) rfl _ (HRY.out _ HS1.out.r.ext) Tryd.underlying25 rfl (by kernel_rfl) ?_)
     obtain ⟨isO, his⟩ : ∃ isO, Sp.atG g y = isO := ⟨_, rfl⟩
     refine (rat_any _ y g wr (HSY.out _ HS1.out.r.ext) HMY.out.1 HMY.out.2 isO his).mono ?_
     rintro e' wd ⟨rfl, hxd⟩
     obtain ⟨nw, hnw⟩ : ∃ nw, isO.getD (0, 0, 0, 0) = nw := ⟨_, rfl⟩
     obtain ⟨nb, hnb⟩ : ∃ nb, isO.isSome = nb := ⟨_, rfl⟩
     rw [hnw, hnb]
     obtain ⟨we, hwe, hbv, hxe⟩ := gs_box wd nw
     obtain ⟨V0, hV0⟩ : ∃ V0, wd.heap.size = V0 := ⟨_, rfl⟩
     rw [hV0] at hbv
     have HNV := Lib.hid hnw
     have HNB := Lib.hid hnb
     have HIS := Lib.hid his
     have HWE := Lib.hid hwe
     have HV0' := Lib.hid hV0
     have HBV := Lib.hid hbv
     have HUV : Hid (u9.ownBlock ≠ some V0) := Lib.hid fun e => by have := (HS1.out.r.own.lt V0 e).2; have := hxd.size; omega
     have HS7 := Lib.hid (HS1.out.more (hxd.trans hxe))
     have HFN : Hid (∀ z, isO = some z → z.1 = g) := Lib.hid fun z hz => Sp.atG_fst (his.trans hz)
     have HLY : Hid (Sp.lookG g y = isO.map (·.2)) := Lib.hid (by rw [Sp.atG_look, his])
     have HKL : Hid (k ≤ 1000) := Lib.hid (by omega)
     have HGR : Hid (Sp.fin T (Sp.rgo (Sp.lookG g) (Sp.whyG g) (es.drop (j + 1)) (s.drop (j + 1)) (isO.map (·.2), (if isO.map (·.2) = old.map (·.2) then done else done ++ (cur.map (Sp.close y.time)).toList), (if isO.map (·.2) = old.map (·.2) then cur.map (Sp.close y.time) else (isO.map (·.2)).map (Sp.opr y.time (Sp.whyG g (⟨⟨et, em, ek, eg, ep, eq⟩, ew, .slice Av nv cv⟩ : Le)))))) = r) := Lib.hid (by
      have h := HGO.out
      have e1 : k - 1 = j := by have := HKJ.out; omega
      rw [e1, HD.out, HDS.out] at h
      unfold Sp.rgo Sp.rstep at h
      rw [HLY.out] at h
      exact h)
     have HGP : Hid (∀ a : Option Vw × List Sp × Option Sp, Sp.fin T (Sp.rgo (Sp.lookG g) (Sp.whyG g) (es.drop (j + 1)) (s.drop (j + 1)) a) = r → Sp.fin T (Sp.rgo (Sp.lookG g) (Sp.whyG g) (es.drop (k + 1 - 1)) (s.drop (k + 1 - 1)) a) = r) := Lib.hid fun a h => by
      have e1 : k + 1 - 1 = j + 1 := by have := HKJ.out; omega
      rw [e1]; exact h
     clear hxd hnw hnb his hwe hV0 hbv hxe HS1 HGO
     simp only [gsA]
     go_upto_region 12 with fail
     rw [HWE.out, HV0'.out]
     cases ob with
     | false =>
      obtain rfl : cur = none := by have := HCS.out; cases cur with
       | none => rfl
       | some c => cases this
      have HS8 : Hid (OuB w2 we Y ov u9 done) := Lib.hid (by simpa using HS7.out)
      have HLN : Hid (done.length ≤ 1000000) := Lib.hid (by have h1 := HDL.out; have h2 := HKL.out; simp at h1; omega)
      cases nb with
      | false =>
       have HGF : Hid (Sp.fin T (Sp.rgo (Sp.lookG g) (Sp.whyG g) (es.drop (j + 1)) (s.drop (j + 1)) (isO.map (·.2), done, none)) = r) := Lib.hid (by
        have h := HGR.out
        have e1 : isO.map (·.2) = old.map (·.2) := by
         have h1 := HNB.out; have h2 := HOB.out
         cases isO with
         | some z => cases h1
         | none => cases old with
          | some z => cases h2
          | none => rfl
        rw [if_pos e1, if_pos e1] at h
        exact h)
       have HLE : Hid ((done ++ (none : Option Sp).toList).length ≤ k + 1) := Lib.hid (by have h1 := HDL.out; simp at h1 ⊢; omega)
       obtain ⟨hth, wf, hwf, hsf⟩ := OuB.setY HS7.out nw
       have HTH := Lib.hid hth
       have HWF := Lib.hid hwf
       have HSF := Lib.hid hsf
       clear hth hwf hsf
       go_wp2_with (first | (refine wpList_load_rowW rfl 49 _ rfl V0 rfl [.int .i64 nw.1, .int .i64 nw.2.1, .int .i64 nw.2.2.1, .int .i64 nw.2.2.2] (.agg #[.int .i64 nw.1, .int .i64 nw.2.1, .int .i64 nw.2.2.1, .int .i64 nw.2.2.2]) rfl _ (range_row HBV.out) Tryd.underlying49 rfl (by kernel_rfl) ?_) | (refine wpList_store_rowN rfl 49 _ _ rfl Y 0 [.int .i64 nw.1, .int .i64 nw.2.1, .int .i64 nw.2.2.1, .int .i64 nw.2.2.2] (.agg ([.int .i64 nw.1, .int .i64 nw.2.1, .int .i64 nw.2.2.1, .int .i64 nw.2.2.2]).toArray) (by go_simp) (by go_simp) rfl HTH.out (by kernel_rfl) (gs_one nw) HWF.out ?_))
       go_roundw
       case rel => exact ⟨k + 1, isO, done, none, by omega, by omega, by go_num, by first | rfl | rw [HNB.out], (by have h1 := HNB.out; cases isO with | none => rfl | some z => cases h1), HFN, Lib.hid (HGP.out _ HGF.out), by first | exact HSF.out | (rw [HNV.out]; exact HSF.out), HLE.out⟩
       case measure => simp [intOf]; omega
      | true =>
       obtain ⟨z, rfl⟩ : ∃ z, isO = some z := by have := HNB.out; cases isO with
        | none => cases this
        | some z => exact ⟨z, rfl⟩
       obtain rfl : nw = z := HNV.out.symm
       have HGF : Hid (Sp.fin T (Sp.rgo (Sp.lookG g) (Sp.whyG g) (es.drop (j + 1)) (s.drop (j + 1)) ((some nw).map (·.2), done, some (Sp.opr y.time (Sp.whyG g (⟨⟨et, em, ek, eg, ep, eq⟩, ew, .slice Av nv cv⟩ : Le)) nw.2))) = r) := Lib.hid (by
        have h := HGR.out
        have e1 : (some nw).map (·.2) ≠ old.map (·.2) := by
         have h2 := HOB.out
         cases old with
         | some z => cases h2
         | none => intro h; cases h
        rw [if_neg e1, if_neg e1] at h
        simpa using h)
       have HLE : Hid ((done ++ (some (Sp.opr y.time (Sp.whyG g (⟨⟨et, em, ek, eg, ep, eq⟩, ew, .slice Av nv cv⟩ : Le)) nw.2)).toList).length ≤ k + 1) := Lib.hid (by have h1 := HDL.out; simp at h1 ⊢; omega)
       have HCX : Hid (∀ v, Ext we v → v.cell? ⟨bs, os + k * 3, none⟩ = some (.int .i64 y.time) ∧ v.cell? ⟨V0, 1, none⟩ = some (.int .i64 nw.2.1) ∧ v.cell? ⟨V0, 2, none⟩ = some (.int .i64 nw.2.2.1) ∧ v.cell? ⟨bl, ol + j * 8, none⟩ = some (.int .i64 et) ∧ v.cell? ⟨bl, ol + j * 8 + 1, none⟩ = some (.int .i64 em) ∧ v.cell? ⟨bl, ol + j * 8 + 2, none⟩ = some (.int .i64 ek) ∧ v.cell? ⟨bl, ol + j * 8 + 3, none⟩ = some (.int .i64 eg) ∧ v.cell? ⟨bl, ol + j * 8 + 4, none⟩ = some (.int .i64 ep) ∧ v.cell? ⟨bl, ol + j * 8 + 5, none⟩ = some (.int .i64 eq) ∧ v.cell? ⟨bl, ol + j * 8 + 6, none⟩ = some (.string ew) ∧ v.cell? ⟨bl, ol + j * 8 + 7, none⟩ = some (.slice Av nv cv)) := Lib.hid fun v hv => by
        have hxv := HS8.out.r.ext.trans hv
        obtain ⟨l0, l1, l2, l3, l4, l5, l6, l7⟩ := HCL.out v hxv
        have h0 := HRY.out v hxv 0 _ rfl
        rw [Nat.add_zero] at h0
        exact ⟨h0, blk_cell (hv.blk HBV.out) 1 _ rfl, blk_cell (hv.blk HBV.out) 2 _ rfl, l0, l1, l2, l3, l4, l5, l6, l7⟩
       go_wp2_with fail
       refine region_gq 24 (fun v => v.cell? ⟨bs, os + k * 3, none⟩ = some (.int .i64 y.time) ∧ v.cell? ⟨V0, 1, none⟩ = some (.int .i64 nw.2.1) ∧ v.cell? ⟨V0, 2, none⟩ = some (.int .i64 nw.2.2.1) ∧ v.cell? ⟨bl, ol + j * 8, none⟩ = some (.int .i64 et) ∧ v.cell? ⟨bl, ol + j * 8 + 1, none⟩ = some (.int .i64 em) ∧ v.cell? ⟨bl, ol + j * 8 + 2, none⟩ = some (.int .i64 ek) ∧ v.cell? ⟨bl, ol + j * 8 + 3, none⟩ = some (.int .i64 eg) ∧ v.cell? ⟨bl, ol + j * 8 + 4, none⟩ = some (.int .i64 ep) ∧ v.cell? ⟨bl, ol + j * 8 + 5, none⟩ = some (.int .i64 eq) ∧ v.cell? ⟨bl, ol + j * 8 + 6, none⟩ = some (.string ew) ∧ v.cell? ⟨bl, ol + j * 8 + 7, none⟩ = some (.slice Av nv cv)) (fun v => Ext we v) (by kernel_rfl) (Ext.refl we).drew (fun _ _ d _ _ h => by cases d <;> exact h) ?_
       intro Q9 HQE HQP
       have HG : ∀ (l : Array Bool) (v : World), Ext we v → l.getD 24 false = false → v.cell? ⟨bs, os + k * 3, none⟩ = some (.int .i64 y.time) ∧ v.cell? ⟨V0, 1, none⟩ = some (.int .i64 nw.2.1) ∧ v.cell? ⟨V0, 2, none⟩ = some (.int .i64 nw.2.2.1) ∧ v.cell? ⟨bl, ol + j * 8, none⟩ = some (.int .i64 et) ∧ v.cell? ⟨bl, ol + j * 8 + 1, none⟩ = some (.int .i64 em) ∧ v.cell? ⟨bl, ol + j * 8 + 2, none⟩ = some (.int .i64 ek) ∧ v.cell? ⟨bl, ol + j * 8 + 3, none⟩ = some (.int .i64 eg) ∧ v.cell? ⟨bl, ol + j * 8 + 4, none⟩ = some (.int .i64 ep) ∧ v.cell? ⟨bl, ol + j * 8 + 5, none⟩ = some (.int .i64 eq) ∧ v.cell? ⟨bl, ol + j * 8 + 6, none⟩ = some (.string ew) ∧ v.cell? ⟨bl, ol + j * 8 + 7, none⟩ = some (.slice Av nv cv) := fun _ v hx _ => HCX.out v hx
       refine g_tk 0 (v := ?_) HG HQP (fun w hS => ?_) ?_
       rotate_left 1
       · go_simp; refine gives_mk ?_ rfl; with_reducible rfl
       refine g_tk 1 (v := ?_) HG HQP (fun w hS => ?_) ?_
       rotate_left 1
       · go_simp; refine gives_mk ?_ rfl; with_reducible rfl
       refine g_tk 2 (v := ?_) HG HQP (fun w hS => ?_) ?_
       rotate_left 1
       · go_simp; refine gives_mk ?_ rfl; with_reducible rfl
       refine g_tk 3 (v := ?_) HG HQP (fun w hS => ?_) ?_
       rotate_left 1
       · go_simp; refine gives_mk ?_ rfl; with_reducible rfl
       refine g_tk 4 (v := ?_) HG HQP (fun w hS => ?_) ?_
       rotate_left 1
       · go_simp; refine gives_mk ?_ rfl; with_reducible rfl
       refine g_tk 5 (v := ?_) HG HQP (fun w hS => ?_) ?_
       rotate_left 1
       · go_simp; refine gives_mk ?_ rfl; with_reducible rfl
       refine g_tk 6 (v := ?_) HG HQP (fun w hS => ?_) ?_
       rotate_left 1
       · go_simp; refine gives_mk ?_ rfl; with_reducible rfl
       refine g_tk 7 (v := ?_) HG HQP (fun w hS => ?_) ?_
       rotate_left 1
       · go_simp; refine gives_mk ?_ rfl; with_reducible rfl
       refine g_tk 8 (v := ?_) HG HQP (fun w hS => ?_) ?_
       rotate_left 1
       · go_simp; refine gives_mk ?_ rfl; with_reducible rfl
       refine g_tk 9 (v := ?_) HG HQP (fun w hS => ?_) ?_
       rotate_left 1
       · go_simp; refine gives_mk ?_ rfl; with_reducible rfl
       refine g_tk 10 (v := ?_) HG HQP (fun w hS => ?_) ?_
       rotate_left 1
       · go_simp; refine gives_mk ?_ rfl; with_reducible rfl
       refine g_tk 11 (v := ?_) HG HQP (fun w hS => ?_) ?_
       rotate_left 1
       · go_simp; refine gives_mk ?_ rfl; with_reducible rfl
       refine g_tk 12 (v := ?_) HG HQP (fun w hS => ?_) ?_
       rotate_left 1
       · go_simp; refine gives_mk ?_ rfl; with_reducible rfl
       refine g_tk 13 (v := ?_) HG HQP (fun w hS => ?_) ?_
       rotate_left 1
       · go_simp; refine gives_mk ?_ rfl; with_reducible rfl
       refine g_tk 14 (v := ?_) HG HQP (fun w hS => ?_) ?_
       rotate_left 1
       · go_simp; refine gives_mk ?_ rfl; with_reducible rfl
       refine g_tk 15 (v := ?_) HG HQP (fun w hS => ?_) ?_
       rotate_left 1
       · go_simp; refine gives_mk ?_ rfl; with_reducible rfl
       refine g_tk 16 (v := ?_) HG HQP (fun w hS => ?_) ?_
       rotate_left 1
       · go_simp; refine gives_mk ?_ rfl; with_reducible rfl
       refine g_tk 17 (v := ?_) HG HQP (fun w hS => ?_) ?_
       rotate_left 1
       · go_simp; refine gives_mk ?_ rfl; with_reducible rfl
       refine g_tk 18 (v := ?_) HG HQP (fun w hS => ?_) ?_
       rotate_left 1
       · go_simp; refine gives_mk ?_ rfl; with_reducible rfl
       refine g_tk 19 (v := ?_) HG HQP (fun w hS => ?_) ?_
       rotate_left 1
       · go_simp; refine gives_mk ?_ rfl; with_reducible rfl
       refine g_tk 20 (v := ?_) HG HQP (fun w hS => ?_) ?_
       rotate_left 1
       · go_simp; refine gives_mk ?_ rfl; with_reducible rfl
       refine g_mid (fun u v => u = .string (Sp.whyG g (⟨⟨et, em, ek, eg, ep, eq⟩, ew, .slice Av nv cv⟩ : Le)) ∧ Ext we v) (k := 21) (by kernel_rfl) (fun _ v hh _ => HCX.out v hh.2) rfl (by kernel_rfl) (fun v hS R hR => ?_) (fun u hu => ?_)
       · have HR := Lib.hid hR
         clear hR
         have HV := Lib.hid hS
         go_simp
         refine givesM_call ((rwhy_any g (⟨⟨et, em, ek, eg, ep, eq⟩, ew, .slice Av nv cv⟩ : Le) v _ rfl).mono ?_)
         rintro e' v2 ⟨rfl, hx2⟩
         exact ⟨_, rfl, HR.out _ _ ⟨rfl, HV.out.trans hx2⟩⟩
       obtain ⟨_, rfl, -⟩ := hu
       refine g_mid (fun u v => u = .agg #[.int .i64 y.time, .int .i64 y.time, .int .i64 nw.2.1, .int .i64 nw.2.2.1, .string (Sp.whyG g (⟨⟨et, em, ek, eg, ep, eq⟩, ew, .slice Av nv cv⟩ : Le))] ∧ Ext we v) (k := 22) (by kernel_rfl) (fun _ v hh _ => HCX.out v hh.2) rfl (by kernel_rfl) (fun v hS R hR => ?_) (fun u hu => ?_)
       · have HR := Lib.hid hR
         clear hR
         go_simp
         refine givesM_val (HR.out _ _ ⟨rfl, hS.2⟩)
       obtain ⟨_, rfl, -⟩ := hu
       refine g_mid (fun u v => ∃ v5, u = .slice (some ⟨v5.heap.size, 0, none⟩) 1 1 ∧ v = v5.alloc (.cells (spL (Sp.opr y.time (Sp.whyG g (⟨⟨et, em, ek, eg, ep, eq⟩, ew, .slice Av nv cv⟩ : Le)) nw.2)).toArray 36) ∧ Ext we v5) (k := 23) (by kernel_rfl) (fun _ v hh _ => by obtain ⟨v5, _, rfl, hx⟩ := hh; exact HCX.out _ (hx.alloc _)) rfl (by kernel_rfl) (fun v hS R hR => ?_) (fun u hu => ?_)
       · have HR := Lib.hid hR
         clear hR
         go_simp
         refine givesM_val (HR.out _ _ ⟨v, rfl, rfl, hS.2⟩)
       obtain ⟨_, w5, rfl, -, -⟩ := hu
       generalize w5.heap.size = V5
       clear w5
       refine g_mid (fun u v => OuB w2 v Y ov u (done ++ [(Sp.opr y.time (Sp.whyG g (⟨⟨et, em, ek, eg, ep, eq⟩, ew, .slice Av nv cv⟩ : Le)) nw.2)]) ∧ v.heap[V0]? = some (.cells (gsC nw) 49 (0, 0))) (k := 24) (by kernel_rfl) (fun v w _ h0 => by cases h0) rfl (by kernel_rfl) (fun v hS R hR => ?_) (fun u hu => ?_)
       · have HR := Lib.hid hR
         clear hR
         obtain ⟨v5, hV, hv, hx⟩ := hS
         simp only [Value.slice.injEq, Option.some.injEq, Addr.mk.injEq, and_true] at hV
         subst hV hv
         obtain ⟨un, wn, hr1, hs1, hk1⟩ := (HS8.out.more hx).push (Sp.opr y.time (Sp.whyG g (⟨⟨et, em, ek, eg, ep, eq⟩, ew, .slice Av nv cv⟩ : Le)) nw.2) HLN.out
         refine givesM_append _ _ 27 rfl _ _ (by go_simp) (by go_simp) hr1 ?_
         exact HR.out _ _ ⟨hs1, (hk1 _ _ (hx.blk HBV.out) HUV.out).1⟩
       obtain ⟨_, hu9, -⟩ := hu
       refine g_end (k := 25) (by kernel_rfl) (by kernel_rfl) (by kernel_rfl) rfl (by kernel_rfl) (fun w9 hS R hR => ?_)
       have HR := Lib.hid hR
       clear hR hu9
       obtain ⟨hs9, hv9⟩ := hS
       have HS9 := Lib.hid hs9
       have HV9 := Lib.hid hv9
       clear hs9 hv9
       have hq9 := HQE.out
       subst hq9
       clear HQE HQP HG HCX
       go_simp
       refine givesM_val (HR.out _ _ ?_)
       go_simp
       obtain ⟨hth, wf, hwf, hsf⟩ := OuB.setY HS9.out nw
       have HTH := Lib.hid hth
       have HWF := Lib.hid hwf
       have HSF := Lib.hid hsf
       clear hth hwf hsf
       go_wp2_with (first | (refine wpList_load_rowW rfl 49 _ rfl V0 rfl [.int .i64 nw.1, .int .i64 nw.2.1, .int .i64 nw.2.2.1, .int .i64 nw.2.2.2] (.agg #[.int .i64 nw.1, .int .i64 nw.2.1, .int .i64 nw.2.2.1, .int .i64 nw.2.2.2]) rfl _ (range_row HV9.out) Tryd.underlying49 rfl (by kernel_rfl) ?_) | (refine wpList_store_rowN rfl 49 _ _ rfl Y 0 [.int .i64 nw.1, .int .i64 nw.2.1, .int .i64 nw.2.2.1, .int .i64 nw.2.2.2] (.agg ([.int .i64 nw.1, .int .i64 nw.2.1, .int .i64 nw.2.2.1, .int .i64 nw.2.2.2]).toArray) (by go_simp) (by go_simp) rfl HTH.out (by kernel_rfl) (gs_one nw) HWF.out ?_))
       go_roundw
       case rel => exact ⟨k + 1, some nw, done, some (Sp.opr y.time (Sp.whyG g (⟨⟨et, em, ek, eg, ep, eq⟩, ew, .slice Av nv cv⟩ : Le)) nw.2), by omega, by omega, by go_num, by first | rfl | rw [HNB.out], rfl, HFN, Lib.hid (HGP.out _ HGF.out), by first | exact HSF.out | (rw [HNV.out]; exact HSF.out), HLE.out⟩
       case measure => simp [intOf]; omega
     | true =>
      obtain ⟨c1, rfl⟩ : ∃ c, cur = some c := by have := HCS.out; cases cur with
       | none => cases this
       | some c => exact ⟨c, rfl⟩
      obtain ⟨gb, cg, hu, hgl, hcell, hfz, hupd, hown, hse⟩ := OuB.ends (done := done) (s := c1) HS7.out y.time
      have q0 := HRY.out _ HS7.out.r.ext 0 _ rfl
      rw [Nat.add_zero] at q0
      have hVg : V0 ≠ gb := fun e => HUV.out (by rw [hown, e])
      have HUO := Lib.hid hu
      subst hu
      obtain ⟨n, hn⟩ : ∃ n, done.length = n := ⟨_, rfl⟩
      rw [hn] at hcell hfz hse hupd ⊢
      obtain ⟨wg, hwg⟩ : ∃ wg, we.setCell ⟨gb, n * 5 + 1, none⟩ (.int .i64 y.time) = wg := ⟨_, rfl⟩
      rw [hwg] at hse hupd
      have HSE := Lib.hid hse
      have HWG := Lib.hid hwg
      have HBG := Lib.hid (hupd.blk HBV.out hVg)
      have en : (n : Int) + 1 - 1 = (n : Int) := by omega
      have hnk : (n : Int) ≤ 1001 := by have h1 := HDL.out; have h2 := HKL.out; simp at h1; omega
      have HLN : Hid ((done ++ [Sp.close y.time c1]).length ≤ 1000000) := Lib.hid (by have h1 := HDL.out; have h2 := HKL.out; simp at h1 ⊢; omega)
      clear hgl hse hwg hn hupd hown hVg HS7 HBV
      go_upto_region 14 with fail
      rw [HWG.out]
      clear hcell hfz q0
      cases nb with
      | false =>
       have HGF : Hid (Sp.fin T (Sp.rgo (Sp.lookG g) (Sp.whyG g) (es.drop (j + 1)) (s.drop (j + 1)) (isO.map (·.2), done ++ [Sp.close y.time c1], none)) = r) := Lib.hid (by
        have h := HGR.out
        have e1 : isO.map (·.2) ≠ old.map (·.2) := by
         have h1 := HNB.out; have h2 := HOB.out
         cases isO with
         | some z => cases h1
         | none => cases old with
          | none => cases h2
          | some z => intro h; cases h
        have e2 : isO = none := by have h1 := HNB.out; cases isO with | none => rfl | some z => cases h1
        rw [if_neg e1, if_neg e1] at h
        rw [e2] at h ⊢
        exact h)
       have HSN2 : Hid (OuB w2 wg Y ov (.slice (some ⟨gb, 0, none⟩) (n + 1) cg) (done ++ [Sp.close y.time c1] ++ (none : Option Sp).toList)) := Lib.hid (by simpa using HSE.out)
       have HLE : Hid ((done ++ [Sp.close y.time c1] ++ (none : Option Sp).toList).length ≤ k + 1) := Lib.hid (by have h1 := HDL.out; simp at h1 ⊢; omega)
       obtain ⟨hth, wf, hwf, hsf⟩ := OuB.setY HSN2.out nw
       have HTH := Lib.hid hth
       have HWF := Lib.hid hwf
       have HSF := Lib.hid hsf
       clear hth hwf hsf
       go_wp2_with (first | (refine wpList_load_rowW rfl 49 _ rfl V0 rfl [.int .i64 nw.1, .int .i64 nw.2.1, .int .i64 nw.2.2.1, .int .i64 nw.2.2.2] (.agg #[.int .i64 nw.1, .int .i64 nw.2.1, .int .i64 nw.2.2.1, .int .i64 nw.2.2.2]) rfl _ (range_row HBG.out) Tryd.underlying49 rfl (by kernel_rfl) ?_) | (refine wpList_store_rowN rfl 49 _ _ rfl Y 0 [.int .i64 nw.1, .int .i64 nw.2.1, .int .i64 nw.2.2.1, .int .i64 nw.2.2.2] (.agg ([.int .i64 nw.1, .int .i64 nw.2.1, .int .i64 nw.2.2.1, .int .i64 nw.2.2.2]).toArray) (by go_simp) (by go_simp) rfl HTH.out (by kernel_rfl) (gs_one nw) HWF.out ?_))
       go_roundw
       case rel => exact ⟨k + 1, isO, (done ++ [Sp.close y.time c1]), none, by omega, by omega, by go_num, by first | rfl | rw [HNB.out], (by have h1 := HNB.out; cases isO with | none => rfl | some z => cases h1), HFN, Lib.hid (HGP.out _ HGF.out), by first | exact HSF.out | (rw [HNV.out]; exact HSF.out), HLE.out⟩
       case measure => simp [intOf]; omega
      | true =>
       obtain ⟨z, rfl⟩ : ∃ z, isO = some z := by have := HNB.out; cases isO with
        | none => cases this
        | some z => exact ⟨z, rfl⟩
       obtain rfl : nw = z := HNV.out.symm
       obtain ⟨z', rfl⟩ : ∃ z, old = some z := by have := HOB.out; cases old with
        | none => cases this
        | some z => exact ⟨z, rfl⟩
       obtain rfl : ov = z' := HOV.out.symm
       have HEQ : Hid (nw.1 = ov.1) := Lib.hid (by rw [HFN.out nw rfl, HOF.out ov rfl])
       have v0' : wg.rangeAt V0 0 [.int .i64 nw.1, .int .i64 nw.2.1, .int .i64 nw.2.2.1, .int .i64 nw.2.2.2] := range_row HBG.out
       have HRV := Lib.hid v0'
       have HRY0 : Hid (wg.rangeAt Y 0 [.int .i64 ov.1, .int .i64 ov.2.1, .int .i64 ov.2.2.1, .int .i64 ov.2.2.2]) := Lib.hid (range_row HSE.out.ybox)
       have he := run_eqG4 nw ov
       clear v0'
       by_cases hq : nw = ov
       · have HGF : Hid (Sp.fin T (Sp.rgo (Sp.lookG g) (Sp.whyG g) (es.drop (j + 1)) (s.drop (j + 1)) ((some nw).map (·.2), done, some (Sp.close y.time c1))) = r) := Lib.hid (by
          have h := HGR.out
          rw [if_pos (by rw [hq]), if_pos (by rw [hq])] at h
          exact h)
         have hq' : ∀ w, (Op.equalIn 10000 49 (.agg #[.int .i64 nw.1, .int .i64 nw.2.1, .int .i64 nw.2.2.1, .int .i64 nw.2.2.2]) (.agg #[.int .i64 ov.1, .int .i64 ov.2.1, .int .i64 ov.2.2.1, .int .i64 ov.2.2.2])).run Tryd.prog w = .ok true w := fun w => by have := he w; rw [decide_eq_true hq] at this; exact this
         have HLE : Hid ((done ++ (some (Sp.close y.time c1)).toList).length ≤ k + 1) := Lib.hid (by have h1 := HDL.out; simp at h1 ⊢; omega)
         clear he hq
         go_upto_if 79 with (first | (refine wpList_load_rowW rfl 49 _ (by rfl) V0 rfl [.int .i64 nw.1, .int .i64 nw.2.1, .int .i64 nw.2.2.1, .int .i64 nw.2.2.2] (.agg #[.int .i64 nw.1, .int .i64 nw.2.1, .int .i64 nw.2.2.1, .int .i64 nw.2.2.2]) rfl _ HRV.out Tryd.underlying49 rfl (by kernel_rfl) ?_) | (refine wpList_load_rowW rfl 49 _ (by rfl) Y rfl [.int .i64 ov.1, .int .i64 ov.2.1, .int .i64 ov.2.2.1, .int .i64 ov.2.2.2] (.agg #[.int .i64 ov.1, .int .i64 ov.2.1, .int .i64 ov.2.2.1, .int .i64 ov.2.2.2]) rfl _ HRY0.out Tryd.underlying49 rfl (by kernel_rfl) ?_))
         clear hq'
         obtain ⟨hth, wf, hwf, hsf⟩ := OuB.setY HSE.out nw
         have HTH := Lib.hid hth
         have HWF := Lib.hid hwf
         have HSF := Lib.hid hsf
         clear hth hwf hsf
         go_wp2_with (first | (refine wpList_load_rowW rfl 49 _ rfl V0 rfl [.int .i64 nw.1, .int .i64 nw.2.1, .int .i64 nw.2.2.1, .int .i64 nw.2.2.2] (.agg #[.int .i64 nw.1, .int .i64 nw.2.1, .int .i64 nw.2.2.1, .int .i64 nw.2.2.2]) rfl _ (range_row HBG.out) Tryd.underlying49 rfl (by kernel_rfl) ?_) | (refine wpList_store_rowN rfl 49 _ _ rfl Y 0 [.int .i64 nw.1, .int .i64 nw.2.1, .int .i64 nw.2.2.1, .int .i64 nw.2.2.2] (.agg ([.int .i64 nw.1, .int .i64 nw.2.1, .int .i64 nw.2.2.1, .int .i64 nw.2.2.2]).toArray) (by go_simp) (by go_simp) rfl HTH.out (by kernel_rfl) (gs_one nw) HWF.out ?_))
         go_roundw
         case rel => exact ⟨k + 1, some nw, done, (some (Sp.close y.time c1)), by omega, by omega, by go_num, by first | rfl | rw [HNB.out], rfl, HFN, Lib.hid (HGP.out _ HGF.out), by first | exact HSF.out | (rw [HNV.out]; exact HSF.out), HLE.out⟩
         case measure => simp [intOf]; omega
       · have HGF : Hid (Sp.fin T (Sp.rgo (Sp.lookG g) (Sp.whyG g) (es.drop (j + 1)) (s.drop (j + 1)) ((some nw).map (·.2), done ++ [Sp.close y.time c1], some (Sp.opr y.time (Sp.whyG g (⟨⟨et, em, ek, eg, ep, eq⟩, ew, .slice Av nv cv⟩ : Le)) nw.2))) = r) := Lib.hid (by
          have h := HGR.out
          have e1 : (some nw).map (·.2) ≠ (some ov).map (·.2) := by
           intro h
           simp only [Option.map_some, Option.some.injEq] at h
           exact hq (Prod.ext HEQ.out h)
          rw [if_neg e1, if_neg e1] at h
          simpa using h)
         have hq' : ∀ w, (Op.equalIn 10000 49 (.agg #[.int .i64 nw.1, .int .i64 nw.2.1, .int .i64 nw.2.2.1, .int .i64 nw.2.2.2]) (.agg #[.int .i64 ov.1, .int .i64 ov.2.1, .int .i64 ov.2.2.1, .int .i64 ov.2.2.2])).run Tryd.prog w = .ok false w := fun w => by have := he w; rw [decide_eq_false hq] at this; exact this
         have HLE : Hid ((done ++ [Sp.close y.time c1] ++ (some (Sp.opr y.time (Sp.whyG g (⟨⟨et, em, ek, eg, ep, eq⟩, ew, .slice Av nv cv⟩ : Le)) nw.2)).toList).length ≤ k + 1) := Lib.hid (by have h1 := HDL.out; simp at h1 ⊢; omega)
         clear he hq
         go_upto_if 79 with (first | (refine wpList_load_rowW rfl 49 _ (by rfl) V0 rfl [.int .i64 nw.1, .int .i64 nw.2.1, .int .i64 nw.2.2.1, .int .i64 nw.2.2.2] (.agg #[.int .i64 nw.1, .int .i64 nw.2.1, .int .i64 nw.2.2.1, .int .i64 nw.2.2.2]) rfl _ HRV.out Tryd.underlying49 rfl (by kernel_rfl) ?_) | (refine wpList_load_rowW rfl 49 _ (by rfl) Y rfl [.int .i64 ov.1, .int .i64 ov.2.1, .int .i64 ov.2.2.1, .int .i64 ov.2.2.2] (.agg #[.int .i64 ov.1, .int .i64 ov.2.1, .int .i64 ov.2.2.1, .int .i64 ov.2.2.2]) rfl _ HRY0.out Tryd.underlying49 rfl (by kernel_rfl) ?_))
         clear hq'
         have HCX : Hid (∀ v, Ext wg v → v.cell? ⟨bs, os + k * 3, none⟩ = some (.int .i64 y.time) ∧ v.cell? ⟨V0, 1, none⟩ = some (.int .i64 nw.2.1) ∧ v.cell? ⟨V0, 2, none⟩ = some (.int .i64 nw.2.2.1) ∧ v.cell? ⟨bl, ol + j * 8, none⟩ = some (.int .i64 et) ∧ v.cell? ⟨bl, ol + j * 8 + 1, none⟩ = some (.int .i64 em) ∧ v.cell? ⟨bl, ol + j * 8 + 2, none⟩ = some (.int .i64 ek) ∧ v.cell? ⟨bl, ol + j * 8 + 3, none⟩ = some (.int .i64 eg) ∧ v.cell? ⟨bl, ol + j * 8 + 4, none⟩ = some (.int .i64 ep) ∧ v.cell? ⟨bl, ol + j * 8 + 5, none⟩ = some (.int .i64 eq) ∧ v.cell? ⟨bl, ol + j * 8 + 6, none⟩ = some (.string ew) ∧ v.cell? ⟨bl, ol + j * 8 + 7, none⟩ = some (.slice Av nv cv)) := Lib.hid fun v hv => by
          have hxv := HSE.out.r.ext.trans hv
          obtain ⟨l0, l1, l2, l3, l4, l5, l6, l7⟩ := HCL.out v hxv
          have h0 := HRY.out v hxv 0 _ rfl
          rw [Nat.add_zero] at h0
          exact ⟨h0, blk_cell (hv.blk HBG.out) 1 _ rfl, blk_cell (hv.blk HBG.out) 2 _ rfl, l0, l1, l2, l3, l4, l5, l6, l7⟩
         go_wp2_with fail
         refine region_gq 24 (fun v => v.cell? ⟨bs, os + k * 3, none⟩ = some (.int .i64 y.time) ∧ v.cell? ⟨V0, 1, none⟩ = some (.int .i64 nw.2.1) ∧ v.cell? ⟨V0, 2, none⟩ = some (.int .i64 nw.2.2.1) ∧ v.cell? ⟨bl, ol + j * 8, none⟩ = some (.int .i64 et) ∧ v.cell? ⟨bl, ol + j * 8 + 1, none⟩ = some (.int .i64 em) ∧ v.cell? ⟨bl, ol + j * 8 + 2, none⟩ = some (.int .i64 ek) ∧ v.cell? ⟨bl, ol + j * 8 + 3, none⟩ = some (.int .i64 eg) ∧ v.cell? ⟨bl, ol + j * 8 + 4, none⟩ = some (.int .i64 ep) ∧ v.cell? ⟨bl, ol + j * 8 + 5, none⟩ = some (.int .i64 eq) ∧ v.cell? ⟨bl, ol + j * 8 + 6, none⟩ = some (.string ew) ∧ v.cell? ⟨bl, ol + j * 8 + 7, none⟩ = some (.slice Av nv cv)) (fun v => Ext wg v) (by kernel_rfl) (Ext.refl wg).drew (fun _ _ d _ _ h => by cases d <;> exact h) ?_
         intro Q9 HQE HQP
         have HG : ∀ (l : Array Bool) (v : World), Ext wg v → l.getD 24 false = false → v.cell? ⟨bs, os + k * 3, none⟩ = some (.int .i64 y.time) ∧ v.cell? ⟨V0, 1, none⟩ = some (.int .i64 nw.2.1) ∧ v.cell? ⟨V0, 2, none⟩ = some (.int .i64 nw.2.2.1) ∧ v.cell? ⟨bl, ol + j * 8, none⟩ = some (.int .i64 et) ∧ v.cell? ⟨bl, ol + j * 8 + 1, none⟩ = some (.int .i64 em) ∧ v.cell? ⟨bl, ol + j * 8 + 2, none⟩ = some (.int .i64 ek) ∧ v.cell? ⟨bl, ol + j * 8 + 3, none⟩ = some (.int .i64 eg) ∧ v.cell? ⟨bl, ol + j * 8 + 4, none⟩ = some (.int .i64 ep) ∧ v.cell? ⟨bl, ol + j * 8 + 5, none⟩ = some (.int .i64 eq) ∧ v.cell? ⟨bl, ol + j * 8 + 6, none⟩ = some (.string ew) ∧ v.cell? ⟨bl, ol + j * 8 + 7, none⟩ = some (.slice Av nv cv) := fun _ v hx _ => HCX.out v hx
         refine g_tk 0 (v := ?_) HG HQP (fun w hS => ?_) ?_
         rotate_left 1
         · go_simp; refine gives_mk ?_ rfl; with_reducible rfl
         refine g_tk 1 (v := ?_) HG HQP (fun w hS => ?_) ?_
         rotate_left 1
         · go_simp; refine gives_mk ?_ rfl; with_reducible rfl
         refine g_tk 2 (v := ?_) HG HQP (fun w hS => ?_) ?_
         rotate_left 1
         · go_simp; refine gives_mk ?_ rfl; with_reducible rfl
         refine g_tk 3 (v := ?_) HG HQP (fun w hS => ?_) ?_
         rotate_left 1
         · go_simp; refine gives_mk ?_ rfl; with_reducible rfl
         refine g_tk 4 (v := ?_) HG HQP (fun w hS => ?_) ?_
         rotate_left 1
         · go_simp; refine gives_mk ?_ rfl; with_reducible rfl
         refine g_tk 5 (v := ?_) HG HQP (fun w hS => ?_) ?_
         rotate_left 1
         · go_simp; refine gives_mk ?_ rfl; with_reducible rfl
         refine g_tk 6 (v := ?_) HG HQP (fun w hS => ?_) ?_
         rotate_left 1
         · go_simp; refine gives_mk ?_ rfl; with_reducible rfl
         refine g_tk 7 (v := ?_) HG HQP (fun w hS => ?_) ?_
         rotate_left 1
         · go_simp; refine gives_mk ?_ rfl; with_reducible rfl
         refine g_tk 8 (v := ?_) HG HQP (fun w hS => ?_) ?_
         rotate_left 1
         · go_simp; refine gives_mk ?_ rfl; with_reducible rfl
         refine g_tk 9 (v := ?_) HG HQP (fun w hS => ?_) ?_
         rotate_left 1
         · go_simp; refine gives_mk ?_ rfl; with_reducible rfl
         refine g_tk 10 (v := ?_) HG HQP (fun w hS => ?_) ?_
         rotate_left 1
         · go_simp; refine gives_mk ?_ rfl; with_reducible rfl
         refine g_tk 11 (v := ?_) HG HQP (fun w hS => ?_) ?_
         rotate_left 1
         · go_simp; refine gives_mk ?_ rfl; with_reducible rfl
         refine g_tk 12 (v := ?_) HG HQP (fun w hS => ?_) ?_
         rotate_left 1
         · go_simp; refine gives_mk ?_ rfl; with_reducible rfl
         refine g_tk 13 (v := ?_) HG HQP (fun w hS => ?_) ?_
         rotate_left 1
         · go_simp; refine gives_mk ?_ rfl; with_reducible rfl
         refine g_tk 14 (v := ?_) HG HQP (fun w hS => ?_) ?_
         rotate_left 1
         · go_simp; refine gives_mk ?_ rfl; with_reducible rfl
         refine g_tk 15 (v := ?_) HG HQP (fun w hS => ?_) ?_
         rotate_left 1
         · go_simp; refine gives_mk ?_ rfl; with_reducible rfl
         refine g_tk 16 (v := ?_) HG HQP (fun w hS => ?_) ?_
         rotate_left 1
         · go_simp; refine gives_mk ?_ rfl; with_reducible rfl
         refine g_tk 17 (v := ?_) HG HQP (fun w hS => ?_) ?_
         rotate_left 1
         · go_simp; refine gives_mk ?_ rfl; with_reducible rfl
         refine g_tk 18 (v := ?_) HG HQP (fun w hS => ?_) ?_
         rotate_left 1
         · go_simp; refine gives_mk ?_ rfl; with_reducible rfl
         refine g_tk 19 (v := ?_) HG HQP (fun w hS => ?_) ?_
         rotate_left 1
         · go_simp; refine gives_mk ?_ rfl; with_reducible rfl
         refine g_tk 20 (v := ?_) HG HQP (fun w hS => ?_) ?_
         rotate_left 1
         · go_simp; refine gives_mk ?_ rfl; with_reducible rfl
         refine g_mid (fun u v => u = .string (Sp.whyG g (⟨⟨et, em, ek, eg, ep, eq⟩, ew, .slice Av nv cv⟩ : Le)) ∧ Ext wg v) (k := 21) (by kernel_rfl) (fun _ v hh _ => HCX.out v hh.2) rfl (by kernel_rfl) (fun v hS R hR => ?_) (fun u hu => ?_)
         · have HR := Lib.hid hR
           clear hR
           have HV := Lib.hid hS
           go_simp
           refine givesM_call ((rwhy_any g (⟨⟨et, em, ek, eg, ep, eq⟩, ew, .slice Av nv cv⟩ : Le) v _ rfl).mono ?_)
           rintro e' v2 ⟨rfl, hx2⟩
           exact ⟨_, rfl, HR.out _ _ ⟨rfl, HV.out.trans hx2⟩⟩
         obtain ⟨_, rfl, -⟩ := hu
         refine g_mid (fun u v => u = .agg #[.int .i64 y.time, .int .i64 y.time, .int .i64 nw.2.1, .int .i64 nw.2.2.1, .string (Sp.whyG g (⟨⟨et, em, ek, eg, ep, eq⟩, ew, .slice Av nv cv⟩ : Le))] ∧ Ext wg v) (k := 22) (by kernel_rfl) (fun _ v hh _ => HCX.out v hh.2) rfl (by kernel_rfl) (fun v hS R hR => ?_) (fun u hu => ?_)
         · have HR := Lib.hid hR
           clear hR
           go_simp
           refine givesM_val (HR.out _ _ ⟨rfl, hS.2⟩)
         obtain ⟨_, rfl, -⟩ := hu
         refine g_mid (fun u v => ∃ v5, u = .slice (some ⟨v5.heap.size, 0, none⟩) 1 1 ∧ v = v5.alloc (.cells (spL (Sp.opr y.time (Sp.whyG g (⟨⟨et, em, ek, eg, ep, eq⟩, ew, .slice Av nv cv⟩ : Le)) nw.2)).toArray 36) ∧ Ext wg v5) (k := 23) (by kernel_rfl) (fun _ v hh _ => by obtain ⟨v5, _, rfl, hx⟩ := hh; exact HCX.out _ (hx.alloc _)) rfl (by kernel_rfl) (fun v hS R hR => ?_) (fun u hu => ?_)
         · have HR := Lib.hid hR
           clear hR
           go_simp
           refine givesM_val (HR.out _ _ ⟨v, rfl, rfl, hS.2⟩)
         obtain ⟨_, w5, rfl, -, -⟩ := hu
         generalize w5.heap.size = V5
         clear w5
         refine g_mid (fun u v => OuB w2 v Y ov u ((done ++ [Sp.close y.time c1]) ++ [(Sp.opr y.time (Sp.whyG g (⟨⟨et, em, ek, eg, ep, eq⟩, ew, .slice Av nv cv⟩ : Le)) nw.2)]) ∧ v.heap[V0]? = some (.cells (gsC nw) 49 (0, 0))) (k := 24) (by kernel_rfl) (fun v w _ h0 => by cases h0) rfl (by kernel_rfl) (fun v hS R hR => ?_) (fun u hu => ?_)
         · have HR := Lib.hid hR
           clear hR
           obtain ⟨v5, hV, hv, hx⟩ := hS
           simp only [Value.slice.injEq, Option.some.injEq, Addr.mk.injEq, and_true] at hV
           subst hV hv
           obtain ⟨un, wn, hr1, hs1, hk1⟩ := (HSE.out.more hx).push (Sp.opr y.time (Sp.whyG g (⟨⟨et, em, ek, eg, ep, eq⟩, ew, .slice Av nv cv⟩ : Le)) nw.2) HLN.out
           refine givesM_append _ _ 27 rfl _ _ (by go_simp) (by go_simp) hr1 ?_
           exact HR.out _ _ ⟨hs1, (hk1 _ _ (hx.blk HBG.out) HUV.out).1⟩
         obtain ⟨_, hu9, -⟩ := hu
         refine g_end (k := 25) (by kernel_rfl) (by kernel_rfl) (by kernel_rfl) rfl (by kernel_rfl) (fun w9 hS R hR => ?_)
         have HR := Lib.hid hR
         clear hR hu9
         obtain ⟨hs9, hv9⟩ := hS
         have HS9 := Lib.hid hs9
         have HV9 := Lib.hid hv9
         clear hs9 hv9
         have hq9 := HQE.out
         subst hq9
         clear HQE HQP HG HCX
         go_simp
         refine givesM_val (HR.out _ _ ?_)
         go_simp
         obtain ⟨hth, wf, hwf, hsf⟩ := OuB.setY HS9.out nw
         have HTH := Lib.hid hth
         have HWF := Lib.hid hwf
         have HSF := Lib.hid hsf
         clear hth hwf hsf
         go_wp2_with (first | (refine wpList_load_rowW rfl 49 _ rfl V0 rfl [.int .i64 nw.1, .int .i64 nw.2.1, .int .i64 nw.2.2.1, .int .i64 nw.2.2.2] (.agg #[.int .i64 nw.1, .int .i64 nw.2.1, .int .i64 nw.2.2.1, .int .i64 nw.2.2.2]) rfl _ (range_row HV9.out) Tryd.underlying49 rfl (by kernel_rfl) ?_) | (refine wpList_store_rowN rfl 49 _ _ rfl Y 0 [.int .i64 nw.1, .int .i64 nw.2.1, .int .i64 nw.2.2.1, .int .i64 nw.2.2.2] (.agg ([.int .i64 nw.1, .int .i64 nw.2.1, .int .i64 nw.2.2.1, .int .i64 nw.2.2.2]).toArray) (by go_simp) (by go_simp) rfl HTH.out (by kernel_rfl) (gs_one nw) HWF.out ?_))
         go_roundw
         case rel => exact ⟨k + 1, some nw, (done ++ [Sp.close y.time c1]), (some (Sp.opr y.time (Sp.whyG g (⟨⟨et, em, ek, eg, ep, eq⟩, ew, .slice Av nv cv⟩ : Le)) nw.2)), by omega, by omega, by go_num, by first | rfl | rw [HNB.out], rfl, HFN, Lib.hid (HGP.out _ HGF.out), by first | exact HSF.out | (rw [HNV.out]; exact HSF.out), HLE.out⟩
         case measure => simp [intOf]; omega
   · obtain rfl : k = nv0 := by omega
     have HGE : Hid (done ++ (cur.map (Sp.close T)).toList = r) := Lib.hid (by
      have h := HGO.out
      have e1 : es.drop (k - 1) = [] := by rw [show k - 1 = es.length by have := HVL.out; omega]; exact List.drop_length
      rw [e1] at h
      unfold Sp.rgo Sp.fin at h
      exact h)
     cases ob with
     | false =>
      obtain rfl : cur = none := by have := HCS.out; cases cur with
       | none => rfl
       | some c => cases this
      have HRW : Hid (RowsAt 5 spL wr u9 r) := Lib.hid (by have h := HS1.out.r.own.rows spL_len; rw [← HGE.out]; exact h)
      have HXF := Lib.hid (X2.out.trans HS1.out.r.ext)
      go_wp2
      go_ret
      exact ⟨_, rfl, HRW.out, HXF.out⟩
     | true =>
      obtain ⟨c1, rfl⟩ : ∃ c, cur = some c := by have := HCS.out; cases cur with
       | none => cases this
       | some c => exact ⟨c, rfl⟩
      obtain ⟨sv, hsv⟩ : ∃ sv, (({ x := y0, A := A0, c := c0, D := D0, d := d0 } : Sv) :: vs')[j]? = some sv := ⟨_, List.getElem?_eq_getElem (by rw [HNV.out]; have := HKJ.out; omega)⟩
      obtain ⟨y, Ay, cy, Dy, dy⟩ := sv
      have hty : y.time = T := by
       have h1 : (y0 :: s)[j]? = some y := by
        have h2 := congrArg (Option.map (·.x)) hsv
        rw [← List.getElem?_map, List.map_cons, HVS.out] at h2
        exact h2
       have h3 : (y0 :: s).length = k := by rw [← HNV.out, List.length_cons, List.length_cons, ← HVS.out, List.length_map]
       rw [← HT.out, List.getLast_eq_getElem]
       have h4 := List.getElem?_eq_some_iff.1 h1
       obtain ⟨h5, h6⟩ := h4
       have h7 : (y0 :: s).length - 1 = j := by have := HKJ.out; omega
       simp only [h7, h6]
      obtain ⟨b', o', hb', -, hry, -⟩ := sv_get HROW.out HALL.out hsv
      simp only [Option.some.injEq, Addr.mk.injEq, and_true] at hb'
      obtain ⟨hb1, hb2⟩ := hb'
      subst hb1 hb2
      simp only at hry
      rw [hty] at hry
      obtain ⟨gb, cg, hu, hgl, hcell, hfz, hupd, hown, hse⟩ := OuB.ends (done := done) (s := c1) HS1.out T
      have q0 := hry _ HS1.out.r.ext 0 _ rfl
      rw [Nat.add_zero] at q0
      subst hu
      obtain ⟨n, hn⟩ : ∃ n, done.length = n := ⟨_, rfl⟩
      rw [hn] at hcell hfz hse hupd ⊢
      obtain ⟨wg, hwg⟩ : ∃ wg, wr.setCell ⟨gb, n * 5 + 1, none⟩ (.int .i64 T) = wg := ⟨_, rfl⟩
      rw [hwg] at hse hupd
      have HXF := Lib.hid (X2.out.trans hse.r.ext)
      have HWG := Lib.hid hwg
      have HRW : Hid (RowsAt 5 spL wg (.slice (some ⟨gb, 0, none⟩) (n + 1) cg) r) := Lib.hid (by have h := hse.r.own.rows spL_len; rw [← HGE.out]; exact h)
      have en : (n : Int) + 1 - 1 = (n : Int) := by omega
      have hnk : (n : Int) ≤ 1001 := by have h1 := HDL.out; simp at h1; omega
      have hj0 : (0 : Int) ≤ (j : Int) := by omega
      have hjb : (j : Int) < (k : Int) := by omega
      clear hgl hse hwg hn hupd hown hry hsv hty HS1
      go_upto_region 20 with fail
      rw [HWG.out]
      clear hcell hfz q0
      go_wp2
      go_ret
      exact ⟨_, rfl, HRW.out, HXF.out⟩
end Go.Proofs.YtohncgikdlbogaaDoor
