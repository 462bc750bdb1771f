/-
  Several texts in one: Jze, Lv.
-/
import Derived.Test.YtohncgikdlbogaaDoorE16
import Derived.Test.YtohncgikdlbogaaDoorE19
import Derived.Test.YtohncgikdlbogaaDoorE17
set_option linter.unusedVariables false
set_option linter.unusedSimpArgs false
namespace Go.Proofs.YtohncgikdlbogaaDoor
open Go.RowKit
theorem wf64_range {a : Int} (h : wf64 a) : -9223372036854775808 ≤ a ∧ a ≤ 9223372036854775807 := by
 unfold wf64 at h
 simp [Lit.wf, IntKind.min, IntKind.max, IntKind.signed, IntKind.bits] at h
 omega
theorem spin_tx {s : Sp} (h : SpIn s) (hw : s.why.size ≤ 300) : TxIn s := by
 obtain ⟨_, h1, h2, h3, h4⟩ := h
 exact ⟨wf64_range h1, wf64_range h2, wf64_range h3, wf64_range h4, by omega⟩
theorem Sp.ofG_len (x : Sn) (l : List Le) (p : Int) : (Sp.ofG x l p).length ≤ 1 + l.length := by
 unfold Sp.ofG Sp.all
 split
 · have := Sp.go_len (Sp.lookG p) (Sp.whyG p) l x (Sp.lookG p x) [] ((Sp.lookG p x).map (Sp.opn x.time ByteArray.empty))
   refine Nat.le_trans this ?_
   cases Sp.lookG p x <;> simp
 · simp
set_option maxRecDepth 100000 in
set_option maxHeartbeats 16000000 in
theorem walk_LineTells (v : Value) (x : Sn) (vl : Value) (es : List Le) (n st : Int) (vy : Value) (ys : List Sp) (w : World) (hs : SnAt w v x) (hi : SnIn x) (hl : RowsAt 8 leL w vl es) (hel : es.length ≤ maxLen) (hle : ∀ e ∈ es, LeIn e) (hy : RowsAt 5 spL w vy ys) (hyl : ys.length ≤ maxLen) (hyi : ∀ s ∈ ys, SpIn s) (ht : Tab w) :
    Calls Tryd.prog 3 #[v, vl, .agg #[.int .i64 n, .int .i64 st, vy]] w fun e w' => e = .returned (.bool true) ∧ Ext w w' := by
 obtain ⟨A, c, B, d, rfl, h2, h3⟩ := hs
 obtain ⟨Al, cl, rfl, -⟩ := hl.form
 obtain ⟨Ay, cy, rfl, -⟩ := hy.form
 have hst : ∀ e ∈ es, ∃ A n c, e.stack = .slice A n c := fun e he => (hle e he).1
 obtain ⟨w1, hw1, hx1, hb1, hq1⟩ := ln_two w #[.int .i64 x.time, .slice A x.ps.length c, .slice B x.gs.length d] 25 #[.int .i64 n, .int .i64 st, .slice Ay ys.length cy] 29
 have HW1 := Lib.hid hw1
 have HX1 := Lib.hid hx1
 have HB1 := Lib.hid hb1
 have HQ1 := Lib.hid hq1
 have HSN : Hid (SnAt w1 (.agg #[.int .i64 x.time, .slice A x.ps.length c, .slice B x.gs.length d]) x) := Lib.hid ⟨A, c, B, d, rfl, h2.ext hx1, h3.ext hx1⟩
 have HLL := Lib.hid (hl.ext hx1)
 have HYY := Lib.hid (hy.ext hx1)
 have HYI := Lib.hid hyi
 have HST := Lib.hid hst
 have HT := Lib.hid (ht.ext hx1)
 obtain ⟨X, hX⟩ : ∃ X, w.heap.size = X := ⟨_, rfl⟩
 rw [hX] at HB1 HQ1
 have HXX := Lib.hid hX
 clear hw1 hx1 hb1 hq1 h2 h3 hl hle hst ht hi hel hy hyl hyi hX
 go_enter Tryd.func3, Tryd.ntmps3
 go_upto_region 1 with fail
 rw [HW1.out, HXX.out]
 have c0 := blk_cell HB1.out 0 _ rfl
 have c1 := blk_cell HB1.out 1 _ rfl
 have c2 := blk_cell HB1.out 2 _ rfl
 go_wp2_with fail
 obtain ⟨sm, hsm⟩ : ∃ sm, (decide (x.ps.length ≤ 70) && decide (x.gs.length ≤ 100)) = sm := ⟨_, rfl⟩
 refine (lnsmall_any _ x w1 HSN.out sm hsm).mono ?_
 rintro e w3 ⟨rfl, hx3⟩
 have XC := Lib.hid hx3
 clear hx3 c0 c1 c2
 cases sm with
 | false =>
  go_wp2_with fail
  refine (lnfixed_yes _ (HT.out.ext XC.out)).mono ?_
  rintro e wk ⟨rfl, hxk⟩
  have XD := Lib.hid (XC.out.trans hxk)
  clear hxk XC
  go_wp2
  go_ret
  exact ⟨rfl, HX1.out.trans XD.out⟩
 | true =>
 by_cases h80 : 80 < (es.length : Int)
 · have e1 : decide (80 < (es.length : Int)) = true := decide_eq_true h80
   clear h80
   go_wp2_with fail
   refine (lnfixed_yes _ (HT.out.ext XC.out)).mono ?_
   rintro e wk ⟨rfl, hxk⟩
   have XD := Lib.hid (XC.out.trans hxk)
   clear hxk XC
   go_wp2
   go_ret
   exact ⟨rfl, HX1.out.trans XD.out⟩
 have e1 : decide (80 < (es.length : Int)) = false := decide_eq_false h80
 have q0 := blk_cell (XC.out.blk HQ1.out) 2 _ rfl
 by_cases h100 : 100 < (ys.length : Int)
 · have e2 : decide (100 < (ys.length : Int)) = true := decide_eq_true h100
   clear h80 h100
   go_wp2_with fail
   refine (lnfixed_yes _ (HT.out.ext XC.out)).mono ?_
   rintro e wk ⟨rfl, hxk⟩
   have XD := Lib.hid (XC.out.trans hxk)
   clear hxk XC
   go_wp2
   go_ret
   exact ⟨rfl, HX1.out.trans XD.out⟩
 have e2 : decide (100 < (ys.length : Int)) = false := decide_eq_false h100
 have hel2 : (es.length : Int) ≤ 80 := by omega
 have hyl2 : (ys.length : Int) ≤ 100 := by omega
 clear h80 h100
 go_wp2_with fail
 go_loopw [7] (fun iv wr => ∃ k : Nat, k ≤ es.length + ys.length ∧ iv = .int .i64 k ∧ Hid (∀ (j : Nat) (s : Sp), ys[j]? = some s → es.length + j < k → s.why.size ≤ 300) ∧ Ext w1 wr) (fun iv _ => es.length + ys.length - (intOf iv).toNat)
 case atStart => exact ⟨0, Nat.zero_le _, rfl, Lib.hid fun j s _ h => by omega, XC.out⟩
 case round =>
  obtain ⟨k, hk, rfl, HALL, hx⟩ := hrel
  clear q0 e1 e2
  have XC2 := Lib.hid hx
  clear XC hx
  have XC := XC2
  clear XC2
  have q0 := blk_cell (XC.out.blk HQ1.out) 2 _ rfl
  by_cases hlt : k < es.length + ys.length
  · have f0 : (k : Int) < (es.length : Int) + (ys.length : Int) := by omega
    by_cases hke : k < es.length
    · obtain ⟨e, he⟩ : ∃ e, es[k]? = some e := ⟨_, List.getElem?_eq_getElem hke⟩
      obtain ⟨b, o, hB, hb, hc⟩ := (HLL.out.ext XC.out).get he
      subst hB
      have c6 := hc 6 _ rfl
      have f1 : (k : Int) < (es.length : Int) := by omega
      clear he hb hc
      obtain ⟨ew, hew⟩ : ∃ ew, e.why = ew := ⟨_, rfl⟩
      simp only [hew] at c6
      by_cases hw : 300 < ew.size
      · have e1 : decide (300 < ew.size) = true := decide_eq_true hw
        clear hlt
        go_wp2_with fail
        refine (lnfixed_yes _ (HT.out.ext XC.out)).mono ?_
        rintro e wk ⟨rfl, hxk⟩
        have XD := Lib.hid (XC.out.trans hxk)
        clear hxk XC
        go_wp2
        go_ret
        exact ⟨rfl, HX1.out.trans XD.out⟩
      · have e1 : decide (300 < ew.size) = false := decide_eq_false hw
        have e2 : decide ((es.length : Int) ≤ (k : Int)) = false := decide_eq_false (by omega)
        clear hlt
        go_wp2
        go_roundw
        case rel => exact ⟨k + 1, by omega, by go_num, Lib.hid fun j s hs hj => by omega, XC.out⟩
        case measure => simp [intOf]; omega
    · obtain ⟨j, hj⟩ : ∃ j, k = es.length + j := ⟨k - es.length, by omega⟩
      have hjy : j < ys.length := by omega
      obtain ⟨s, hs⟩ : ∃ s, ys[j]? = some s := ⟨_, List.getElem?_eq_getElem hjy⟩
      obtain ⟨b, o, hB, hb, hc⟩ := (HYY.out.ext XC.out).get hs
      subst hB
      have c4 := hc 4 _ rfl
      have HS := Lib.hid hs
      have HJ := Lib.hid hj
      have f1 : ¬ (k : Int) < (es.length : Int) := by omega
      have f2 : (es.length : Int) ≤ (k : Int) := by omega
      have f3 : (k : Int) - (es.length : Int) = (j : Int) := by omega
      have f4 : (0 : Int) ≤ (j : Int) := by omega
      have f5 : (j : Int) < (ys.length : Int) := by omega
      clear hs hb hc
      obtain ⟨sw, hsw⟩ : ∃ sw, s.why = sw := ⟨_, rfl⟩
      simp only [hsw] at c4
      have HSW := Lib.hid hsw
      by_cases hw : 300 < sw.size
      · have e1 : decide (300 < sw.size) = true := decide_eq_true hw
        clear hlt hj hsw
        go_wp2_with fail
        refine (lnfixed_yes _ (HT.out.ext XC.out)).mono ?_
        rintro e wk ⟨rfl, hxk⟩
        have XD := Lib.hid (XC.out.trans hxk)
        clear hxk XC
        go_wp2
        go_ret
        exact ⟨rfl, HX1.out.trans XD.out⟩
      · have e1 : decide (300 < sw.size) = false := decide_eq_false hw
        clear hlt hj hsw
        go_wp2
        go_roundw
        case rel => exact ⟨k + 1, by have := HJ.out; omega, by go_num, Lib.hid fun j' s' hs' hj' => by
         rcases Nat.lt_or_ge (es.length + j') k with h | h
         · exact HALL.out j' s' hs' h
         · have e3 : j' = j := by have := HJ.out; omega
           subst e3
           rw [HS.out, Option.some.injEq] at hs'
           subst hs'
           rw [HSW.out]
           omega, XC.out⟩
        case measure => simp [intOf]; have := HJ.out; omega
  · obtain rfl : k = es.length + ys.length := by omega
    have HTX : Hid (∀ s ∈ ys, TxIn s) := Lib.hid fun s hs => by
     obtain ⟨j, hj⟩ := List.mem_iff_getElem?.1 hs
     exact spin_tx (HYI.out s hs) (HALL.out j s hj (by have := (List.getElem?_eq_some_iff.1 hj).1; omega))
    clear HALL hlt hk
    obtain ⟨rg, hrg⟩ : ∃ rg, Sp.ofG x es n = rg := ⟨_, rfl⟩
    obtain ⟨rp, hrp⟩ : ∃ rp, Sp.ofP x es n = rp := ⟨_, rfl⟩
    obtain ⟨rs, hrs⟩ : ∃ rs, Sp.sum ys st = rs := ⟨_, rfl⟩
    obtain ⟨rt, hrt⟩ : ∃ rt, Sp.text ys = rt := ⟨_, rfl⟩
    have HLG : Hid (rg.length ≤ 1000000) := Lib.hid (by rw [← hrg]; have := Sp.ofG_len x es n; omega)
    have HLP : Hid (rp.length ≤ 1000000) := Lib.hid (by rw [← hrp]; have := Sp.ofP_len x es n; omega)
    have HRG := Lib.hid hrg
    have HRP := Lib.hid hrp
    have HRS := Lib.hid hrs
    have HRT := Lib.hid hrt
    have HN : Hid (es.length ≤ 1000) := Lib.hid (by omega)
    have HYL : Hid (ys.length ≤ 1000000) := Lib.hid (by omega)
    have HYN : Hid (ys.length ≤ 1000) := Lib.hid (by omega)
    have HTL : Hid (∀ s ∈ ys, s.till ≤ 9223372036854775807) := Lib.hid fun s hs => (HTX.out s hs).2.1.2
    have HBR := Lib.hid (XC.out.blk HB1.out)
    have HQR := Lib.hid (XC.out.blk HQ1.out)
    clear hrg hrp hrs hrt
    go_upto_region 8 with fail
    clear q0
    refine region_rgx ([(0, (fun u => u = .bool true : Value → Prop), (fun _ _ => True : (Nat → GV) → World → Prop)), (6, (fun _ => True : Value → Prop), (fun u w => RowsAt 5 spL w (u 6).v rg : (Nat → GV) → World → Prop)), (11, (fun _ => True : Value → Prop), (fun u w => RowsAt 5 spL w (u 11).v rg : (Nat → GV) → World → Prop)), (12, (fun u => u = .bool true : Value → Prop), (fun _ _ => True : (Nat → GV) → World → Prop)), (19, (fun _ => True : Value → Prop), (fun u w => RowsAt 5 spL w (u 19).v rp : (Nat → GV) → World → Prop)), (24, (fun _ => True : Value → Prop), (fun u w => RowsAt 5 spL w (u 24).v rp : (Nat → GV) → World → Prop)), (25, (fun u => u = .bool true : Value → Prop), (fun _ _ => True : (Nat → GV) → World → Prop)), (32, (fun u => u = .int .i64 rs : Value → Prop), (fun _ _ => True : (Nat → GV) → World → Prop)), (37, (fun u => u = .int .i64 rs : Value → Prop), (fun _ _ => True : (Nat → GV) → World → Prop)), (43, (fun u => u = .string rt : Value → Prop), (fun _ _ => True : (Nat → GV) → World → Prop)), (46, (fun u => u = .string rt : Value → Prop), (fun _ _ => True : (Nat → GV) → World → Prop))]) (wr) (by kernel_rfl) (by kernel_rfl) ?_ ?_ ?_
    · exact List.forall_mem_cons.2 ⟨⟨⟨_, rfl⟩, fun _ _ _ _ _ => trivial, fun _ _ _ _ _ => trivial⟩, List.forall_mem_cons.2 ⟨⟨⟨undef, trivial⟩, fun u v w h ht => by show (fun u w => RowsAt 5 spL w (u 6).v rg : (Nat → GV) → World → Prop) v w; dsimp only; rw [← h 6 (.inl rfl) (by kernel_rfl)]; exact ht, fun u w w2 hx ht => ht.ext hx⟩, List.forall_mem_cons.2 ⟨⟨⟨undef, trivial⟩, fun u v w h ht => by show (fun u w => RowsAt 5 spL w (u 11).v rg : (Nat → GV) → World → Prop) v w; dsimp only; rw [← h 11 (.inl rfl) (by kernel_rfl)]; exact ht, fun u w w2 hx ht => ht.ext hx⟩, List.forall_mem_cons.2 ⟨⟨⟨_, rfl⟩, fun _ _ _ _ _ => trivial, fun _ _ _ _ _ => trivial⟩, List.forall_mem_cons.2 ⟨⟨⟨undef, trivial⟩, fun u v w h ht => by show (fun u w => RowsAt 5 spL w (u 19).v rp : (Nat → GV) → World → Prop) v w; dsimp only; rw [← h 19 (.inl rfl) (by kernel_rfl)]; exact ht, fun u w w2 hx ht => ht.ext hx⟩, List.forall_mem_cons.2 ⟨⟨⟨undef, trivial⟩, fun u v w h ht => by show (fun u w => RowsAt 5 spL w (u 24).v rp : (Nat → GV) → World → Prop) v w; dsimp only; rw [← h 24 (.inl rfl) (by kernel_rfl)]; exact ht, fun u w w2 hx ht => ht.ext hx⟩, List.forall_mem_cons.2 ⟨⟨⟨_, rfl⟩, fun _ _ _ _ _ => trivial, fun _ _ _ _ _ => trivial⟩, List.forall_mem_cons.2 ⟨⟨⟨_, rfl⟩, fun _ _ _ _ _ => trivial, fun _ _ _ _ _ => trivial⟩, List.forall_mem_cons.2 ⟨⟨⟨_, rfl⟩, fun _ _ _ _ _ => trivial, fun _ _ _ _ _ => trivial⟩, List.forall_mem_cons.2 ⟨⟨⟨_, rfl⟩, fun _ _ _ _ _ => trivial, fun _ _ _ _ _ => trivial⟩, List.forall_mem_cons.2 ⟨⟨⟨_, rfl⟩, fun _ _ _ _ _ => trivial, fun _ _ _ _ _ => trivial⟩, List.forall_mem_nil _⟩⟩⟩⟩⟩⟩⟩⟩⟩⟩⟩
    · first | assumption | exact Ext.refl _
    refine rg_mem (fun u => u = .bool true : Value → Prop) (fun _ _ => True : (Nat → GV) → World → Prop) (fun _ => Ext) rfl rfl rfl rfl (by kernel_rfl) (by kernel_rfl) (fun w hS hN R hR => ?_) ?_
    · have HR := Lib.hid hR
      clear hR
      (try clear hN)
      go_simp
      refine givesM_call ((lnfixed_yes w (HT.out.ext (XC.out.trans hS))).mono ?_)
      rintro e w' ⟨rfl, hx⟩
      exact ⟨_, rfl, HR.out _ _ rfl trivial hx⟩
    rintro u0 s0 t0 rfl
    refine rg_pure (v := ?_) rfl (by kernel_rfl) (by kernel_rfl) (fun w hS hN => ?_) ?_
    rotate_left 1
    · clear hN
      go_simp
      refine givesP_mk ?_
      with_reducible rfl
    refine rg_pure (v := .agg #[.int .i64 x.time, .slice A x.ps.length c, .slice B x.gs.length d]) rfl (by kernel_rfl) (by kernel_rfl) (fun w hS hN => ?_) ?_
    · clear hN
      exact givesP_load 25 _ rfl _ (by go_simp) ([.int .i64 x.time, .slice A x.ps.length c, .slice B x.gs.length d]) _ rfl _ (range_row (hS.blk HBR.out)) Tryd.underlying25 rfl (by kernel_rfl)
    iterate 2
     refine rg_pure (v := ?_) rfl (by kernel_rfl) (by kernel_rfl) (fun w hS hN => ?_) ?_
     rotate_left 1
     · clear hN
       go_simp
       refine givesP_mk ?_
       with_reducible rfl
    refine rg_pure (v := ?_) rfl (by kernel_rfl) (by kernel_rfl) (fun w hS hN => ?_) ?_
    rotate_left 1
    · have z := blk_cell (hS.blk HQR.out) 0 _ rfl
      clear hN
      go_simp
      refine givesP_mk ?_
      with_reducible rfl
    refine rg_mem (fun _ => True : Value → Prop) (fun u w => RowsAt 5 spL w (u 6).v rg : (Nat → GV) → World → Prop) (fun _ => Ext) rfl rfl rfl rfl (by kernel_rfl) (by kernel_rfl) (fun w hS hN R hR => ?_) ?_
    · have HR := Lib.hid hR
      clear hR
      (try clear hN)
      go_simp
      refine givesM_call ((lnG_any _ _ x es n w (HSN.out.ext (XC.out.trans hS)) (HLL.out.ext (XC.out.trans hS)) HN.out HST.out rg HRG.out).mono ?_)
      rintro e w' ⟨u, rfl, hr, hx⟩
      exact ⟨_, rfl, HR.out _ _ trivial hr hx⟩
    rintro u6 s6 t6 -
    refine rg_pure (v := .agg #[.int .i64 x.time, .slice A x.ps.length c, .slice B x.gs.length d]) rfl (by kernel_rfl) (by kernel_rfl) (fun w hS hN => ?_) ?_
    · clear hN
      exact givesP_load 25 _ rfl _ (by go_simp) ([.int .i64 x.time, .slice A x.ps.length c, .slice B x.gs.length d]) _ rfl _ (range_row (hS.blk HBR.out)) Tryd.underlying25 rfl (by kernel_rfl)
    iterate 2
     refine rg_pure (v := ?_) rfl (by kernel_rfl) (by kernel_rfl) (fun w hS hN => ?_) ?_
     rotate_left 1
     · clear hN
       go_simp
       refine givesP_mk ?_
       with_reducible rfl
    refine rg_pure (v := ?_) rfl (by kernel_rfl) (by kernel_rfl) (fun w hS hN => ?_) ?_
    rotate_left 1
    · have z := blk_cell (hS.blk HQR.out) 0 _ rfl
      clear hN
      go_simp
      refine givesP_mk ?_
      with_reducible rfl
    refine rg_mem (fun _ => True : Value → Prop) (fun u w => RowsAt 5 spL w (u 11).v rg : (Nat → GV) → World → Prop) (fun _ => Ext) rfl rfl rfl rfl (by kernel_rfl) (by kernel_rfl) (fun w hS hN R hR => ?_) ?_
    · have HR := Lib.hid hR
      clear hR
      (try clear hN)
      go_simp
      refine givesM_call ((rspG_any _ _ x es n w (HSN.out.ext (XC.out.trans hS)) (HLL.out.ext (XC.out.trans hS)) HN.out HST.out rg HRG.out).mono ?_)
      rintro e w' ⟨u, rfl, hr, hx⟩
      exact ⟨_, rfl, HR.out _ _ trivial hr hx⟩
    rintro u11 s11 t11 -
    refine rg_mem (fun u => u = .bool true : Value → Prop) (fun _ _ => True : (Nat → GV) → World → Prop) (fun _ => Ext) rfl rfl rfl rfl (by kernel_rfl) (by kernel_rfl) (fun w hS hN R hR => ?_) ?_
    · have HR := Lib.hid hR
      clear hR
      have ha : RowsAt 5 spL w u6 rg := hN.get 6 rfl (by kernel_rfl)
      have hb : RowsAt 5 spL w u11 rg := hN.get 11 rfl (by kernel_rfl)
      (try clear hN)
      go_simp
      refine givesM_call ((rlsame_any _ _ rg rg w ha hb HLG.out HLG.out).mono ?_)
      rintro e w' ⟨rfl, hx⟩
      exact ⟨_, rfl, HR.out _ _ (by simp) trivial hx⟩
    rintro u12 s12 t12 rfl
    iterate 2
     refine rg_pure (v := ?_) rfl (by kernel_rfl) (by kernel_rfl) (fun w hS hN => ?_) ?_
     rotate_left 1
     · clear hN
       go_simp
       refine givesP_mk ?_
       with_reducible rfl
    refine rg_pure (v := .agg #[.int .i64 x.time, .slice A x.ps.length c, .slice B x.gs.length d]) rfl (by kernel_rfl) (by kernel_rfl) (fun w hS hN => ?_) ?_
    · clear hN
      exact givesP_load 25 _ rfl _ (by go_simp) ([.int .i64 x.time, .slice A x.ps.length c, .slice B x.gs.length d]) _ rfl _ (range_row (hS.blk HBR.out)) Tryd.underlying25 rfl (by kernel_rfl)
    iterate 2
     refine rg_pure (v := ?_) rfl (by kernel_rfl) (by kernel_rfl) (fun w hS hN => ?_) ?_
     rotate_left 1
     · clear hN
       go_simp
       refine givesP_mk ?_
       with_reducible rfl
    refine rg_pure (v := ?_) rfl (by kernel_rfl) (by kernel_rfl) (fun w hS hN => ?_) ?_
    rotate_left 1
    · have z := blk_cell (hS.blk HQR.out) 0 _ rfl
      clear hN
      go_simp
      refine givesP_mk ?_
      with_reducible rfl
    refine rg_mem (fun _ => True : Value → Prop) (fun u w => RowsAt 5 spL w (u 19).v rp : (Nat → GV) → World → Prop) (fun _ => Ext) rfl rfl rfl rfl (by kernel_rfl) (by kernel_rfl) (fun w hS hN R hR => ?_) ?_
    · have HR := Lib.hid hR
      clear hR
      (try clear hN)
      go_simp
      refine givesM_call ((lnP_any _ _ x es n w (HSN.out.ext (XC.out.trans hS)) (HLL.out.ext (XC.out.trans hS)) HN.out HST.out rp HRP.out).mono ?_)
      rintro e w' ⟨u, rfl, hr, hx⟩
      exact ⟨_, rfl, HR.out _ _ trivial hr hx⟩
    rintro u19 s19 t19 -
    refine rg_pure (v := .agg #[.int .i64 x.time, .slice A x.ps.length c, .slice B x.gs.length d]) rfl (by kernel_rfl) (by kernel_rfl) (fun w hS hN => ?_) ?_
    · clear hN
      exact givesP_load 25 _ rfl _ (by go_simp) ([.int .i64 x.time, .slice A x.ps.length c, .slice B x.gs.length d]) _ rfl _ (range_row (hS.blk HBR.out)) Tryd.underlying25 rfl (by kernel_rfl)
    iterate 2
     refine rg_pure (v := ?_) rfl (by kernel_rfl) (by kernel_rfl) (fun w hS hN => ?_) ?_
     rotate_left 1
     · clear hN
       go_simp
       refine givesP_mk ?_
       with_reducible rfl
    refine rg_pure (v := ?_) rfl (by kernel_rfl) (by kernel_rfl) (fun w hS hN => ?_) ?_
    rotate_left 1
    · have z := blk_cell (hS.blk HQR.out) 0 _ rfl
      clear hN
      go_simp
      refine givesP_mk ?_
      with_reducible rfl
    refine rg_mem (fun _ => True : Value → Prop) (fun u w => RowsAt 5 spL w (u 24).v rp : (Nat → GV) → World → Prop) (fun _ => Ext) rfl rfl rfl rfl (by kernel_rfl) (by kernel_rfl) (fun w hS hN R hR => ?_) ?_
    · have HR := Lib.hid hR
      clear hR
      (try clear hN)
      go_simp
      refine givesM_call ((rspP_any _ _ x es n w (HSN.out.ext (XC.out.trans hS)) (HLL.out.ext (XC.out.trans hS)) HN.out HST.out rp HRP.out).mono ?_)
      rintro e w' ⟨u, rfl, hr, hx⟩
      exact ⟨_, rfl, HR.out _ _ trivial hr hx⟩
    rintro u24 s24 t24 -
    refine rg_mem (fun u => u = .bool true : Value → Prop) (fun _ _ => True : (Nat → GV) → World → Prop) (fun _ => Ext) rfl rfl rfl rfl (by kernel_rfl) (by kernel_rfl) (fun w hS hN R hR => ?_) ?_
    · have HR := Lib.hid hR
      clear hR
      have ha : RowsAt 5 spL w u19 rp := hN.get 19 rfl (by kernel_rfl)
      have hb : RowsAt 5 spL w u24 rp := hN.get 24 rfl (by kernel_rfl)
      (try clear hN)
      go_simp
      refine givesM_call ((rlsame_any _ _ rp rp w ha hb HLP.out HLP.out).mono ?_)
      rintro e w' ⟨rfl, hx⟩
      exact ⟨_, rfl, HR.out _ _ (by simp) trivial hx⟩
    rintro u25 s25 t25 rfl
    iterate 3
     refine rg_pure (v := ?_) rfl (by kernel_rfl) (by kernel_rfl) (fun w hS hN => ?_) ?_
     rotate_left 1
     · clear hN
       go_simp
       refine givesP_mk ?_
       with_reducible rfl
    refine rg_pure (v := ?_) rfl (by kernel_rfl) (by kernel_rfl) (fun w hS hN => ?_) ?_
    rotate_left 1
    · have z := blk_cell (hS.blk HQR.out) 2 _ rfl
      clear hN
      go_simp
      refine givesP_mk ?_
      with_reducible rfl
    refine rg_pure (v := ?_) rfl (by kernel_rfl) (by kernel_rfl) (fun w hS hN => ?_) ?_
    rotate_left 1
    · clear hN
      go_simp
      refine givesP_mk ?_
      with_reducible rfl
    refine rg_pure (v := ?_) rfl (by kernel_rfl) (by kernel_rfl) (fun w hS hN => ?_) ?_
    rotate_left 1
    · have z := blk_cell (hS.blk HQR.out) 1 _ rfl
      clear hN
      go_simp
      refine givesP_mk ?_
      with_reducible rfl
    refine rg_mem (fun u => u = .int .i64 rs : Value → Prop) (fun _ _ => True : (Nat → GV) → World → Prop) (fun _ => Ext) rfl rfl rfl rfl (by kernel_rfl) (by kernel_rfl) (fun w hS hN R hR => ?_) ?_
    · have HR := Lib.hid hR
      clear hR
      (try clear hN)
      go_simp
      refine givesM_call ((lsum_any _ ys st w (HYY.out.ext (XC.out.trans hS)) HYL.out HTL.out rs HRS.out).mono ?_)
      rintro e w' ⟨rfl, hx⟩
      exact ⟨_, rfl, HR.out _ _ rfl trivial hx⟩
    rintro u32 s32 t32 rfl
    refine rg_pure (v := ?_) rfl (by kernel_rfl) (by kernel_rfl) (fun w hS hN => ?_) ?_
    rotate_left 1
    · clear hN
      go_simp
      refine givesP_mk ?_
      with_reducible rfl
    refine rg_pure (v := ?_) rfl (by kernel_rfl) (by kernel_rfl) (fun w hS hN => ?_) ?_
    rotate_left 1
    · have z := blk_cell (hS.blk HQR.out) 2 _ rfl
      clear hN
      go_simp
      refine givesP_mk ?_
      with_reducible rfl
    refine rg_pure (v := ?_) rfl (by kernel_rfl) (by kernel_rfl) (fun w hS hN => ?_) ?_
    rotate_left 1
    · clear hN
      go_simp
      refine givesP_mk ?_
      with_reducible rfl
    refine rg_pure (v := ?_) rfl (by kernel_rfl) (by kernel_rfl) (fun w hS hN => ?_) ?_
    rotate_left 1
    · have z := blk_cell (hS.blk HQR.out) 1 _ rfl
      clear hN
      go_simp
      refine givesP_mk ?_
      with_reducible rfl
    refine rg_mem (fun u => u = .int .i64 rs : Value → Prop) (fun _ _ => True : (Nat → GV) → World → Prop) (fun _ => Ext) rfl rfl rfl rfl (by kernel_rfl) (by kernel_rfl) (fun w hS hN R hR => ?_) ?_
    · have HR := Lib.hid hR
      clear hR
      (try clear hN)
      go_simp
      refine givesM_call ((rlsum_any _ ys st w (HYY.out.ext (XC.out.trans hS)) HYL.out HTL.out rs HRS.out).mono ?_)
      rintro e w' ⟨rfl, hx⟩
      exact ⟨_, rfl, HR.out _ _ rfl trivial hx⟩
    rintro u37 s37 t37 rfl
    iterate 4
     refine rg_pure (v := ?_) rfl (by kernel_rfl) (by kernel_rfl) (fun w hS hN => ?_) ?_
     rotate_left 1
     · clear hN
       go_simp
       refine givesP_mk ?_
       with_reducible rfl
    refine rg_pure (v := ?_) rfl (by kernel_rfl) (by kernel_rfl) (fun w hS hN => ?_) ?_
    rotate_left 1
    · have z := blk_cell (hS.blk HQR.out) 2 _ rfl
      clear hN
      go_simp
      refine givesP_mk ?_
      with_reducible rfl
    refine rg_mem (fun u => u = .string rt : Value → Prop) (fun _ _ => True : (Nat → GV) → World → Prop) (fun _ => Ext) rfl rfl rfl rfl (by kernel_rfl) (by kernel_rfl) (fun w hS hN R hR => ?_) ?_
    · have HR := Lib.hid hR
      clear hR
      (try clear hN)
      go_simp
      refine givesM_call ((ltext_any _ ys w (HT.out.ext (XC.out.trans hS)) (HYY.out.ext (XC.out.trans hS)) HYN.out HTX.out rt HRT.out).mono ?_)
      rintro e w' ⟨rfl, hx⟩
      exact ⟨_, rfl, HR.out _ _ rfl trivial hx⟩
    rintro u43 s43 t43 rfl
    refine rg_pure (v := ?_) rfl (by kernel_rfl) (by kernel_rfl) (fun w hS hN => ?_) ?_
    rotate_left 1
    · clear hN
      go_simp
      refine givesP_mk ?_
      with_reducible rfl
    refine rg_pure (v := ?_) rfl (by kernel_rfl) (by kernel_rfl) (fun w hS hN => ?_) ?_
    rotate_left 1
    · have z := blk_cell (hS.blk HQR.out) 2 _ rfl
      clear hN
      go_simp
      refine givesP_mk ?_
      with_reducible rfl
    refine rg_mem (fun u => u = .string rt : Value → Prop) (fun _ _ => True : (Nat → GV) → World → Prop) (fun _ => Ext) rfl rfl rfl rfl (by kernel_rfl) (by kernel_rfl) (fun w hS hN R hR => ?_) ?_
    · have HR := Lib.hid hR
      clear hR
      (try clear hN)
      go_simp
      refine givesM_call ((rltext_any _ ys w (HYY.out.ext (XC.out.trans hS)) HYN.out HTX.out rt HRT.out).mono ?_)
      rintro e w' ⟨rfl, hx⟩
      exact ⟨_, rfl, HR.out _ _ rfl trivial hx⟩
    rintro u46 s46 t46 rfl
    iterate 3
     refine rg_pure (v := ?_) rfl (by kernel_rfl) (by kernel_rfl) (fun w hS hN => ?_) ?_
     rotate_left 1
     · clear hN
       go_simp
       refine givesP_mk ?_
       with_reducible rfl
    refine rg_done rfl (Nat.le_of_ble_eq_true (by kernel_rfl)) ?_
    intro w8 hS hT
    have X8 := Lib.hid (HX1.out.trans (XC.out.trans hS))
    clear hS hT
    go_simp
    go_wp2
    go_ret
    exact ⟨rfl, X8.out⟩
open Go.ChangeShapes Go.WideShapes Go.Deep Go.RowKit Go.Maps
section
variable {H : Type} {enc : TypeId × Value → H} {w : World} {base : Nat} {held : Bool}
set_option maxRecDepth 100000 in
theorem open_ask25 {r : Reach} {b : Nat} {v : Value} {d : DataW H} {p : List MemPlace} (hv : Value.okWide Tryd.prog w r b 29 v) (h : DataW.Trod enc Tryd.prog w base (fun _ => true) held 29 v d p) :
    ∃ n st u l, v = .agg #[.int .i64 n, .int .i64 st, u] ∧ RowsAt 5 spL w u l ∧ l.length ≤ maxLen ∧ ∀ s ∈ l, SpIn s := by
 obtain ⟨v0, v1, v2, y0, y1, y2, n, rfl, _, _, h0, h1, h2⟩ := Go.Joins.open_agg3 Tryd.underlying29 (by kernel_rfl) (by kernel_rfl) hv h
 obtain ⟨a, rfl, _⟩ := cells_int Tryd.underlying3 h0
 obtain ⟨c, rfl, _⟩ := cells_int Tryd.underlying3 h1
 obtain ⟨A, m, cc, rfl⟩ := cells_slice Tryd.underlying27 h2
 obtain ⟨hl, l, rfl, hr, hg⟩ := open_spans h2
 exact ⟨a, c, _, l, rfl, hr, hl, hg⟩
end
end Go.Proofs.YtohncgikdlbogaaDoor
