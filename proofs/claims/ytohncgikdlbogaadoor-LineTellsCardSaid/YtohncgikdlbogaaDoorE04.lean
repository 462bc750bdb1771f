/-
  Several texts in one: Hg, Hh, Rv, Rw, Hi, Hl, Hm, Gs, Hs.
-/
import Derived.Test.YtohncgikdlbogaaDoorE03
import Derived.Test.YtohncgikdlbogaaDoorE02
import Derived.Lib.SliceRun
import Derived.Laws.OwnMore
set_option linter.unusedVariables false
set_option linter.unusedSimpArgs false
namespace Go.Proofs.YtohncgikdlbogaaDoor
open Go.RowKit
set_option maxRecDepth 100000 in
set_option maxHeartbeats 12000000 in
theorem rwith_any (v : Value) (x : Sn) (g : Int) (w : World) (hs : SnAt w v x) (hp : x.ps.length ≤ 10000) (hg : x.gs.length ≤ 10000) (ys : List Gs4) (hys : Md.withF x.gs g = ys) :
    Calls Tryd.prog 77 #[v, .int .i64 g] w (SnRet w { x with gs := ys }) := by
 obtain ⟨A, c, B, d, rfl, h2, h3⟩ := hs
 obtain ⟨time, ps, gs⟩ := x
 simp only at h2 h3 hp hg ⊢
 obtain ⟨w1, hw1⟩ : ∃ w1, (w.alloc (.cells #[.int .i64 time, .slice A ps.length c, .slice B gs.length d] 25)).alloc (.cells #[.int .i64 0, .slice none 0 0, .slice none 0 0] 25) = w1 := ⟨_, rfl⟩
 have hx1 : Ext w w1 := by rw [← hw1]; exact ((Ext.refl w).alloc _).alloc _
 have hb1 : w1.heap[w.heap.size]? = some (.cells #[.int .i64 time, .slice A ps.length c, .slice B gs.length d] 25 (0, 0)) := by rw [← hw1]; exact blk_alloc (blk_new w _) _
 have hz1 : w1.heap[w.heap.size + 1]? = some (.cells #[.int .i64 0, .slice none 0 0, .slice none 0 0] 25 (0, 0)) := by rw [← hw1, ← World.size_alloc w (.cells #[.int .i64 time, .slice A ps.length c, .slice B gs.length d] 25)]; exact blk_new _ _
 have hsz1 : w1.heap.size = w.heap.size + 1 + 1 := by rw [← hw1, World.size_alloc, World.size_alloc]
 obtain ⟨S0, hS0⟩ : ∃ S0, w.heap.size = S0 := ⟨_, rfl⟩
 rw [hS0] at hb1 hz1 hsz1
 have hmade : OwnRows 49 4 snGCells (w1.alloc (.cells #[] 49)) w1.heap.size (.slice (some ⟨w1.heap.size, 0, none⟩) 0 0) [] := World.ownsRow_made (base := w1.heap.size) (e := 49) (size := 4) w1 #[] 0 (Nat.le_refl _) (by decide) rfl
 obtain ⟨wm, hwm⟩ : ∃ wm, w1.alloc (.cells #[] 49) = wm := ⟨_, rfl⟩
 rw [hwm] at hmade
 have hxm : Ext w1 wm := by rw [← hwm]; exact (Ext.refl w1).alloc _
 have HMADE := Lib.hid hmade
 have HWM := Lib.hid hwm
 have HXM := Lib.hid hxm
 have HS0 := Lib.hid hS0
 have HW1 := Lib.hid hw1
 have HX1 := Lib.hid hx1
 have HB1 := Lib.hid hb1
 have HZ1 := Lib.hid hz1
 have HSZ := Lib.hid hsz1
 have H20 := Lib.hid h2
 have H3 := Lib.hid (h3.ext hx1)
 have hg' : (gs.length : Int) ≤ 10000 := by omega
 clear hmade hwm hxm hS0 hw1 hx1 hb1 hz1 hsz1 h2 h3
 simp only at hys
 have HYS := Lib.hid hys
 clear hys
 go_enter Tryd.func77, Tryd.ntmps77
 go_upto_region 1 with fail
 rw [HW1.out, HS0.out]
 go_wp2_with (first | rw [HWM.out])
 go_loopw [5, 6, 7] (fun uv bv iv wr => ∃ (k : Nat) (l : List Gs4) (bb : Bool), k ≤ gs.length ∧ iv = .int .i64 k ∧ bv = .bool bb ∧ (l, bb) = (gs.take k).foldl (Md.stp g) ([], false) ∧ OwnRows 49 4 snGCells wr w1.heap.size uv l ∧ Ext w1 wr) (fun _ _ iv _ => gs.length - (intOf iv).toNat)
 case atStart => exact ⟨0, [], false, by omega, rfl, rfl, rfl, HMADE.out, HXM.out⟩
 case round =>
  obtain ⟨k, l, bb, hk, rfl, rfl, hl, ho, hx⟩ := hrel
  have HL := Lib.hid hl
  have HO := Lib.hid ho
  have HX := Lib.hid hx
  have HLL : Hid (l.length ≤ 20000) := Lib.hid (by
   have h1 := Md.stp_len g (gs.take k) ([], false)
   rw [← hl, List.length_take] at h1
   simp only [List.length_nil] at h1
   omega)
  have c2 := blk_cell (hx.blk HB1.out) 2 _ rfl
  clear hl ho hx
  by_cases hlt : k < gs.length
  · obtain ⟨y, hy⟩ : ∃ y, gs[k]? = some y := ⟨_, List.getElem?_eq_getElem hlt⟩
    obtain ⟨b, o, hB, hb, hc⟩ := H3.out.get hy
    have HCK : Hid (∀ wx, Ext w1 wx → ∀ i u, (snGCells y)[i]? = some u → wx.cell? ⟨b, o + k * 4 + i, none⟩ = some u) := Lib.hid fun wx hx i u hu => (bcell hx _ _ hb).trans (hc i u hu)
    subst hB
    have k0 := HCK.out wr HX.out 0 _ rfl
    have k1 := HCK.out wr HX.out 1 _ rfl
    have k2 := HCK.out wr HX.out 2 _ rfl
    have k3 := HCK.out wr HX.out 3 _ rfl
    rw [Nat.add_zero] at k0
    have HY : Hid ((gs.take (k + 1)).foldl (Md.stp g) ([], false) = Md.stp g (l, bb) y) := Lib.hid (by rw [List.take_add_one, hy, List.foldl_append, ← HL.out]; rfl)
    clear hc hb hy
    by_cases hm : g < y.1 ∧ bb = false
    · obtain ⟨hm1, rfl⟩ := hm
      have h1 : decide (g < y.1) = true := decide_eq_true hm1
      have HN : Hid (Md.stp g (l, false) y = (l ++ [(g, 1, 0, 0)] ++ [y], true)) := Lib.hid (by unfold Md.stp; rw [if_pos ⟨hm1, rfl⟩])
      obtain ⟨un, wn, hr1, ho1, hx1⟩ := gs_push (W := w1) HO.out HX.out (g, 1, 0, 0) (by have := HLL.out; omega)
      have HR1 := Lib.hid hr1
      have HO1 := Lib.hid ho1
      have HXN1 := Lib.hid hx1
      clear hr1 ho1 hx1
      obtain ⟨uo, wo, hr2, ho2, hx2⟩ := gs_push (W := w1) HO1.out HXN1.out y (by have := HLL.out; simp; omega)
      have HR2 := Lib.hid hr2
      have HO2 := Lib.hid ho2
      have HXN2 := Lib.hid hx2
      clear hr2 ho2 hx2
      obtain ⟨wp, hwp⟩ : ∃ wp, wr.alloc (.cells (snGCells (g, 1, 0, 0)).toArray 49) = wp := ⟨_, rfl⟩
      have hrp := HR1.out
      rw [hwp] at hrp
      have HWP : Hid (wr.alloc (.cells #[.int .i64 g, .int .i64 1, .int .i64 0, .int .i64 0] 49) = wp) := Lib.hid hwp
      have HRP := Lib.hid hrp
      clear hwp hrp
      clear hm1
      go_upto_region 9 with (first | rw [HWP.out] | (at_builtin; refine wpList_append_run rfl _ _ 23 rfl _ _ rfl rfl HRP.out ?_))
      clear k0 k1 k2 k3 c2
      have c2 := blk_cell (HXN1.out.blk HB1.out) 2 _ rfl
      have k0 := HCK.out wn HXN1.out 0 _ rfl
      have k1 := HCK.out wn HXN1.out 1 _ rfl
      have k2 := HCK.out wn HXN1.out 2 _ rfl
      have k3 := HCK.out wn HXN1.out 3 _ rfl
      rw [Nat.add_zero] at k0
      go_wp2_with (at_builtin; refine wpList_append_run rfl _ _ 23 rfl _ _ rfl rfl HR2.out ?_)
      go_roundw
      case rel => exact ⟨k + 1, l ++ [(g, 1, 0, 0)] ++ [y], true, by omega, by go_num, rfl, by rw [HY.out, HN.out], HO2.out, HXN2.out⟩
      case measure => simp [intOf]; omega
    · have HN : Hid (Md.stp g (l, bb) y = (l ++ [y], bb)) := Lib.hid (by unfold Md.stp; rw [if_neg hm])
      obtain ⟨un, wn, hr1, ho1, hx1⟩ := gs_push (W := w1) HO.out HX.out y (by have := HLL.out; omega)
      have HR1 := Lib.hid hr1
      have HO1 := Lib.hid ho1
      have HXN1 := Lib.hid hx1
      clear hr1 ho1 hx1
      by_cases hm1 : g < y.1
      · have h1 : decide (g < y.1) = true := decide_eq_true hm1
        obtain rfl : bb = true := by cases bb with | true => rfl | false => exact absurd ⟨hm1, rfl⟩ hm
        clear hm hm1
        go_wp2_with (at_builtin; refine wpList_append_run rfl _ _ 23 rfl _ _ rfl rfl HR1.out ?_)
        go_roundw
        case rel => exact ⟨k + 1, l ++ [y], true, by omega, by go_num, rfl, by rw [HY.out, HN.out], HO1.out, HXN1.out⟩
        case measure => simp [intOf]; omega
      · have h1 : decide (g < y.1) = false := decide_eq_false hm1
        clear hm hm1
        go_wp2_with (at_builtin; refine wpList_append_run rfl _ _ 23 rfl _ _ rfl rfl HR1.out ?_)
        go_roundw
        case rel => exact ⟨k + 1, l ++ [y], bb, by omega, by go_num, rfl, by rw [HY.out, HN.out], HO1.out, HXN1.out⟩
        case measure => simp [intOf]; omega
  · obtain rfl : k = gs.length := by omega
    have HLY : Hid ((if bb = true then l else l ++ [(g, 1, 0, 0)]) = ys) := Lib.hid (by
     rw [← HYS.out]
     have h1 := HL.out
     rw [List.take_length] at h1
     unfold Md.withF
     rw [← h1])
    clear hk hlt c2
    cases bb with
    | true =>
     have hly := HLY.out
     rw [if_pos rfl] at hly
     subst hly
     obtain ⟨Au, cu, hu, -⟩ := (OwnRows.rows snGCells_len HO.out).form
     have HO9 := Lib.hid HO.out
     subst hu
     obtain ⟨q4b, z4b, w6, hw6, hb5, hth6, hb6, hret⟩ := sn_fin HX1.out HS0.out HB1.out HZ1.out HSZ.out H20.out HX.out HO9.out
     have HW6 := Lib.hid hw6
     have HB5 := Lib.hid hb5
     have HTH6 := Lib.hid hth6
     have HB6 := Lib.hid hb6
     have HRET := Lib.hid hret
     clear hw6 hb5 hth6 hb6 hret
     go_upto_region 13 with fail
     clear q4b z4b
     go_wp2_with (first | (refine wpList_load_rowW (by rfl) 25 _ rfl S0 (by go_simp) [.int .i64 time, .slice A ps.length c, .slice Au l.length cu] (.agg ([.int .i64 time, .slice A ps.length c, .slice Au l.length cu]).toArray) rfl _ (range_row HB5.out) Tryd.underlying25 rfl (by kernel_rfl) ?_) | (refine wpList_store_rowN rfl 25 _ _ rfl (S0 + 1) 0 [.int .i64 time, .slice A ps.length c, .slice Au l.length cu] (.agg ([.int .i64 time, .slice A ps.length c, .slice Au l.length cu]).toArray) (by go_simp) (by go_simp) rfl HTH6.out (by kernel_rfl) (sn3_one _ _ _ rfl rfl) HW6.out ?_))
     refine bodyPost_ret (v := .agg ([.int .i64 time, .slice A ps.length c, .slice Au l.length cu]).toArray) (results_cell_row rfl _ _ (S0 + 1) _ _ _ _ rfl HB6.out Tryd.underlying25 rfl (by kernel_rfl)) rfl ?_
     exact HRET.out
    | false =>
     have hly := HLY.out
     rw [if_neg (by simp)] at hly
     have c2 := blk_cell (HX.out.blk HB1.out) 2 _ rfl
     obtain ⟨un, wn, hr1, ho1, hx1⟩ := gs_push (W := w1) HO.out HX.out (g, 1, 0, 0) (by have := HLL.out; omega)
     have HR1 := Lib.hid hr1
     have HO1 := Lib.hid ho1
     have HXN1 := Lib.hid hx1
     clear hr1 ho1 hx1
     obtain ⟨wp, hwp⟩ : ∃ wp, wr.alloc (.cells (snGCells (g, 1, 0, 0)).toArray 49) = wp := ⟨_, rfl⟩
     have hrp := HR1.out
     rw [hwp] at hrp
     have HWP : Hid (wr.alloc (.cells #[.int .i64 g, .int .i64 1, .int .i64 0, .int .i64 0] 49) = wp) := Lib.hid hwp
     have HRP := Lib.hid hrp
     have ho5 := HO1.out
     rw [hly] at ho5
     have HO5 := Lib.hid ho5
     clear hwp hrp ho5
     obtain ⟨Au, cu, hu, -⟩ := (OwnRows.rows snGCells_len HO5.out).form
     have HO9 := Lib.hid HO5.out
     subst hu
     obtain ⟨q4b, z4b, w6, hw6, hb5, hth6, hb6, hret⟩ := sn_fin HX1.out HS0.out HB1.out HZ1.out HSZ.out H20.out HXN1.out HO9.out
     have HW6 := Lib.hid hw6
     have HB5 := Lib.hid hb5
     have HTH6 := Lib.hid hth6
     have HB6 := Lib.hid hb6
     have HRET := Lib.hid hret
     clear hw6 hb5 hth6 hb6 hret
     go_wp2_with (first | rw [HWP.out] | (at_builtin; refine wpList_append_run rfl _ _ 23 rfl _ _ rfl rfl HRP.out ?_) | (refine wpList_load_rowW (by rfl) 25 _ rfl S0 (by go_simp) [.int .i64 time, .slice A ps.length c, .slice Au ys.length cu] (.agg ([.int .i64 time, .slice A ps.length c, .slice Au ys.length cu]).toArray) rfl _ (range_row HB5.out) Tryd.underlying25 rfl (by kernel_rfl) ?_) | (refine wpList_store_rowN rfl 25 _ _ rfl (S0 + 1) 0 [.int .i64 time, .slice A ps.length c, .slice Au ys.length cu] (.agg ([.int .i64 time, .slice A ps.length c, .slice Au ys.length cu]).toArray) (by go_simp) (by go_simp) rfl HTH6.out (by kernel_rfl) (sn3_one _ _ _ rfl rfl) HW6.out ?_))
     refine bodyPost_ret (v := .agg ([.int .i64 time, .slice A ps.length c, .slice Au ys.length cu]).toArray) (results_cell_row rfl _ _ (S0 + 1) _ _ _ _ rfl HB6.out Tryd.underlying25 rfl (by kernel_rfl)) rfl ?_
     exact HRET.out
def lgV (l : Lg) (wy st : Value) : Value := .agg #[.int .i64 l.time, .int .i64 l.m, .int .i64 l.kind, .int .i64 l.g, .int .i64 l.p, .int .i64 l.seq, wy, st]
namespace Md
def askB (kd P G g p sq st ss : Int) (fr : Bool) : Bool :=
 if kd = 1 then fr && decide (P = 0) && decide (G = 0)
 else if kd = 2 then decide (P ≠ 0) && decide (p = P) && decide (G = 0)
 else if kd = 3 then decide (P ≠ 0) && decide (G ≠ 0) && decide (0 < g) && decide (st = 0)
 else if kd = 4 then decide (P ≠ 0) && decide (G = 0) && decide (st = 1) && decide (ss = sq)
 else if kd = 5 ∨ kd = 6 ∨ kd = 8 then decide (P ≠ 0) && decide (G ≠ 0) && decide (g = G)
 else if kd = 7 then decide (P ≠ 0) && decide (st = 3) && decide (ss = sq)
 else if kd = 9 then decide (P ≠ 0) && decide (G ≠ 0) && decide (g = G) && decide (p = P)
 else if kd = 10 then decide (P = 0) && decide (G ≠ 0) && decide (g = G) && (decide (p = 0 ∧ sq = 0) || fr)
 else false
theorem stat_zero {x : Sn} (h : x.may = true) (g : Int) : (stat x.gs g).1 = 0 ↔ fnd x.gs g = none := by
 unfold stat
 cases hf : fnd x.gs g with
 | none => simp
 | some k =>
  obtain ⟨y, hy, -, -⟩ := fnd_some hf
  simp only [List.getD, hy, Option.getD_some, reduceCtorEq, iff_false]
  have h8 := ((Sn.may_iff x).1 h).2.2.2.2.2.2.2.1 y (List.mem_of_getElem? hy)
  unfold snGFit at h8
  intro h0
  rw [h0] at h8
  simp at h8
theorem ask_eq {x : Sn} (h : x.may = true) (l : Lg) : ask x l = askB l.kind (hasP x.ps l.m 1) (hasG x.gs l.m) l.g l.p l.seq (stat x.gs l.g).1 (stat x.gs l.g).2 (free x.ps l.p l.seq) := by
 unfold ask askB
 have h3 : decide (fnd x.gs l.g = none) = decide ((stat x.gs l.g).1 = 0) := by rw [decide_eq_decide]; exact (stat_zero h l.g).symm
 have h4 : ∀ a : Int, decide (stat x.gs l.g = (a, l.seq)) = (decide ((stat x.gs l.g).1 = a) && decide ((stat x.gs l.g).2 = l.seq)) := fun a => by
  rw [← Bool.decide_and, decide_eq_decide]
  constructor
  · intro e; rw [e]; exact ⟨rfl, rfl⟩
  · rintro ⟨e1, e2⟩; exact Prod.ext e1 e2
 rw [h3, h4, h4]
 simp only [Bool.and_assoc]
end Md
set_option maxRecDepth 100000 in
set_option maxHeartbeats 16000000 in
theorem rasked_any (v : Value) (x : Sn) (l : Lg) (wy st : Value) (w : World) (hs : SnAt w v x) (hm : x.may = true) (hlm : 1 ≤ l.m) (r : Bool) (hr : Md.ask x l = r) :
    Calls Tryd.prog 53 #[v, lgV l wy st] w fun e w' => e = .returned (.bool r) ∧ Ext w w' := by
 rw [Md.ask_eq hm l] at hr
 obtain ⟨A, c, B, d, rfl, h2, h3⟩ := hs
 obtain ⟨time, ps, gs⟩ := x
 obtain ⟨lt, lm, kd, lg, lp, ls⟩ := l
 simp only at h2 h3 hlm hr ⊢
 have hmi := (Sn.may_iff _).1 hm
 have hp : ps.length ≤ 64 := hmi.2.1
 have hg : gs.length ≤ 1000 := hmi.2.2.1
 have HU := Lib.hid (Md.uniq_may hm (m := lm) (by omega))
 have HMAY := Lib.hid hm
 obtain ⟨w1, hw1⟩ : ∃ w1, (w.alloc (.cells #[.int .i64 time, .slice A ps.length c, .slice B gs.length d] 25)).alloc (.cells #[.int .i64 lt, .int .i64 lm, .int .i64 kd, .int .i64 lg, .int .i64 lp, .int .i64 ls, wy, st] 34) = w1 := ⟨_, rfl⟩
 have hx1 : Ext w w1 := by rw [← hw1]; exact ((Ext.refl w).alloc _).alloc _
 have hb1 : w1.heap[w.heap.size]? = some (.cells #[.int .i64 time, .slice A ps.length c, .slice B gs.length d] 25 (0, 0)) := by rw [← hw1]; exact blk_alloc (blk_new w _) _
 have hl1 : w1.heap[w.heap.size + 1]? = some (.cells #[.int .i64 lt, .int .i64 lm, .int .i64 kd, .int .i64 lg, .int .i64 lp, .int .i64 ls, wy, st] 34 (0, 0)) := by rw [← hw1, ← World.size_alloc w (.cells #[.int .i64 time, .slice A ps.length c, .slice B gs.length d] 25)]; exact blk_new _ _
 obtain ⟨S0, hS0⟩ : ∃ S0, w.heap.size = S0 := ⟨_, rfl⟩
 rw [hS0] at hb1 hl1
 have HS0 := Lib.hid hS0
 have HW1 := Lib.hid hw1
 have HX1 := Lib.hid hx1
 have HB1 := Lib.hid hb1
 have HL1 := Lib.hid hl1
 have H2 := Lib.hid (h2.ext hx1)
 have H3 := Lib.hid (h3.ext hx1)
 have HP : Hid (ps.length ≤ 10000) := Lib.hid (by omega)
 have HG : Hid (gs.length ≤ 10000) := Lib.hid (by omega)
 have HR := Lib.hid hr
 clear hmi hp hg hw1 hx1 hb1 hl1 hS0 h2 h3 hm hlm hr
 obtain ⟨P, hP⟩ : ∃ P, Md.hasP ps lm 1 = P := ⟨_, rfl⟩
 obtain ⟨G, hG⟩ : ∃ G, Md.hasG gs lm = G := ⟨_, rfl⟩
 obtain ⟨⟨s1, s2⟩, hS⟩ : ∃ q, Md.stat gs lg = q := ⟨_, rfl⟩
 obtain ⟨fr, hfr⟩ : ∃ fr, Md.free ps lp ls = fr := ⟨_, rfl⟩
 have hrb := HR.out
 rw [hP, hG, hS, hfr] at hrb
 simp only at hrb
 have HRB := Lib.hid hrb
 have HPP := Lib.hid hP
 have HGG := Lib.hid hG
 have HSS := Lib.hid hS
 have HFR := Lib.hid hfr
 clear hrb hP hG hS hfr HR
 have c0 := blk_cell ((Ext.refl w1).blk HB1.out) 0 _ rfl
 have c1 := blk_cell ((Ext.refl w1).blk HB1.out) 1 _ rfl
 have c2 := blk_cell ((Ext.refl w1).blk HB1.out) 2 _ rfl
 have m1 := blk_cell ((Ext.refl w1).blk HL1.out) 1 _ rfl
 have m2 := blk_cell ((Ext.refl w1).blk HL1.out) 2 _ rfl
 have m3 := blk_cell ((Ext.refl w1).blk HL1.out) 3 _ rfl
 have m4 := blk_cell ((Ext.refl w1).blk HL1.out) 4 _ rfl
 have m5 := blk_cell ((Ext.refl w1).blk HL1.out) 5 _ rfl
 unfold lgV
 go_enter Tryd.func53, Tryd.ntmps53
 go_upto_region 1 with fail
 rw [HW1.out, HS0.out]
 go_wp2_with fail
 refine (rhave_any _ ⟨time, ps, gs⟩ lm w1 ⟨A, c, B, d, rfl, H2.out.ext (Ext.refl w1), H3.out.ext (Ext.refl w1)⟩ HP.out HG.out HU.out P G HPP.out HGG.out).mono ?_
 rintro e w2 ⟨rfl, hx2⟩
 have X2 := Lib.hid hx2
 clear hx2
 clear c0 c1 c2 m1 m2 m3 m4 m5
 have c0 := blk_cell (X2.out.blk HB1.out) 0 _ rfl
 have c1 := blk_cell (X2.out.blk HB1.out) 1 _ rfl
 have c2 := blk_cell (X2.out.blk HB1.out) 2 _ rfl
 have m1 := blk_cell (X2.out.blk HL1.out) 1 _ rfl
 have m2 := blk_cell (X2.out.blk HL1.out) 2 _ rfl
 have m3 := blk_cell (X2.out.blk HL1.out) 3 _ rfl
 have m4 := blk_cell (X2.out.blk HL1.out) 4 _ rfl
 have m5 := blk_cell (X2.out.blk HL1.out) 5 _ rfl
 go_wp2_with fail
 refine (rstatus_any _ ⟨time, ps, gs⟩ lg w2 ⟨A, c, B, d, rfl, H2.out.ext X2.out, H3.out.ext X2.out⟩ HP.out HG.out s1 s2 HSS.out).mono ?_
 rintro e w3 ⟨rfl, hx3⟩
 have X3 := Lib.hid (X2.out.trans hx3)
 have HX3 := Lib.hid (HX1.out.trans X3.out)
 clear hx3
 clear c0 c1 c2 m1 m2 m3 m4 m5
 have c0 := blk_cell (X3.out.blk HB1.out) 0 _ rfl
 have c1 := blk_cell (X3.out.blk HB1.out) 1 _ rfl
 have c2 := blk_cell (X3.out.blk HB1.out) 2 _ rfl
 have m1 := blk_cell (X3.out.blk HL1.out) 1 _ rfl
 have m2 := blk_cell (X3.out.blk HL1.out) 2 _ rfl
 have m3 := blk_cell (X3.out.blk HL1.out) 3 _ rfl
 have m4 := blk_cell (X3.out.blk HL1.out) 4 _ rfl
 have m5 := blk_cell (X3.out.blk HL1.out) 5 _ rfl
 by_cases kd1 : kd = 1
 · subst kd1
   as_aux_lemma =>
    go_wp2_with fail
    refine (rfree_any _ ⟨time, ps, gs⟩ lp ls w3 ⟨A, c, B, d, rfl, H2.out.ext X3.out, H3.out.ext X3.out⟩ HP.out HG.out fr HFR.out).mono ?_
    rintro e w4 ⟨rfl, hx4⟩
    have XF := Lib.hid (HX1.out.trans (X3.out.trans hx4))
    have XG := Lib.hid (X3.out.trans hx4)
    clear hx4
    clear c0 c1 c2 m1 m2 m3 m4 m5
    have c0 := blk_cell (XG.out.blk HB1.out) 0 _ rfl
    have c1 := blk_cell (XG.out.blk HB1.out) 1 _ rfl
    have c2 := blk_cell (XG.out.blk HB1.out) 2 _ rfl
    have m1 := blk_cell (XG.out.blk HL1.out) 1 _ rfl
    have m2 := blk_cell (XG.out.blk HL1.out) 2 _ rfl
    have m3 := blk_cell (XG.out.blk HL1.out) 3 _ rfl
    have m4 := blk_cell (XG.out.blk HL1.out) 4 _ rfl
    have m5 := blk_cell (XG.out.blk HL1.out) 5 _ rfl
    cases fr with
    | false =>
     have HF : Hid (r = false) := Lib.hid (by rw [← HRB.out]; unfold Md.askB; simp [])
     obtain rfl := HF.out
     go_wp2
     go_ret
     exact ⟨rfl, XF.out⟩
    | true =>
     by_cases k1 : P = 0
     · have e1 : (P == 0) = true := by simpa using k1
       have f1 : (P != 0) = false := by simp [k1]
       have K1 := Lib.hid k1
       clear k1
       by_cases k2 : G = 0
       · have e2 : (G == 0) = true := by simpa using k2
         have f2 : (G != 0) = false := by simp [k2]
         have K2 := Lib.hid k2
         clear k2
         have HF : Hid (r = true) := Lib.hid (by rw [← HRB.out]; unfold Md.askB; simp [K1.out, K2.out])
         obtain rfl := HF.out
         go_wp2
         go_ret
         exact ⟨rfl, XF.out⟩
       · have e2 : (G == 0) = false := by simpa using k2
         have f2 : (G != 0) = true := by simpa using k2
         have K2 := Lib.hid k2
         clear k2
         have HF : Hid (r = false) := Lib.hid (by rw [← HRB.out]; unfold Md.askB; simp [K1.out, K2.out])
         obtain rfl := HF.out
         go_wp2
         go_ret
         exact ⟨rfl, XF.out⟩
     · have e1 : (P == 0) = false := by simpa using k1
       have f1 : (P != 0) = true := by simpa using k1
       have K1 := Lib.hid k1
       clear k1
       have HF : Hid (r = false) := Lib.hid (by rw [← HRB.out]; unfold Md.askB; simp [K1.out])
       obtain rfl := HF.out
       go_wp2
       go_ret
       exact ⟨rfl, XF.out⟩
 have nk1 : (kd == 1) = false := by simpa using kd1
 have HN1 := Lib.hid kd1
 clear kd1
 by_cases kd2 : kd = 2
 · subst kd2
   as_aux_lemma =>
    by_cases k1 : P = 0
    · have e1 : (P == 0) = true := by simpa using k1
      have f1 : (P != 0) = false := by simp [k1]
      have K1 := Lib.hid k1
      clear k1
      have HF : Hid (r = false) := Lib.hid (by rw [← HRB.out]; unfold Md.askB; simp [K1.out])
      obtain rfl := HF.out
      go_wp2
      go_ret
      exact ⟨rfl, HX3.out⟩
    · have e1 : (P == 0) = false := by simpa using k1
      have f1 : (P != 0) = true := by simpa using k1
      have K1 := Lib.hid k1
      clear k1
      by_cases k2 : lp = P
      · have e2 : (lp == P) = true := by simpa using k2
        have f2 : (lp != P) = false := by simp [k2]
        have K2 := Lib.hid k2
        clear k2
        by_cases k3 : G = 0
        · have e3 : (G == 0) = true := by simpa using k3
          have f3 : (G != 0) = false := by simp [k3]
          have K3 := Lib.hid k3
          clear k3
          have HF : Hid (r = true) := Lib.hid (by rw [← HRB.out]; unfold Md.askB; simp [K1.out, K2.out, K3.out])
          obtain rfl := HF.out
          go_wp2
          go_ret
          exact ⟨rfl, HX3.out⟩
        · have e3 : (G == 0) = false := by simpa using k3
          have f3 : (G != 0) = true := by simpa using k3
          have K3 := Lib.hid k3
          clear k3
          have HF : Hid (r = false) := Lib.hid (by rw [← HRB.out]; unfold Md.askB; simp [K1.out, K2.out, K3.out])
          obtain rfl := HF.out
          go_wp2
          go_ret
          exact ⟨rfl, HX3.out⟩
      · have e2 : (lp == P) = false := by simpa using k2
        have f2 : (lp != P) = true := by simpa using k2
        have K2 := Lib.hid k2
        clear k2
        have HF : Hid (r = false) := Lib.hid (by rw [← HRB.out]; unfold Md.askB; simp [K1.out, K2.out])
        obtain rfl := HF.out
        go_wp2
        go_ret
        exact ⟨rfl, HX3.out⟩
 have nk2 : (kd == 2) = false := by simpa using kd2
 have HN2 := Lib.hid kd2
 clear kd2
 by_cases kd3 : kd = 3
 · subst kd3
   as_aux_lemma =>
    by_cases k1 : P = 0
    · have e1 : (P == 0) = true := by simpa using k1
      have f1 : (P != 0) = false := by simp [k1]
      have K1 := Lib.hid k1
      clear k1
      have HF : Hid (r = false) := Lib.hid (by rw [← HRB.out]; unfold Md.askB; simp [K1.out])
      obtain rfl := HF.out
      go_wp2
      go_ret
      exact ⟨rfl, HX3.out⟩
    · have e1 : (P == 0) = false := by simpa using k1
      have f1 : (P != 0) = true := by simpa using k1
      have K1 := Lib.hid k1
      clear k1
      by_cases k2 : G = 0
      · have e2 : (G == 0) = true := by simpa using k2
        have f2 : (G != 0) = false := by simp [k2]
        have K2 := Lib.hid k2
        clear k2
        have HF : Hid (r = false) := Lib.hid (by rw [← HRB.out]; unfold Md.askB; simp [K1.out, K2.out])
        obtain rfl := HF.out
        go_wp2
        go_ret
        exact ⟨rfl, HX3.out⟩
      · have e2 : (G == 0) = false := by simpa using k2
        have f2 : (G != 0) = true := by simpa using k2
        have K2 := Lib.hid k2
        clear k2
        by_cases k3 : 0 < lg
        · have e3 : decide (0 < lg) = true := decide_eq_true k3
          have K3 := Lib.hid k3
          clear k3
          by_cases k4 : s1 = 0
          · have e4 : (s1 == 0) = true := by simpa using k4
            have f4 : (s1 != 0) = false := by simp [k4]
            have K4 := Lib.hid k4
            clear k4
            have HF : Hid (r = true) := Lib.hid (by rw [← HRB.out]; unfold Md.askB; simp [K1.out, K2.out, K3.out, K4.out])
            obtain rfl := HF.out
            go_wp2
            go_ret
            exact ⟨rfl, HX3.out⟩
          · have e4 : (s1 == 0) = false := by simpa using k4
            have f4 : (s1 != 0) = true := by simpa using k4
            have K4 := Lib.hid k4
            clear k4
            have HF : Hid (r = false) := Lib.hid (by rw [← HRB.out]; unfold Md.askB; simp [K1.out, K2.out, K3.out, K4.out])
            obtain rfl := HF.out
            go_wp2
            go_ret
            exact ⟨rfl, HX3.out⟩
        · have e3 : decide (0 < lg) = false := decide_eq_false k3
          have K3 := Lib.hid k3
          clear k3
          have HF : Hid (r = false) := Lib.hid (by rw [← HRB.out]; unfold Md.askB; simp [K1.out, K2.out, K3.out])
          obtain rfl := HF.out
          go_wp2
          go_ret
          exact ⟨rfl, HX3.out⟩
 have nk3 : (kd == 3) = false := by simpa using kd3
 have HN3 := Lib.hid kd3
 clear kd3
 by_cases kd4 : kd = 4
 · subst kd4
   as_aux_lemma =>
    by_cases k1 : P = 0
    · have e1 : (P == 0) = true := by simpa using k1
      have f1 : (P != 0) = false := by simp [k1]
      have K1 := Lib.hid k1
      clear k1
      have HF : Hid (r = false) := Lib.hid (by rw [← HRB.out]; unfold Md.askB; simp [K1.out])
      obtain rfl := HF.out
      go_wp2
      go_ret
      exact ⟨rfl, HX3.out⟩
    · have e1 : (P == 0) = false := by simpa using k1
      have f1 : (P != 0) = true := by simpa using k1
      have K1 := Lib.hid k1
      clear k1
      by_cases k2 : G = 0
      · have e2 : (G == 0) = true := by simpa using k2
        have f2 : (G != 0) = false := by simp [k2]
        have K2 := Lib.hid k2
        clear k2
        by_cases k3 : s1 = 1
        · have e3 : (s1 == 1) = true := by simpa using k3
          have f3 : (s1 != 1) = false := by simp [k3]
          have K3 := Lib.hid k3
          clear k3
          by_cases k4 : s2 = ls
          · have e4 : (s2 == ls) = true := by simpa using k4
            have f4 : (s2 != ls) = false := by simp [k4]
            have K4 := Lib.hid k4
            clear k4
            have HF : Hid (r = true) := Lib.hid (by rw [← HRB.out]; unfold Md.askB; simp [K1.out, K2.out, K3.out, K4.out])
            obtain rfl := HF.out
            go_wp2
            go_ret
            exact ⟨rfl, HX3.out⟩
          · have e4 : (s2 == ls) = false := by simpa using k4
            have f4 : (s2 != ls) = true := by simpa using k4
            have K4 := Lib.hid k4
            clear k4
            have HF : Hid (r = false) := Lib.hid (by rw [← HRB.out]; unfold Md.askB; simp [K1.out, K2.out, K3.out, K4.out])
            obtain rfl := HF.out
            go_wp2
            go_ret
            exact ⟨rfl, HX3.out⟩
        · have e3 : (s1 == 1) = false := by simpa using k3
          have f3 : (s1 != 1) = true := by simpa using k3
          have K3 := Lib.hid k3
          clear k3
          have HF : Hid (r = false) := Lib.hid (by rw [← HRB.out]; unfold Md.askB; simp [K1.out, K2.out, K3.out])
          obtain rfl := HF.out
          go_wp2
          go_ret
          exact ⟨rfl, HX3.out⟩
      · have e2 : (G == 0) = false := by simpa using k2
        have f2 : (G != 0) = true := by simpa using k2
        have K2 := Lib.hid k2
        clear k2
        have HF : Hid (r = false) := Lib.hid (by rw [← HRB.out]; unfold Md.askB; simp [K1.out, K2.out])
        obtain rfl := HF.out
        go_wp2
        go_ret
        exact ⟨rfl, HX3.out⟩
 have nk4 : (kd == 4) = false := by simpa using kd4
 have HN4 := Lib.hid kd4
 clear kd4
 by_cases kd5 : kd = 5
 · subst kd5
   as_aux_lemma =>
    by_cases k1 : P = 0
    · have e1 : (P == 0) = true := by simpa using k1
      have f1 : (P != 0) = false := by simp [k1]
      have K1 := Lib.hid k1
      clear k1
      have HF : Hid (r = false) := Lib.hid (by rw [← HRB.out]; unfold Md.askB; simp [K1.out])
      obtain rfl := HF.out
      go_wp2
      go_ret
      exact ⟨rfl, HX3.out⟩
    · have e1 : (P == 0) = false := by simpa using k1
      have f1 : (P != 0) = true := by simpa using k1
      have K1 := Lib.hid k1
      clear k1
      by_cases k2 : G = 0
      · have e2 : (G == 0) = true := by simpa using k2
        have f2 : (G != 0) = false := by simp [k2]
        have K2 := Lib.hid k2
        clear k2
        have HF : Hid (r = false) := Lib.hid (by rw [← HRB.out]; unfold Md.askB; simp [K1.out, K2.out])
        obtain rfl := HF.out
        go_wp2
        go_ret
        exact ⟨rfl, HX3.out⟩
      · have e2 : (G == 0) = false := by simpa using k2
        have f2 : (G != 0) = true := by simpa using k2
        have K2 := Lib.hid k2
        clear k2
        by_cases k3 : lg = G
        · have e3 : (lg == G) = true := by simpa using k3
          have f3 : (lg != G) = false := by simp [k3]
          have K3 := Lib.hid k3
          clear k3
          have HF : Hid (r = true) := Lib.hid (by rw [← HRB.out]; unfold Md.askB; simp [K1.out, K2.out, K3.out])
          obtain rfl := HF.out
          go_wp2
          go_ret
          exact ⟨rfl, HX3.out⟩
        · have e3 : (lg == G) = false := by simpa using k3
          have f3 : (lg != G) = true := by simpa using k3
          have K3 := Lib.hid k3
          clear k3
          have HF : Hid (r = false) := Lib.hid (by rw [← HRB.out]; unfold Md.askB; simp [K1.out, K2.out, K3.out])
          obtain rfl := HF.out
          go_wp2
          go_ret
          exact ⟨rfl, HX3.out⟩
 have nk5 : (kd == 5) = false := by simpa using kd5
 have HN5 := Lib.hid kd5
 clear kd5
 by_cases kd6 : kd = 6
 · subst kd6
   as_aux_lemma =>
    by_cases k1 : P = 0
    · have e1 : (P == 0) = true := by simpa using k1
      have f1 : (P != 0) = false := by simp [k1]
      have K1 := Lib.hid k1
      clear k1
      have HF : Hid (r = false) := Lib.hid (by rw [← HRB.out]; unfold Md.askB; simp [K1.out])
      obtain rfl := HF.out
      go_wp2
      go_ret
      exact ⟨rfl, HX3.out⟩
    · have e1 : (P == 0) = false := by simpa using k1
      have f1 : (P != 0) = true := by simpa using k1
      have K1 := Lib.hid k1
      clear k1
      by_cases k2 : G = 0
      · have e2 : (G == 0) = true := by simpa using k2
        have f2 : (G != 0) = false := by simp [k2]
        have K2 := Lib.hid k2
        clear k2
        have HF : Hid (r = false) := Lib.hid (by rw [← HRB.out]; unfold Md.askB; simp [K1.out, K2.out])
        obtain rfl := HF.out
        go_wp2
        go_ret
        exact ⟨rfl, HX3.out⟩
      · have e2 : (G == 0) = false := by simpa using k2
        have f2 : (G != 0) = true := by simpa using k2
        have K2 := Lib.hid k2
        clear k2
        by_cases k3 : lg = G
        · have e3 : (lg == G) = true := by simpa using k3
          have f3 : (lg != G) = false := by simp [k3]
          have K3 := Lib.hid k3
          clear k3
          have HF : Hid (r = true) := Lib.hid (by rw [← HRB.out]; unfold Md.askB; simp [K1.out, K2.out, K3.out])
          obtain rfl := HF.out
          go_wp2
          go_ret
          exact ⟨rfl, HX3.out⟩
        · have e3 : (lg == G) = false := by simpa using k3
          have f3 : (lg != G) = true := by simpa using k3
          have K3 := Lib.hid k3
          clear k3
          have HF : Hid (r = false) := Lib.hid (by rw [← HRB.out]; unfold Md.askB; simp [K1.out, K2.out, K3.out])
          obtain rfl := HF.out
          go_wp2
          go_ret
          exact ⟨rfl, HX3.out⟩
 have nk6 : (kd == 6) = false := by simpa using kd6
 have HN6 := Lib.hid kd6
 clear kd6
 by_cases kd7 : kd = 7
 · subst kd7
   as_aux_lemma =>
    by_cases k1 : P = 0
    · have e1 : (P == 0) = true := by simpa using k1
      have f1 : (P != 0) = false := by simp [k1]
      have K1 := Lib.hid k1
      clear k1
      have HF : Hid (r = false) := Lib.hid (by rw [← HRB.out]; unfold Md.askB; simp [K1.out])
      obtain rfl := HF.out
      go_wp2
      go_ret
      exact ⟨rfl, HX3.out⟩
    · have e1 : (P == 0) = false := by simpa using k1
      have f1 : (P != 0) = true := by simpa using k1
      have K1 := Lib.hid k1
      clear k1
      by_cases k2 : s1 = 3
      · have e2 : (s1 == 3) = true := by simpa using k2
        have f2 : (s1 != 3) = false := by simp [k2]
        have K2 := Lib.hid k2
        clear k2
        by_cases k3 : s2 = ls
        · have e3 : (s2 == ls) = true := by simpa using k3
          have f3 : (s2 != ls) = false := by simp [k3]
          have K3 := Lib.hid k3
          clear k3
          have HF : Hid (r = true) := Lib.hid (by rw [← HRB.out]; unfold Md.askB; simp [K1.out, K2.out, K3.out])
          obtain rfl := HF.out
          go_wp2
          go_ret
          exact ⟨rfl, HX3.out⟩
        · have e3 : (s2 == ls) = false := by simpa using k3
          have f3 : (s2 != ls) = true := by simpa using k3
          have K3 := Lib.hid k3
          clear k3
          have HF : Hid (r = false) := Lib.hid (by rw [← HRB.out]; unfold Md.askB; simp [K1.out, K2.out, K3.out])
          obtain rfl := HF.out
          go_wp2
          go_ret
          exact ⟨rfl, HX3.out⟩
      · have e2 : (s1 == 3) = false := by simpa using k2
        have f2 : (s1 != 3) = true := by simpa using k2
        have K2 := Lib.hid k2
        clear k2
        have HF : Hid (r = false) := Lib.hid (by rw [← HRB.out]; unfold Md.askB; simp [K1.out, K2.out])
        obtain rfl := HF.out
        go_wp2
        go_ret
        exact ⟨rfl, HX3.out⟩
 have nk7 : (kd == 7) = false := by simpa using kd7
 have HN7 := Lib.hid kd7
 clear kd7
 by_cases kd8 : kd = 8
 · subst kd8
   as_aux_lemma =>
    by_cases k1 : P = 0
    · have e1 : (P == 0) = true := by simpa using k1
      have f1 : (P != 0) = false := by simp [k1]
      have K1 := Lib.hid k1
      clear k1
      have HF : Hid (r = false) := Lib.hid (by rw [← HRB.out]; unfold Md.askB; simp [K1.out])
      obtain rfl := HF.out
      go_wp2
      go_ret
      exact ⟨rfl, HX3.out⟩
    · have e1 : (P == 0) = false := by simpa using k1
      have f1 : (P != 0) = true := by simpa using k1
      have K1 := Lib.hid k1
      clear k1
      by_cases k2 : G = 0
      · have e2 : (G == 0) = true := by simpa using k2
        have f2 : (G != 0) = false := by simp [k2]
        have K2 := Lib.hid k2
        clear k2
        have HF : Hid (r = false) := Lib.hid (by rw [← HRB.out]; unfold Md.askB; simp [K1.out, K2.out])
        obtain rfl := HF.out
        go_wp2
        go_ret
        exact ⟨rfl, HX3.out⟩
      · have e2 : (G == 0) = false := by simpa using k2
        have f2 : (G != 0) = true := by simpa using k2
        have K2 := Lib.hid k2
        clear k2
        by_cases k3 : lg = G
        · have e3 : (lg == G) = true := by simpa using k3
          have f3 : (lg != G) = false := by simp [k3]
          have K3 := Lib.hid k3
          clear k3
          have HF : Hid (r = true) := Lib.hid (by rw [← HRB.out]; unfold Md.askB; simp [K1.out, K2.out, K3.out])
          obtain rfl := HF.out
          go_wp2
          go_ret
          exact ⟨rfl, HX3.out⟩
        · have e3 : (lg == G) = false := by simpa using k3
          have f3 : (lg != G) = true := by simpa using k3
          have K3 := Lib.hid k3
          clear k3
          have HF : Hid (r = false) := Lib.hid (by rw [← HRB.out]; unfold Md.askB; simp [K1.out, K2.out, K3.out])
          obtain rfl := HF.out
          go_wp2
          go_ret
          exact ⟨rfl, HX3.out⟩
 have nk8 : (kd == 8) = false := by simpa using kd8
 have HN8 := Lib.hid kd8
 clear kd8
 by_cases kd9 : kd = 9
 · subst kd9
   as_aux_lemma =>
    by_cases k1 : P = 0
    · have e1 : (P == 0) = true := by simpa using k1
      have f1 : (P != 0) = false := by simp [k1]
      have K1 := Lib.hid k1
      clear k1
      have HF : Hid (r = false) := Lib.hid (by rw [← HRB.out]; unfold Md.askB; simp [K1.out])
      obtain rfl := HF.out
      go_wp2
      go_ret
      exact ⟨rfl, HX3.out⟩
    · have e1 : (P == 0) = false := by simpa using k1
      have f1 : (P != 0) = true := by simpa using k1
      have K1 := Lib.hid k1
      clear k1
      by_cases k2 : G = 0
      · have e2 : (G == 0) = true := by simpa using k2
        have f2 : (G != 0) = false := by simp [k2]
        have K2 := Lib.hid k2
        clear k2
        have HF : Hid (r = false) := Lib.hid (by rw [← HRB.out]; unfold Md.askB; simp [K1.out, K2.out])
        obtain rfl := HF.out
        go_wp2
        go_ret
        exact ⟨rfl, HX3.out⟩
      · have e2 : (G == 0) = false := by simpa using k2
        have f2 : (G != 0) = true := by simpa using k2
        have K2 := Lib.hid k2
        clear k2
        by_cases k3 : lg = G
        · have e3 : (lg == G) = true := by simpa using k3
          have f3 : (lg != G) = false := by simp [k3]
          have K3 := Lib.hid k3
          clear k3
          by_cases k4 : lp = P
          · have e4 : (lp == P) = true := by simpa using k4
            have f4 : (lp != P) = false := by simp [k4]
            have K4 := Lib.hid k4
            clear k4
            have HF : Hid (r = true) := Lib.hid (by rw [← HRB.out]; unfold Md.askB; simp [K1.out, K2.out, K3.out, K4.out])
            obtain rfl := HF.out
            go_wp2
            go_ret
            exact ⟨rfl, HX3.out⟩
          · have e4 : (lp == P) = false := by simpa using k4
            have f4 : (lp != P) = true := by simpa using k4
            have K4 := Lib.hid k4
            clear k4
            have HF : Hid (r = false) := Lib.hid (by rw [← HRB.out]; unfold Md.askB; simp [K1.out, K2.out, K3.out, K4.out])
            obtain rfl := HF.out
            go_wp2
            go_ret
            exact ⟨rfl, HX3.out⟩
        · have e3 : (lg == G) = false := by simpa using k3
          have f3 : (lg != G) = true := by simpa using k3
          have K3 := Lib.hid k3
          clear k3
          have HF : Hid (r = false) := Lib.hid (by rw [← HRB.out]; unfold Md.askB; simp [K1.out, K2.out, K3.out])
          obtain rfl := HF.out
          go_wp2
          go_ret
          exact ⟨rfl, HX3.out⟩
 have nk9 : (kd == 9) = false := by simpa using kd9
 have HN9 := Lib.hid kd9
 clear kd9
 by_cases kd10 : kd = 10
 · subst kd10
   as_aux_lemma =>
    by_cases k1 : P = 0
    · have e1 : (P == 0) = true := by simpa using k1
      have f1 : (P != 0) = false := by simp [k1]
      have K1 := Lib.hid k1
      clear k1
      by_cases k2 : G = 0
      · have e2 : (G == 0) = true := by simpa using k2
        have f2 : (G != 0) = false := by simp [k2]
        have K2 := Lib.hid k2
        clear k2
        have HF : Hid (r = false) := Lib.hid (by rw [← HRB.out]; unfold Md.askB; simp [K1.out, K2.out])
        obtain rfl := HF.out
        go_wp2
        go_ret
        exact ⟨rfl, HX3.out⟩
      · have e2 : (G == 0) = false := by simpa using k2
        have f2 : (G != 0) = true := by simpa using k2
        have K2 := Lib.hid k2
        clear k2
        by_cases k3 : lg = G
        · have e3 : (lg == G) = true := by simpa using k3
          have f3 : (lg != G) = false := by simp [k3]
          have K3 := Lib.hid k3
          clear k3
          by_cases k4 : lp = 0
          · have e4 : (lp == 0) = true := by simpa using k4
            have f4 : (lp != 0) = false := by simp [k4]
            have K4 := Lib.hid k4
            clear k4
            by_cases k5 : ls = 0
            · have e5 : (ls == 0) = true := by simpa using k5
              have f5 : (ls != 0) = false := by simp [k5]
              have K5 := Lib.hid k5
              clear k5
              have HF : Hid (r = true) := Lib.hid (by rw [← HRB.out]; unfold Md.askB; simp [K1.out, K2.out, K3.out, K4.out, K5.out])
              obtain rfl := HF.out
              go_wp2
              go_ret
              exact ⟨rfl, HX3.out⟩
            · have e5 : (ls == 0) = false := by simpa using k5
              have f5 : (ls != 0) = true := by simpa using k5
              have K5 := Lib.hid k5
              clear k5
              go_wp2_with fail
              refine (rfree_any _ ⟨time, ps, gs⟩ lp ls w3 ⟨A, c, B, d, rfl, H2.out.ext X3.out, H3.out.ext X3.out⟩ HP.out HG.out fr HFR.out).mono ?_
              rintro e w4 ⟨rfl, hx4⟩
              have XF := Lib.hid (HX1.out.trans (X3.out.trans hx4))
              have XG := Lib.hid (X3.out.trans hx4)
              clear hx4
              clear c0 c1 c2 m1 m2 m3 m4 m5
              have c0 := blk_cell (XG.out.blk HB1.out) 0 _ rfl
              have c1 := blk_cell (XG.out.blk HB1.out) 1 _ rfl
              have c2 := blk_cell (XG.out.blk HB1.out) 2 _ rfl
              have m1 := blk_cell (XG.out.blk HL1.out) 1 _ rfl
              have m2 := blk_cell (XG.out.blk HL1.out) 2 _ rfl
              have m3 := blk_cell (XG.out.blk HL1.out) 3 _ rfl
              have m4 := blk_cell (XG.out.blk HL1.out) 4 _ rfl
              have m5 := blk_cell (XG.out.blk HL1.out) 5 _ rfl
              cases fr with
              | false =>
               have HF : Hid (r = false) := Lib.hid (by rw [← HRB.out]; unfold Md.askB; simp [K1.out, K2.out, K3.out, K4.out, K5.out])
               obtain rfl := HF.out
               go_wp2
               go_ret
               exact ⟨rfl, XF.out⟩
              | true =>
               have HF : Hid (r = true) := Lib.hid (by rw [← HRB.out]; unfold Md.askB; simp [K1.out, K2.out, K3.out, K4.out, K5.out])
               obtain rfl := HF.out
               go_wp2
               go_ret
               exact ⟨rfl, XF.out⟩
          · have e4 : (lp == 0) = false := by simpa using k4
            have f4 : (lp != 0) = true := by simpa using k4
            have K4 := Lib.hid k4
            clear k4
            go_wp2_with fail
            refine (rfree_any _ ⟨time, ps, gs⟩ lp ls w3 ⟨A, c, B, d, rfl, H2.out.ext X3.out, H3.out.ext X3.out⟩ HP.out HG.out fr HFR.out).mono ?_
            rintro e w4 ⟨rfl, hx4⟩
            have XF := Lib.hid (HX1.out.trans (X3.out.trans hx4))
            have XG := Lib.hid (X3.out.trans hx4)
            clear hx4
            clear c0 c1 c2 m1 m2 m3 m4 m5
            have c0 := blk_cell (XG.out.blk HB1.out) 0 _ rfl
            have c1 := blk_cell (XG.out.blk HB1.out) 1 _ rfl
            have c2 := blk_cell (XG.out.blk HB1.out) 2 _ rfl
            have m1 := blk_cell (XG.out.blk HL1.out) 1 _ rfl
            have m2 := blk_cell (XG.out.blk HL1.out) 2 _ rfl
            have m3 := blk_cell (XG.out.blk HL1.out) 3 _ rfl
            have m4 := blk_cell (XG.out.blk HL1.out) 4 _ rfl
            have m5 := blk_cell (XG.out.blk HL1.out) 5 _ rfl
            cases fr with
            | false =>
             have HF : Hid (r = false) := Lib.hid (by rw [← HRB.out]; unfold Md.askB; simp [K1.out, K2.out, K3.out, K4.out])
             obtain rfl := HF.out
             go_wp2
             go_ret
             exact ⟨rfl, XF.out⟩
            | true =>
             have HF : Hid (r = true) := Lib.hid (by rw [← HRB.out]; unfold Md.askB; simp [K1.out, K2.out, K3.out, K4.out])
             obtain rfl := HF.out
             go_wp2
             go_ret
             exact ⟨rfl, XF.out⟩
        · have e3 : (lg == G) = false := by simpa using k3
          have f3 : (lg != G) = true := by simpa using k3
          have K3 := Lib.hid k3
          clear k3
          have HF : Hid (r = false) := Lib.hid (by rw [← HRB.out]; unfold Md.askB; simp [K1.out, K2.out, K3.out])
          obtain rfl := HF.out
          go_wp2
          go_ret
          exact ⟨rfl, HX3.out⟩
    · have e1 : (P == 0) = false := by simpa using k1
      have f1 : (P != 0) = true := by simpa using k1
      have K1 := Lib.hid k1
      clear k1
      have HF : Hid (r = false) := Lib.hid (by rw [← HRB.out]; unfold Md.askB; simp [K1.out])
      obtain rfl := HF.out
      go_wp2
      go_ret
      exact ⟨rfl, HX3.out⟩
 have nk10 : (kd == 10) = false := by simpa using kd10
 have HN10 := Lib.hid kd10
 clear kd10
 have HF : Hid (r = false) := Lib.hid (by rw [← HRB.out]; unfold Md.askB; simp [HN1.out, HN2.out, HN3.out, HN4.out, HN5.out, HN6.out, HN7.out, HN8.out, HN9.out, HN10.out])
 obtain rfl := HF.out
 go_wp2
 go_ret
 exact ⟨rfl, HX3.out⟩
section
variable {P : Program} {ops : Array Oper} {Q : Exit → Act → World → Prop} {md : Region.Mode} {z : Nat} {C : World → Prop}
def EntersM' (P : Program) (R : Ending → World → Prop) : Result Next → Prop
 | .ok (.enter f args) w' => Calls P f args w' R
 | _ => False
structure EntersM (P : Program) (R : Ending → World → Prop) (r : Result Next) : Prop where
 out : EntersM' P R r
theorem entersM_call {R : Ending → World → Prop} {fid : FuncId} {args : Array Value} {w : World} (h : Calls P fid args w R) : EntersM P R (.ok (.enter fid args) w) := ⟨h⟩
theorem region_gq (z : Nat) (C S : World → Prop) {id : Nat} {a : Act} {w : World} (hm : P.follows .mixedOrders = true) (hS : S w.drew) (hQ : ∀ c a d v w, Q (.panic c) (a.put d v) w → Q (.panic c) a w)
    (h : ∀ Q', Hid (Q' = Q) → (∀ c a d v w, Q' (.panic c) (a.put d v) w → Q' (.panic c) a w) → wpG P .any ops Q' z C ops.size S (Array.replicate ops.size false) a) : (Code.region id ops true).wp P Q a w :=
 region_g z C S hm hS (h Q (Lib.hid rfl) hQ)
theorem g_last {S : World → Prop} {k f : Nat} {o : Oper} {listed : Array Bool} {a : Act} (hr : Region.ready md ops listed = [k]) (hr2 : Region.ready md ops (listed.setIfInBounds k true) = []) (hz : (listed.setIfInBounds k true).getD z false = true)
    (hk : ops[k]? = some o) (hw : Region.wanted o (yielded ops a.tmps) = true)
    (hc : ∀ w, S w → ∀ R : Ending → World → Prop, (∀ v w', Q .normal (a.put o.dst v) w' → R (.returned v) w') → (∀ c w', Q (.panic c) a w' → R (.panicked c) w') → EntersM P R ((execOp a.eval o).run P w)) : wpG P md ops Q z C (f + 1) S listed a :=
 g_turn (fun v w' => Q .normal (a.put o.dst v) w') hr (fun v w _ h0 => by rw [hz] at h0; cases h0) fun w hS => by
  unfold wpOp
  simp only [hk, hw, if_true]
  left
  have h := (hc w hS (fun e w' => match e with | .returned v => Q .normal (a.put o.dst v) w' | .panicked c => Q (.panic c) a w' | .outgrown => False) (fun v w' h => h) (fun c w' h => h)).out
  unfold Oper.wp
  generalize (execOp a.eval o).run P w = r at *
  cases r with
  | halt x w' => exact h.elim
  | ok n w' =>
   cases n with
   | enter f args =>
    refine Calls.mono h fun e w'' he => ?_
    cases e with
    | returned v => exact ⟨v, he, g_done hr2 (fun _ h => h) _⟩
    | panicked c => exact he
    | outgrown => exact he.elim
   | _ => exact h.elim
end
section
variable {P : Program} {ops : Array Oper} {Q : Exit → Act → World → Prop} {md : Region.Mode} {z : Nat} {C : World → Prop}
theorem g_mid (T : Value → World → Prop) {S : World → Prop} {k f : Nat} {o : Oper} {listed : Array Bool} {a : Act} (hr : Region.ready md ops listed = [k]) (hT : ∀ v w, T v w → (listed.setIfInBounds k true).getD z false = false → C w)
    (hk : ops[k]? = some o) (hw : Region.wanted o (yielded ops a.tmps) = true) (hc : ∀ w, S w → ∀ R : Value → World → Prop, (∀ v w', T v w' → R v w') → GivesM P R ((execOp a.eval o).run P w))
    (h : ∀ v, (∃ w, T v w) → wpG P md ops Q z C f (T v) (listed.setIfInBounds k true) (a.put o.dst v)) : wpG P md ops Q z C (f + 1) S listed a :=
 g_turn T hr hT fun w hS => by
  unfold wpOp
  simp only [hk, hw, if_true]
  left
  have h2 := (hc w hS T fun _ _ h => h).out
  unfold Oper.wp
  generalize (execOp a.eval o).run P w = r at *
  cases r with
  | halt x w' => exact h2.elim
  | ok n w' =>
   cases n with
   | value u => exact ⟨u, h2, h u ⟨_, h2⟩⟩
   | skip => exact ⟨undef, h2, h undef ⟨_, h2⟩⟩
   | enter f args =>
    refine Calls.mono h2 fun e w'' he => ?_
    obtain ⟨v, rfl, h3⟩ := he
    exact ⟨v, h3, h v ⟨_, h3⟩⟩
   | _ => exact h2.elim
theorem g_end {S : World → Prop} {k f : Nat} {o : Oper} {listed : Array Bool} {a : Act} (hr : Region.ready md ops listed = [k]) (hr2 : Region.ready md ops (listed.setIfInBounds k true) = []) (hz : (listed.setIfInBounds k true).getD z false = true)
    (hk : ops[k]? = some o) (hw : Region.wanted o (yielded ops a.tmps) = true) (hc : ∀ w, S w → ∀ R : Value → World → Prop, (∀ v w', Q .normal (a.put o.dst v) w' → R v w') → GivesM P R ((execOp a.eval o).run P w)) : wpG P md ops Q z C (f + 1) S listed a :=
 g_mid (fun v w' => Q .normal (a.put o.dst v) w') hr (fun v w _ h0 => by rw [hz] at h0; cases h0) hk hw hc fun v _ => g_done hr2 (fun _ h => h) _
end
theorem rows_off {α : Type} {m : Nat} {f : α → List Value} {w w' : World} {v : Value} {xs : List α} {R : Nat} {t : Int} {s1 s2 : Value} {T : TypeId} {fr : Nat × Nat} (h : RowsAt m f w v xs) (hf : ∀ x, ∃ (a b : Int) (r : List Value), f x = .int .i64 a :: .int .i64 b :: r)
    (hb : w.heap[R]? = some (.cells #[.int .i64 t, s1, s2] T fr)) (h1 : ∀ a, s1 ≠ .int .i64 a) (h2 : ∀ a, s2 ≠ .int .i64 a) (hu : Upd R w w') : RowsAt m f w' v xs := by
 obtain ⟨A, c, hv, hc, hA⟩ := h
 refine ⟨A, c, hv, hc, fun h0 => ?_⟩
 obtain ⟨b, o, hAe, hlt, hcell⟩ := hA h0
 have hne : b ≠ R := fun e => by
  subst e
  obtain ⟨x, hx⟩ : ∃ x, xs[0]? = some x := ⟨_, List.getElem?_eq_getElem h0⟩
  obtain ⟨p, q, r, hfx⟩ := hf x
  have k0 := hcell 0 x hx 0 (.int .i64 p) (by rw [hfx]; rfl)
  have k1 := hcell 0 x hx 1 (.int .i64 q) (by rw [hfx]; rfl)
  rw [show o + 0 * m + 0 = o by omega] at k0
  rw [show o + 0 * m + 1 = o + 1 by omega] at k1
  have c1 := blk_cell hb 1 s1 rfl
  have c2 := blk_cell hb 2 s2 rfl
  rcases Nat.lt_or_ge o 3 with ho | ho
  · have : o = 0 ∨ o = 1 ∨ o = 2 := by omega
    rcases this with rfl | rfl | rfl
    · rw [c1] at k1; exact h1 q (Option.some.inj k1)
    · rw [c1] at k0; exact h1 p (Option.some.inj k0)
    · rw [c2] at k0; exact h2 p (Option.some.inj k0)
  · rw [cell_of_row w b o _ _ _ hb, Array.getElem?_eq_none (by simpa using ho)] at k0
    cases k0
 refine ⟨b, o, hAe, Nat.lt_of_lt_of_le hlt hu.size, fun j x hx i u hui => ?_⟩
 rw [World.cell?_of_block (hu.block b hlt (fun e => by injection e with e; exact hne e))]
 exact hcell j x hx i u hui
theorem snP_two (x : Int × Int) : ∃ (a b : Int) (r : List Value), snPCells x = .int .i64 a :: .int .i64 b :: r := ⟨_, _, _, rfl⟩
theorem snG_two (x : Gs4) : ∃ (a b : Int) (r : List Value), snGCells x = .int .i64 a :: .int .i64 b :: r := ⟨_, _, _, rfl⟩
theorem sn_lay {w w2 : World} {R : Nat} {t0 time : Int} {A B A0 B0 : Option Addr} {c d n0 c0 n1 c1 : Nat} {y : Sn} (hx : Ext w w2) (hR : w.heap.size ≤ R) (hb : w2.heap[R]? = some (.cells #[.int .i64 t0, .slice A0 n0 c0, .slice B0 n1 c1] 25 (0, 0))) (hs : SnAt w2 (.agg #[.int .i64 time, .slice A y.ps.length c, .slice B y.gs.length d]) y) :
    w2.there R 0 [Value.int .i64 time, .slice A y.ps.length c, .slice B y.gs.length d].length ∧ ∃ w6, w2.setCells R 0 [.int .i64 time, .slice A y.ps.length c, .slice B y.gs.length d] = w6 ∧ w6.heap[R]? = some (.cells #[.int .i64 time, .slice A y.ps.length c, .slice B y.gs.length d] 25 (0, 0)) ∧ SnRet w y (.returned (.agg #[.int .i64 time, .slice A y.ps.length c, .slice B y.gs.length d])) w6 := by
 have hu := setCells_upd R [Value.int .i64 time, .slice A y.ps.length c, .slice B y.gs.length d] w2 0
 refine ⟨there_row hb (by simp), _, rfl, setCells_at [.int .i64 t0, .slice A0 n0 c0, .slice B0 n1 c1] _ rfl hb, _, rfl, ?_, Ext.upd hx hu hR⟩
 obtain ⟨A', c', B', d', hv, h2, h3⟩ := hs
 simp only [Value.agg.injEq] at hv
 have e2 : Value.slice A y.ps.length c = .slice A' y.ps.length c' := by have := congrArg (fun a : Array Value => a[1]?) hv; simpa using this
 have e3 : Value.slice B y.gs.length d = .slice B' y.gs.length d' := by have := congrArg (fun a : Array Value => a[2]?) hv; simpa using this
 have e1 : Value.int .i64 time = .int .i64 y.time := by have := congrArg (fun a : Array Value => a[0]?) hv; simpa using this
 rw [e1, e2, e3] at hu ⊢
 exact ⟨A', c', B', d', rfl, rows_off h2 snP_two hb (by simp) (by simp) hu, rows_off h3 snG_two hb (by simp) (by simp) hu⟩
namespace Md
theorem hasP_range {m : Int} : ∀ {l : List (Int × Int)} {i : Int}, 0 < i → hasP l m i ≠ 0 → ∃ k : Nat, k < l.length ∧ hasP l m i = i + (k : Int)
 | [], _, _, h => absurd rfl h
 | p :: l, i, hi, h => by
  unfold hasP at h ⊢
  by_cases hp : p.1 = m
  · rw [if_pos hp]; exact ⟨0, by simp, by simp⟩
  · rw [if_neg hp] at h ⊢
    obtain ⟨k, hk, e⟩ := hasP_range (by omega) h
    exact ⟨k + 1, by simpa using hk, by rw [e]; omega⟩
theorem hasG_mem {m : Int} : ∀ {l : List Gs4}, hasG l m ≠ 0 → ∃ y ∈ l, y.1 = hasG l m ∧ y.2.2.1 = m
 | [], h => absurd rfl h
 | y :: l, h => by
  unfold hasG at h ⊢
  by_cases hy : y.2.2.1 = m
  · rw [if_pos hy]; exact ⟨y, by simp, rfl, hy⟩
  · rw [if_neg hy] at h ⊢
    obtain ⟨z, hz, e⟩ := hasG_mem h
    exact ⟨z, List.mem_cons_of_mem _ hz, e⟩
theorem fnd_mem {l : List Gs4} {y : Gs4} {g : Int} (h : y ∈ l) (hy : y.1 = g) : ∃ k, fnd l g = some k := by
 cases hf : fnd l g with
 | some k => exact ⟨k, rfl⟩
 | none => exact absurd hy (fnd_none.1 hf y h)
theorem stat_some {l : List Gs4} {g : Int} (h : (stat l g).1 ≠ 0) : ∃ k, fnd l g = some k := by
 cases hf : fnd l g with
 | some k => exact ⟨k, rfl⟩
 | none => unfold stat at h; rw [hf] at h; exact absurd rfl h
theorem free_range {l : List (Int × Int)} {p s : Int} (h : free l p s = true) : ∃ k : Nat, p = (k : Int) + 1 ∧ k < l.length := by
 unfold free at h
 simp only [Bool.and_eq_true, decide_eq_true_eq] at h
 exact ⟨(p - 1).toNat, by omega, by omega⟩
theorem setP_at {l : List (Int × Int)} {k : Nat} {m a b : Int} (h : l[k]? = some (a, b)) : setP l ((k : Int) + 1) m = l.set k (m, b + 1) := by
 unfold setP
 rw [show ((k : Int) + 1 - 1).toNat = k by omega, List.getD, h]
 rfl
theorem setG_at {l : List Gs4} {g st m : Int} {k : Nat} {y : Gs4} (hf : fnd l g = some k) (hy : l[k]? = some y) : setG l g st m = l.set k (g, st, m, y.2.2.2 + 1) := by
 unfold setG
 rw [hf]
 simp only [List.getD, hy, Option.getD_some]
structure Finds (x : Sn) (l : Lg) : Prop where
 p1 : l.kind = 1 ∨ l.kind = 2 ∨ l.kind = 9 ∨ (l.kind = 10 ∧ l.p ≠ 0) → ∃ k : Nat, l.p = (k : Int) + 1 ∧ k < x.ps.length
 g1 : l.kind = 4 ∨ l.kind = 5 ∨ l.kind = 6 ∨ l.kind = 7 ∨ l.kind = 8 ∨ l.kind = 9 ∨ l.kind = 10 → ∃ k, fnd x.gs l.g = some k
 n3 : l.kind = 3 → fnd x.gs l.g = none
 kinds : 1 ≤ l.kind ∧ l.kind ≤ 10
theorem finds {x : Sn} (h : x.may = true) {l : Lg} (ha : ask x l = true) : Finds x l := by
 have ha2 := ha
 unfold ask at ha
 have hP : ∀ p : Int, p = hasP x.ps l.m 1 → hasP x.ps l.m 1 ≠ 0 → ∃ k : Nat, p = (k : Int) + 1 ∧ k < x.ps.length := fun p hp h0 => by
  obtain ⟨k, h1, h2⟩ := hasP_range (by omega) h0
  exact ⟨k, by rw [hp, h2]; omega, h1⟩
 have hG : ∀ g : Int, g = hasG x.gs l.m → hasG x.gs l.m ≠ 0 → ∃ k, fnd x.gs g = some k := fun g hg h0 => by
  obtain ⟨y, h1, h2, _⟩ := hasG_mem h0
  exact fnd_mem h1 (by rw [h2, hg])
 by_cases k1 : l.kind = 1
 · simp only [k1, if_true, Bool.and_eq_true, decide_eq_true_eq] at ha
   exact ⟨fun _ => free_range ha.1.1, fun h => by omega, fun h => by omega, by omega⟩
 by_cases k2 : l.kind = 2
 · simp only [k2, Int.reduceEq, if_false, if_true, Bool.and_eq_true, decide_eq_true_eq] at ha
   exact ⟨fun _ => hP _ ha.1.2 ha.1.1, fun h => by omega, fun h => by omega, by omega⟩
 by_cases k3 : l.kind = 3
 · simp only [k3, Int.reduceEq, if_false, if_true, Bool.and_eq_true, decide_eq_true_eq] at ha
   exact ⟨fun h => by omega, fun h => by omega, fun _ => ha.2, by omega⟩
 by_cases k4 : l.kind = 4
 · simp only [k4, Int.reduceEq, if_false, if_true, Bool.and_eq_true, decide_eq_true_eq] at ha
   exact ⟨fun h => by omega, fun _ => stat_some (by rw [ha.2]; simp), fun h => by omega, by omega⟩
 by_cases k5 : l.kind = 5 ∨ l.kind = 6 ∨ l.kind = 8
 · rw [if_neg k1, if_neg k2, if_neg k3, if_neg k4, if_pos k5] at ha
   simp only [Bool.and_eq_true, decide_eq_true_eq] at ha
   exact ⟨fun h => by omega, fun _ => hG _ ha.2 ha.1.2, fun h => by omega, by omega⟩
 by_cases k7 : l.kind = 7
 · simp only [k7, Int.reduceEq, if_false, if_true, or_self, Bool.and_eq_true, decide_eq_true_eq] at ha
   exact ⟨fun h => by omega, fun _ => stat_some (by rw [ha.2]; simp), fun h => by omega, by omega⟩
 by_cases k9 : l.kind = 9
 · simp only [k9, Int.reduceEq, if_false, if_true, or_self, Bool.and_eq_true, decide_eq_true_eq] at ha
   exact ⟨fun _ => hP _ ha.2 ha.1.1.1, fun _ => hG _ ha.1.2 ha.1.1.2, fun h => by omega, by omega⟩
 by_cases k10 : l.kind = 10
 · simp only [k10, Int.reduceEq, if_false, if_true, or_self, Bool.and_eq_true, Bool.or_eq_true, decide_eq_true_eq] at ha
   refine ⟨fun h => ?_, fun _ => hG _ ha.1.2 ha.1.1.2, fun h => by omega, by omega⟩
   rcases ha.2 with h2 | h2
   · rcases h with h | h | h | h
     · omega
     · omega
     · omega
     · exact absurd h2.1 h.2
   · exact free_range h2
 · rw [if_neg k1, if_neg k2, if_neg k3, if_neg k4, if_neg k5, if_neg k7, if_neg k9, if_neg k10] at ha
   cases ha
end Md
namespace Md
def cmpI (a b : Int) : Int := if a < b then -1 else if b < a then 1 else 0
theorem gpos_some {l : List Gs4} (hr : rises l) {g : Int} {k : Nat} (h1 : ∀ (j : Nat) z, l[j]? = some z → j < k → z.1 < g) (h2 : ∀ (j : Nat) z, l[j]? = some z → k ≤ j → g ≤ z.1) (hk : k ≤ l.length) :
    gpos l g = k ∧ ((fnd l g).isSome = true ↔ ∃ y, l[k]? = some y ∧ y.1 = g) := by
 have e := gpos_of (g := g) hk (fun j hj z hz => h1 j z hz hj) (fun z hz => h2 k z hz (Nat.le_refl _))
 refine ⟨e, ?_⟩
 constructor
 · intro h
   obtain ⟨j, hj⟩ := Option.isSome_iff_exists.1 h
   have := gpos_fnd hr hj
   obtain ⟨y, hy, hyg, _⟩ := fnd_some hj
   exact ⟨y, by rw [← e, this]; exact hy, hyg⟩
 · rintro ⟨y, hy, hyg⟩
   rw [fnd_of hr hy hyg]; rfl
end Md
theorem misnan_any (a : Int) (w : World) : Calls Tryd.prog 99 #[.int .i64 a] w fun e w' => e = .returned (.bool false) ∧ w' = w := by
 have h : (a != a) = false := by simp
 go_enter Tryd.func99, Tryd.ntmps99
 go_wp2
 go_ret
 exact ⟨rfl, rfl⟩
theorem mcmp_any (a b : Int) (w : World) : Calls Tryd.prog 91 #[.int .i64 a, .int .i64 b] w fun e w' => e = .returned (.int .i64 (Md.cmpI a b)) ∧ w' = w := by
 go_enter Tryd.func91, Tryd.ntmps91
 go_wp2_with fail
 refine (misnan_any a w).mono ?_
 rintro e w1 ⟨rfl, rfl⟩
 go_wp2_with fail
 refine (misnan_any b _).mono ?_
 rintro e w2 ⟨rfl, rfl⟩
 by_cases h : a < b
 · have HE : Hid (Md.cmpI a b = -1) := Lib.hid (by unfold Md.cmpI; rw [if_pos h])
   go_wp2
   go_ret
   exact ⟨by rw [HE.out] <;> rfl, rfl⟩
 · by_cases h2 : b < a
   · have HE : Hid (Md.cmpI a b = 1) := Lib.hid (by unfold Md.cmpI; rw [if_neg h, if_pos h2])
     go_wp2
     go_ret
     exact ⟨by rw [HE.out] <;> rfl, rfl⟩
   · have HE : Hid (Md.cmpI a b = 0) := Lib.hid (by unfold Md.cmpI; rw [if_neg h, if_neg h2])
     go_wp2
     go_ret
     exact ⟨by rw [HE.out] <;> rfl, rfl⟩
theorem mclo_any (x : Gs4) (g : Int) (w : World) : Calls Tryd.prog 90 #[.agg #[.int .i64 x.1, .int .i64 x.2.1, .int .i64 x.2.2.1, .int .i64 x.2.2.2], .int .i64 g] w fun e w' => e = .returned (.int .i64 (Md.cmpI x.1 g)) ∧ Ext w w' := by
 obtain ⟨w1, hw1⟩ : ∃ w1, w.alloc (.cells #[.int .i64 x.1, .int .i64 x.2.1, .int .i64 x.2.2.1, .int .i64 x.2.2.2] 49) = w1 := ⟨_, rfl⟩
 have hx : Ext w w1 := by rw [← hw1]; exact (Ext.refl w).alloc _
 have hb : w1.heap[w.heap.size]? = some (.cells #[.int .i64 x.1, .int .i64 x.2.1, .int .i64 x.2.2.1, .int .i64 x.2.2.2] 49 (0, 0)) := by rw [← hw1]; exact blk_new w _
 have h1 := blk_cell hb 0 _ rfl
 have HX := Lib.hid hx
 have HW := Lib.hid hw1
 clear hx hb hw1
 go_enter Tryd.func90, Tryd.ntmps90
 go_upto_region 1 with fail
 rw [HW.out]
 go_wp2_with fail
 refine (mcmp_any x.1 g w1).mono ?_
 rintro e w2 ⟨rfl, rfl⟩
 go_wp2
 go_ret
 exact ⟨rfl, HX.out⟩
set_option maxRecDepth 100000 in
set_option maxHeartbeats 4000000 in
theorem mbs_any (A : Option Addr) (c : Nat) (gs : List Gs4) (g : Int) (w : World) (h : RowsAt 4 snGCells w (.slice A gs.length c) gs) (hr : Md.rises gs) (hl : gs.length ≤ 10000) (r : Bool) (hrr : (Md.fnd gs g).isSome = r) (q : Nat) (hq : Md.gpos gs g = q) :
    Calls Tryd.prog 89 #[.slice A gs.length c, .int .i64 g, .func (.func 90) #[] #[]] w fun e w' => e = .returned (.tuple #[.int .i64 q, .bool r]) ∧ Ext w w' := by
 have H := Lib.hid h
 have HRI := Lib.hid hr
 have HRR := Lib.hid hrr
 have HQ := Lib.hid hq
 have hl' : (gs.length : Int) ≤ 10000 := by omega
 clear h hr hrr hq
 go_enter Tryd.func89, Tryd.ntmps89
 go_wp2_with fail
 go_loopw [9, 10] (fun iv jv wr => ∃ i j : Nat, i ≤ j ∧ j ≤ gs.length ∧ iv = .int .i64 i ∧ jv = .int .i64 j ∧ (∀ (a : Nat) z, gs[a]? = some z → a < i → z.1 < g) ∧ (∀ (a : Nat) z, gs[a]? = some z → j ≤ a → g ≤ z.1) ∧ Ext w wr) (fun iv jv _ => (intOf jv).toNat - (intOf iv).toNat)
 case atStart => exact ⟨0, gs.length, by omega, by omega, rfl, rfl, fun a z _ h => by omega, fun a z hz h => by have := (List.getElem?_eq_some_iff.1 hz).1; omega, Ext.refl _⟩
 case round =>
  obtain ⟨i, j, hij, hjl, rfl, rfl, h1, h2, hx⟩ := hrel
  have H1 := Lib.hid h1
  have H2 := Lib.hid h2
  have HX := Lib.hid hx
  clear h1 h2 hx
  by_cases hlt : i < j
  · obtain ⟨m, hm⟩ : ∃ m : Nat, (i + j) / 2 = m := ⟨_, rfl⟩
    have hmi : i ≤ m ∧ m < j := by omega
    have hmm : ((i : Int) + (j : Int)) / 2 = (m : Int) := by omega
    go_upto_region 5 with fail
    try rw [hmm]
    have HMI := Lib.hid hmi
    clear hm hmm hmi
    obtain ⟨y, hy⟩ : ∃ y, gs[m]? = some y := ⟨_, List.getElem?_eq_getElem (by have := HMI.out; omega)⟩
    obtain ⟨b, o, hA, hb, hc⟩ := (H.out.ext HX.out).get hy
    subst hA
    have k0 := hc 0 _ rfl
    have k1 := hc 1 _ rfl
    have k2 := hc 2 _ rfl
    have k3 := hc 3 _ rfl
    rw [Nat.add_zero] at k0
    have l1 : (m : Int) < (gs.length : Int) := by have := HMI.out; omega
    have l2 : (m : Int) < 100000 := by have := HMI.out; omega
    have HY := Lib.hid hy
    clear hc hb hy
    go_wp2_with fail
    refine (mclo_any y g wr).mono ?_
    rintro e wa ⟨rfl, hxa⟩
    have HXA := Lib.hid (HX.out.trans hxa)
    clear hxa k0 k1 k2 k3 l1 l2
    obtain ⟨ci, hci⟩ : ∃ ci, Md.cmpI y.1 g = ci := ⟨_, rfl⟩
    rw [hci]
    by_cases hyg : y.1 < g
    · have d1 : decide (ci < 0) = true := decide_eq_true (by rw [← hci]; unfold Md.cmpI; rw [if_pos hyg]; decide)
      have HYG := Lib.hid hyg
      clear hyg hci
      go_simp
      have l2 : (m : Int) < 100000 := by have := HMI.out; omega
      go_wp2
      go_roundw
      case rel =>
       have hmi := HMI.out
       refine ⟨m + 1, j, by omega, by omega, by go_num, rfl, fun a z hz ha => ?_, H2.out, HXA.out⟩
       by_cases ham : a < m
       · have := Md.rises_lt HRI.out hz HY.out ham; have := HYG.out; omega
       · obtain rfl : a = m := by omega
         rw [HY.out] at hz
         obtain rfl := Option.some.inj hz
         exact HYG.out
      case measure => have hmi := HMI.out; simp [intOf]; omega
    · have d1 : decide (ci < 0) = false := decide_eq_false (by rw [← hci]; unfold Md.cmpI; rw [if_neg hyg]; split <;> decide)
      have HYG := Lib.hid hyg
      clear hyg hci
      go_wp2
      go_roundw
      case rel =>
       have hmi := HMI.out
       refine ⟨i, m, by omega, by omega, rfl, by go_num, H1.out, fun a z hz ha => ?_, HXA.out⟩
       by_cases ham : m < a
       · have := Md.rises_lt HRI.out HY.out hz ham; have := HYG.out; omega
       · obtain rfl : a = m := by omega
         rw [HY.out] at hz
         obtain rfl := Option.some.inj hz
         have := HYG.out
         omega
      case measure => have hmi := HMI.out; simp [intOf]; omega
  · obtain rfl : i = j := by omega
    have hgp := Md.gpos_some HRI.out H1.out H2.out hjl
    have HQI : Hid (i = q) := Lib.hid (hgp.1.symm.trans HQ.out)
    have HSO := Lib.hid hgp.2
    clear hgp hlt hij
    by_cases hin : i < gs.length
    · obtain ⟨y, hy⟩ : ∃ y, gs[i]? = some y := ⟨_, List.getElem?_eq_getElem hin⟩
      obtain ⟨b, o, hA, hb, hc⟩ := (H.out.ext HX.out).get hy
      subst hA
      have k0 := hc 0 _ rfl
      have k1 := hc 1 _ rfl
      have k2 := hc 2 _ rfl
      have k3 := hc 3 _ rfl
      rw [Nat.add_zero] at k0
      have l1 : (i : Int) < (gs.length : Int) := by omega
      have l2 : (i : Int) < 100000 := by omega
      have HY := Lib.hid hy
      clear hc hb hy
      go_wp2_with fail
      refine (mclo_any y g wr).mono ?_
      rintro e wa ⟨rfl, hxa⟩
      have HXA := Lib.hid (HX.out.trans hxa)
      clear hxa k0 k1 k2 k3 l1 l2
      obtain ⟨ci, hci⟩ : ∃ ci, Md.cmpI y.1 g = ci := ⟨_, rfl⟩
      rw [hci]
      have hge := H2.out i y HY.out (Nat.le_refl _)
      by_cases hyg : y.1 = g
      · have d1 : (ci == 0) = true := by rw [← hci]; unfold Md.cmpI; rw [if_neg (by omega), if_neg (by omega)]; rfl
        have HRT : Hid (r = true) := Lib.hid (by rw [← HRR.out]; exact HSO.out.2 ⟨y, HY.out, hyg⟩)
        clear hyg hci hge
        go_wp2
        go_ret2
        exact ⟨by rw [HRT.out, HQI.out] <;> rfl, HXA.out⟩
      · have d1 : (ci == 0) = false := by rw [← hci]; unfold Md.cmpI; rw [if_neg (by omega), if_pos (by omega)]; rfl
        have HRT : Hid (r = false) := Lib.hid (by
         rw [← HRR.out]
         cases h : (Md.fnd gs g).isSome with
         | false => rfl
         | true =>
          obtain ⟨z, hz, hzg⟩ := HSO.out.1 h
          rw [HY.out] at hz
          obtain rfl := Option.some.inj hz
          exact absurd hzg hyg)
        clear hyg hci hge
        go_wp2
        go_ret2
        exact ⟨by rw [HRT.out, HQI.out] <;> rfl, HXA.out⟩
    · have HRT : Hid (r = false) := Lib.hid (by
       rw [← HRR.out]
       cases h : (Md.fnd gs g).isSome with
       | false => rfl
       | true =>
        obtain ⟨z, hz, hzg⟩ := HSO.out.1 h
        have := (List.getElem?_eq_some_iff.1 hz).1
        omega)
      go_wp2
      go_ret2
      exact ⟨by rw [HRT.out, HQI.out] <;> rfl, HX.out⟩
structure Tr (w0 w : World) (T : Nat) (x : Sn) (l : Lg) (wy st : Value) (p g : Int) (A : Option Addr) (c : Nat) (D : Option Addr) (d : Nat) : Prop where
 box : w.heap[T]? = some (.cells #[.int .i64 x.time, .slice A x.ps.length c, .slice D x.gs.length d, .int .i64 l.time, .int .i64 l.m, .int .i64 l.kind, .int .i64 l.g, .int .i64 l.p, .int .i64 l.seq, wy, st, .int .i64 p, .int .i64 g] 95 (0, 0))
 ps : OwnRows 61 2 snPCells w w0.heap.size (.slice A x.ps.length c) x.ps
 gs : OwnRows 49 4 snGCells w w0.heap.size (.slice D x.gs.length d) x.gs
 nA : ∀ b, A = some b → b.block ≠ T
 nD : ∀ b, D = some b → b.block ≠ T
 nn : ∀ a b, A = some a → D = some b → a.block ≠ b.block
 lo : w0.heap.size ≤ T
 ext : Ext w0 w
namespace Tr
variable {w0 w w' : World} {T : Nat} {x : Sn} {l : Lg} {wy st : Value} {p g : Int} {A D : Option Addr} {c d : Nat}
theorem more (h : Tr w0 w T x l wy st p g A c D d) (hx : Ext w w') : Tr w0 w' T x l wy st p g A c D d :=
 ⟨hx.blk h.box, h.ps.ext hx, h.gs.ext hx, h.nA, h.nD, h.nn, h.lo, h.ext.trans hx⟩
theorem setP (h : Tr w0 w T x l wy st p g A c D d) {k : Nat} {q q' : Int × Int} (hk : x.ps[k]? = some q) {j : Nat} {v : Value} (hj : j < 2) (hq : snPCells q' = (snPCells q).set j v) :
    ∃ b, A = some ⟨b, 0, none⟩ ∧ w.there b (k * 2 + j) 1 ∧ Tr w0 (w.setCell ⟨b, k * 2 + j, none⟩ v) T { x with ps := x.ps.set k q' } l wy st p g A c D d := by
 obtain ⟨b, c', hv, hown, hB, hlt, hth, ho, hu⟩ := h.ps.setCell snPCells_len hk hj hq
 simp only [Value.slice.injEq] at hv
 obtain ⟨hA, -, rfl⟩ := hv
 have hbT := h.nA _ hA
 refine ⟨b, hA, hth, ⟨?_, ?_, ?_, h.nA, h.nD, h.nn, h.lo, Ext.upd h.ext hu hB⟩⟩
 · rw [hu.block T (blk_lt h.box) (fun e => by injection e with e; exact hbT e.symm)]
   have := h.box
   simpa only [List.length_set] using this
 · simpa only [List.length_set] using ho
 · refine h.gs.kept (row := some b) hu ?_
   cases hD : D with
   | none => left; rfl
   | some a =>
    right
    rcases h.gs.2 with ⟨h1, -⟩ | ⟨b2, cap, cur, h1, rest⟩
    · rw [hD] at h1; simp at h1
    · rw [hD] at h1
      simp only [Value.slice.injEq, Option.some.injEq] at h1
      have e1 := h1.1
      subst e1
      intro h2
      simp only [Value.ownBlock, Option.some.injEq] at h2
      exact h.nn _ _ hA hD h2.symm
theorem setG (h : Tr w0 w T x l wy st p g A c D d) {k : Nat} {q q' : Gs4} (hk : x.gs[k]? = some q) {j : Nat} {v : Value} (hj : j < 4) (hq : snGCells q' = (snGCells q).set j v) :
    ∃ b, D = some ⟨b, 0, none⟩ ∧ w.there b (k * 4 + j) 1 ∧ Tr w0 (w.setCell ⟨b, k * 4 + j, none⟩ v) T { x with gs := x.gs.set k q' } l wy st p g A c D d := by
 obtain ⟨b, c', hv, hown, hB, hlt, hth, ho, hu⟩ := h.gs.setCell snGCells_len hk hj hq
 simp only [Value.slice.injEq] at hv
 obtain ⟨hA, -, rfl⟩ := hv
 have hbT := h.nD _ hA
 refine ⟨b, hA, hth, ⟨?_, ?_, ?_, h.nA, h.nD, h.nn, h.lo, Ext.upd h.ext hu hB⟩⟩
 · rw [hu.block T (blk_lt h.box) (fun e => by injection e with e; exact hbT e.symm)]
   have := h.box
   simpa only [List.length_set] using this
 · refine h.ps.kept (row := some b) hu ?_
   cases hD : A with
   | none => left; rfl
   | some a =>
    right
    rcases h.ps.2 with ⟨h1, -⟩ | ⟨b2, cap, cur, h1, rest⟩
    · rw [hD] at h1; simp at h1
    · rw [hD] at h1
      simp only [Value.slice.injEq, Option.some.injEq] at h1
      have e1 := h1.1
      subst e1
      intro h2
      simp only [Value.ownBlock, Option.some.injEq] at h2
      exact h.nn _ _ hD hA h2
 · simpa only [List.length_set] using ho
theorem rowP (h : Tr w0 w T x l wy st p g A c D d) {k : Nat} {q : Int × Int} (hk : x.ps[k]? = some q) : ∃ b, A = some ⟨b, 0, none⟩ ∧ b < w.heap.size ∧ w.cell? ⟨b, k * 2, none⟩ = some (.int .i64 q.1) ∧ w.cell? ⟨b, k * 2 + 1, none⟩ = some (.int .i64 q.2) := by
 obtain ⟨b, hA, _, _⟩ := h.setP hk (j := 0) (v := .int .i64 q.1) (by omega) (q' := q) rfl
 obtain ⟨b', o, hA', hb, hc⟩ := (OwnRows.rows snPCells_len h.ps).get hk
 rw [hA] at hA'
 simp only [Option.some.injEq, Addr.mk.injEq, and_true] at hA'
 obtain ⟨rfl, rfl⟩ := hA'
 have k0 := hc 0 _ rfl
 have k1 := hc 1 _ rfl
 rw [Nat.zero_add] at k0 k1
 exact ⟨b, hA, hb, k0, k1⟩
theorem rowG (h : Tr w0 w T x l wy st p g A c D d) {k : Nat} {q : Gs4} (hk : x.gs[k]? = some q) : ∃ b, D = some ⟨b, 0, none⟩ ∧ b < w.heap.size ∧ w.cell? ⟨b, k * 4, none⟩ = some (.int .i64 q.1) ∧ w.cell? ⟨b, k * 4 + 1, none⟩ = some (.int .i64 q.2.1) ∧ w.cell? ⟨b, k * 4 + 2, none⟩ = some (.int .i64 q.2.2.1) ∧ w.cell? ⟨b, k * 4 + 3, none⟩ = some (.int .i64 q.2.2.2) := by
 obtain ⟨b, hA, _, _⟩ := h.setG hk (j := 0) (v := .int .i64 q.1) (by omega) (q' := q) rfl
 obtain ⟨b', o, hA', hb, hc⟩ := (OwnRows.rows snGCells_len h.gs).get hk
 rw [hA] at hA'
 simp only [Option.some.injEq, Addr.mk.injEq, and_true] at hA'
 obtain ⟨rfl, rfl⟩ := hA'
 have k0 := hc 0 _ rfl
 have k1 := hc 1 _ rfl
 have k2 := hc 2 _ rfl
 have k3 := hc 3 _ rfl
 rw [Nat.zero_add] at k0 k1 k2 k3
 exact ⟨b, hA, hb, k0, k1, k2, k3⟩
end Tr
theorem there_one {w : World} {b o : Nat} (h : w.there b o 1) : (∃ v, w.cell? ⟨b, o, none⟩ = some v) ∧ w.frozen? ⟨b, o, none⟩ = false := by
 have := h 0 (by omega)
 rw [Nat.add_zero] at this
 exact ⟨Option.isSome_iff_exists.1 this.1, this.2⟩
def TrRet (w0 : World) (T : Nat) (y : Sn) (l : Lg) (wy st : Value) (p g : Int) (e : Ending) (w' : World) : Prop := e = .returned (.tuple #[]) ∧ ∃ A c D d, Tr w0 w' T y l wy st p g A c D d
set_option maxRecDepth 100000 in
set_option maxHeartbeats 2000000 in
theorem mindex_any (w0 w : World) (T : Nat) (x : Sn) (l : Lg) (wy st : Value) (p g : Int) (A : Option Addr) (c : Nat) (D : Option Addr) (d : Nat) (h : Tr w0 w T x l wy st p g A c D d) (n : Int) (hr : Md.rises x.gs) (hl : x.gs.length ≤ 10000) (r : Bool) (hrr : (Md.fnd x.gs n).isSome = r) (q : Nat) (hq : Md.gpos x.gs n = q) :
    Calls Tryd.prog 69 #[.pointer (some ⟨T, 0, none⟩), .int .i64 n] w fun e w' => e = .returned (.tuple #[.int .i64 q, .bool r]) ∧ Ext w w' := by
 have q2 := blk_cell h.box 2 _ rfl
 have H := Lib.hid (mbs_any D d x.gs n w (OwnRows.rows snGCells_len h.gs) hr hl r hrr q hq)
 clear h hr hrr hq
 go_enter Tryd.func69, Tryd.ntmps69
 go_wp2_with fail
 refine H.out.mono ?_
 rintro e w' ⟨rfl, hx⟩
 have HX := Lib.hid hx
 clear hx q2
 go_wp2
 go_ret2
 exact ⟨rfl, HX.out⟩
set_option maxRecDepth 100000 in
set_option maxHeartbeats 4000000 in
theorem mgive_any (w0 w : World) (T : Nat) (x : Sn) (l : Lg) (wy st : Value) (p g : Int) (A : Option Addr) (c : Nat) (D : Option Addr) (d : Nat) (h : Tr w0 w T x l wy st p g A c D d) (k : Nat) (m a b : Int) (hk : x.ps[k]? = some (a, b)) (hb : 0 ≤ b ∧ b < 4611686018427387904) (hl : x.ps.length ≤ 10000) :
    Calls Tryd.prog 63 #[.pointer (some ⟨T, 0, none⟩), .int .i64 ((k : Int) + 1), .int .i64 m] w (TrRet w0 T { x with ps := x.ps.set k (m, b + 1) } l wy st p g) := by
 have q1 := blk_cell h.box 1 _ rfl
 obtain ⟨bl, hA, hth, hT1⟩ := h.setP hk (j := 0) (v := .int .i64 m) (by omega) (q' := (m, b)) rfl
 have hk1 : (x.ps.set k (m, b))[k]? = some (m, b) := List.getElem?_set_self (List.getElem?_eq_some_iff.1 hk).1
 obtain ⟨bl2, hA2, hth2, hT2⟩ := hT1.setP (k := k) hk1 (j := 1) (v := .int .i64 (b + 1)) (by omega) (q' := (m, b + 1)) rfl
 obtain ⟨bl3, hA3, -, -, hs⟩ := hT1.rowP (k := k) hk1
 rw [hA] at hA2 hA3
 simp only [Option.some.injEq, Addr.mk.injEq, and_true] at hA2 hA3
 subst hA2 hA3
 simp only [List.set_set] at hT2
 obtain ⟨⟨v0, t0⟩, z0⟩ := there_one hth
 obtain ⟨⟨v1, t1⟩, z1⟩ := there_one hth2
 subst hA
 have q1' := blk_cell hT1.box 1 _ rfl
 rw [Nat.add_zero] at t0 z0 hT1 hT2 hs t1 z1 q1'
 obtain ⟨w1, hw1⟩ : ∃ w1, w.setCell ⟨bl, k * 2, none⟩ (.int .i64 m) = w1 := ⟨_, rfl⟩
 rw [hw1] at hT2 hs t1 z1 q1'
 simp only [List.length_set] at q1'
 have s1 := hs
 simp only at s1
 clear t1 hs
 have HW1 := Lib.hid hw1
 have HT2 := Lib.hid hT2
 have l1 : (k : Int) + 1 - 1 = (k : Int) := by omega
 have l2 : (k : Int) < (x.ps.length : Int) := by have := (List.getElem?_eq_some_iff.1 hk).1; omega
 have l3 : (k : Int) < 100000 := by omega
 have l4 : IntKind.i64.wrap (b + 1) = b + 1 := IntWalk.i64_in _ (by omega)
 clear h hk hth hT1 hk1 hth2 hT2 hw1 hb
 go_enter Tryd.func63, Tryd.ntmps63
 go_upto_region 1 with fail
 rw [HW1.out]
 go_wp2
 first | go_end0 | skip
 exact ⟨rfl, _, _, _, _, HT2.out⟩
set_option maxRecDepth 100000 in
set_option maxHeartbeats 8000000 in
theorem mbecome_any (w0 w : World) (T : Nat) (x : Sn) (l : Lg) (wy st : Value) (p g : Int) (A : Option Addr) (c : Nat) (D : Option Addr) (d : Nat) (h : Tr w0 w T x l wy st p g A c D d) (n s m : Int) (k : Nat) (a b e f : Int) (hr : Md.rises x.gs) (hf : Md.fnd x.gs n = some k) (hk : x.gs[k]? = some (a, b, e, f)) (hb : 0 ≤ f ∧ f < 4611686018427387904) (hl : x.gs.length ≤ 10000) :
    Calls Tryd.prog 67 #[.pointer (some ⟨T, 0, none⟩), .int .i64 n, .int .i64 s, .int .i64 m] w (TrRet w0 T { x with gs := x.gs.set k (a, s, m, f + 1) } l wy st p g) := by
 have H := Lib.hid h
 have HK := Lib.hid hk
 have HRI := Lib.hid hr
 have HF := Lib.hid (Md.gpos_fnd hr hf)
 have HF2 := Lib.hid hf
 clear h hk hr hf
 go_enter Tryd.func67, Tryd.ntmps67
 go_wp2_with fail
 refine (mindex_any w0 w T x l wy st p g A c D d H.out n HRI.out hl true (by rw [HF2.out]; rfl) k HF.out).mono ?_
 rintro e' wa ⟨rfl, hxa⟩
 have h := H.out.more hxa
 have hk := HK.out
 clear hxa
 have q1 := blk_cell h.box 2 _ rfl
 obtain ⟨bl, hA, hth, hT1⟩ := h.setG hk (j := 1) (v := .int .i64 s) (by omega) (q' := (a, s, e, f)) rfl
 have hlk := (List.getElem?_eq_some_iff.1 hk).1
 have hk1 : (x.gs.set k (a, s, e, f))[k]? = some (a, s, e, f) := List.getElem?_set_self hlk
 obtain ⟨bl2, hA2, hth2, hT2⟩ := hT1.setG (k := k) hk1 (j := 2) (v := .int .i64 m) (by omega) (q' := (a, s, m, f)) rfl
 have hk2 : ((x.gs.set k (a, s, e, f)).set k (a, s, m, f))[k]? = some (a, s, m, f) := List.getElem?_set_self (by rw [List.length_set]; exact hlk)
 obtain ⟨bl3, hA3, hth3, hT3⟩ := hT2.setG (k := k) hk2 (j := 3) (v := .int .i64 (f + 1)) (by omega) (q' := (a, s, m, f + 1)) rfl
 obtain ⟨bl4, hA4, -, -, -, -, hs⟩ := hT2.rowG (k := k) hk2
 rw [hA] at hA2 hA3 hA4
 simp only [Option.some.injEq, Addr.mk.injEq, and_true] at hA2 hA3 hA4
 subst hA2 hA3 hA4
 simp only [List.set_set] at hT3
 obtain ⟨⟨v0, t0⟩, z0⟩ := there_one hth
 obtain ⟨⟨v1, t1⟩, z1⟩ := there_one hth2
 obtain ⟨-, z2⟩ := there_one hth3
 subst hA
 have q1' := blk_cell hT1.box 2 _ rfl
 have q1'' := blk_cell hT2.box 2 _ rfl
 obtain ⟨w1, hw1⟩ : ∃ w1, wa.setCell ⟨bl, k * 4 + 1, none⟩ (.int .i64 s) = w1 := ⟨_, rfl⟩
 rw [hw1] at hT2 hT3 hs t1 z1 z2 q1' q1''
 obtain ⟨w2, hw2⟩ : ∃ w2, w1.setCell ⟨bl, k * 4 + 2, none⟩ (.int .i64 m) = w2 := ⟨_, rfl⟩
 rw [hw2] at hT3 hs z2 q1''
 simp only [List.length_set] at q1' q1''
 simp only at hs
 have HW1 := Lib.hid hw1
 have HW2 := Lib.hid hw2
 have HT3 := Lib.hid hT3
 have l2 : (k : Int) < (x.gs.length : Int) := by omega
 have l3 : (k : Int) < 100000 := by omega
 have l4 : IntKind.i64.wrap (f + 1) = f + 1 := IntWalk.i64_in _ (by omega)
 clear h hk hth hT1 hk1 hth2 hth3 hk2 hT2 hT3 hw1 hw2 hb hlk
 go_simp
 go_upto_region 2 with fail
 rw [HW1.out]
 go_upto_region 3 with fail
 rw [HW2.out]
 go_wp2
 first | go_end0 | skip
 exact ⟨rfl, _, _, _, _, HT3.out⟩
theorem zeroCells_len (z : Array Value) (n : Nat) : (Builtin.zeroCells z n).toList.length = n * z.size := by simp [Builtin.zeroCells]
theorem zeroCells_one {z : Array Value} (h1 : ∀ u ∈ z.toList, u.oneCell' = true) (n : Nat) : ∀ u ∈ (Builtin.zeroCells z n).toList, u.oneCell' = true := by
 intro u hu
 simp only [Builtin.zeroCells, Array.toList_map, List.mem_map, Array.mem_toList_iff, Array.mem_range] at hu
 obtain ⟨i, hi, rfl⟩ := hu
 have hz : 0 < z.size := Nat.pos_of_ne_zero fun e => by rw [e] at hi; omega
 have hlt : i % z.size < z.size := Nat.mod_lt _ hz
 rw [getElem!_pos z (i % z.size) hlt]
 exact h1 _ (Array.mem_toList_iff.2 (Array.getElem_mem hlt))
theorem run_clear_rows {P : Program} (w : World) (t e : TypeId) (z : Value) (m : Nat) (ht : P.underlying t = some (.slice e)) (hv : ∀ w, (zeroValue e).run P w = .ok z w) (hz : z.cells.size = m) (h1 : ∀ u ∈ z.cells.toList, u.oneCell' = true) (b o n c : Nat) (hn : 0 < n) (hth : w.there b o (n * m)) :
    ∃ zs, zs.length = n * m ∧ ∀ ty, (Builtin.clear_ #[t] ty #[.slice (some ⟨b, o, none⟩) n c]).run P w = .ok (.tuple #[]) (w.setCells b o zs) := by
 refine ⟨(Builtin.zeroCells z.cells n).toList, by rw [zeroCells_len, hz], fun ty => ?_⟩
 have hst := run_storeCells_cells (P := P) b o (Builtin.zeroCells z.cells n).toList 0 w (by rw [zeroCells_len, hz]; intro j hj; simpa using (hth j hj).1) (by rw [zeroCells_len, hz]; intro j hj; simpa using (hth j hj).2) (zeroCells_one h1 n)
 simp only [Nat.add_zero] at hst
 obtain ⟨k, rfl⟩ : ∃ k, n = k + 1 := ⟨n - 1, by omega⟩
 simp [Builtin.clear_, run_underlying ht, hv, hst]
theorem own_first {α : Type} {e : TypeId} {m : Nat} {f : α → List Value} {w : World} {B g n c : Nat} {xs : List α} (hf : ∀ x, (f x).length = m) (h : OwnRows e m f w B (.slice (some ⟨g, 0, none⟩) n c) xs) {i : Nat} (hi : i ≤ xs.length) :
    OwnRows e m f w B (.slice (some ⟨g, 0, none⟩) i c) (xs.take i) := by
 have hmi : i * m ≤ xs.length * m := Nat.mul_le_mul_right _ hi
 have hl : (xs.take i).length = i := by rw [List.length_take]; omega
 rcases h.2 with ⟨e1, _⟩ | ⟨g', cap, cur, hv, hb, hg, hnc, hcm, hcs, htake⟩
 · cases e1
 · simp only [Value.slice.injEq, Option.some.injEq, Addr.mk.injEq, and_true] at hv
   obtain ⟨rfl, rfl, rfl⟩ := hv
   refine ⟨by rw [flatMap_len hf], .inr ⟨g, c, cur, by rw [hl], hb, hg, by omega, hcm, hcs, ?_⟩⟩
   rw [hl]
   have e1 : xs.flatMap f = (xs.take i).flatMap f ++ (xs.drop i).flatMap f := by rw [← List.flatMap_append, List.take_append_drop]
   have e2 : cur.toList.take (i * m) = (cur.toList.take (xs.length * m)).take (i * m) := by rw [List.take_take, Nat.min_eq_left hmi]
   rw [e2, htake, e1, List.take_left' (by rw [flatMap_len hf, hl])]
theorem own_behind {α : Type} {e : TypeId} {m : Nat} {f : α → List Value} {w : World} {B g n c : Nat} {xs : List α} (hf : ∀ x, (f x).length = m) (h : OwnRows e m f w B (.slice (some ⟨g, 0, none⟩) n c) xs) {zs : List Value} {k : Nat} (hz : zs.length = k * m) (hk : xs.length + k ≤ c) :
    w.there g (xs.length * m) (k * m) ∧ OwnRows e m f (w.setCells g (xs.length * m) zs) B (.slice (some ⟨g, 0, none⟩) n c) xs ∧ Upd g w (w.setCells g (xs.length * m) zs) := by
 rcases h.2 with ⟨e1, _⟩ | ⟨g', cap, cur, hv, hb, hg, hnc, hcm, hcs, htake⟩
 · cases e1
 · simp only [Value.slice.injEq, Option.some.injEq, Addr.mk.injEq, and_true] at hv
   obtain ⟨rfl, rfl, rfl⟩ := hv
   have hmc : (xs.length + k) * m ≤ c * m := Nat.mul_le_mul_right _ hk
   rw [Nat.add_mul] at hmc
   obtain ⟨cs', h1, h2, h3⟩ := setCells_mid zs w cur (xs.length * m) hg (by rw [hz, hcs]; omega)
   refine ⟨fun j hj => ⟨by rw [blk_cell hg _ _ (Array.getElem?_eq_getElem (by rw [hcs]; omega))]; rfl, frozen_of_row _ _ _ _ _ hg⟩, ⟨h.1, .inr ⟨g, c, cs', rfl, hb, h1, hnc, hcm, h2.trans hcs, ?_⟩⟩, setCells_upd _ _ _ _⟩
   rw [← htake]
   apply List.ext_getElem?
   intro t
   rw [List.getElem?_take, List.getElem?_take]
   by_cases ht : t < xs.length * m
   · rw [if_pos ht, if_pos ht, Array.getElem?_toList, Array.getElem?_toList, h3 t, if_neg (by omega)]
   · rw [if_neg ht, if_neg ht]
theorem gsize_run : ∀ w, (sizeOf 49).run Tryd.prog w = .ok 4 w := fun w => by kernel_rfl
theorem cutG_to (A : Option Addr) (n c k : Nat) (h1 : k ≤ c) (v : World) : (Instr.slice 23 (.slice A n c) none (some (.int .i64 k)) none).run Tryd.prog v = .ok (.slice A k c) v := by
 have hk : (k : Int) ≤ (c : Int) := by omega
 simp [Instr.slice, run_underlying Tryd.underlying23, Instr.sliceBounds, Instr.sliceBound, asIntOf, hk, gsize_run]
 try rw [if_pos (by omega)]
 have hA' : (if c = 0 then A else Option.map (fun x => x.add 0) A) = A := by cases A <;> simp [Addr.add]
 try rw [hA']
theorem cutG_from (g n c k : Nat) (h1 : k + 1 < n) (h2 : n ≤ c) (v : World) : (Instr.slice 23 (.slice (some ⟨g, 0, none⟩) n c) (some (.int .i64 ((k : Int) + 1))) none none).run Tryd.prog v = .ok (.slice (some ⟨g, (k + 1) * 4, none⟩) (n - (k + 1)) (c - (k + 1))) v := by
 have hk : (k : Int) + 1 ≤ (n : Int) := by omega
 have h0 : (0 : Int) ≤ (k : Int) + 1 := by omega
 have hz : ((k : Int) + 1).toNat = k + 1 := by omega
 simp [Instr.slice, run_underlying Tryd.underlying23, Instr.sliceBounds, Instr.sliceBound, asIntOf, hk, hz, h0, gsize_run]
 try (rw [if_pos (by omega)])
 rw [if_neg (by omega)]
 simp [Addr.add]
 try omega
theorem cutG_end (g k c : Nat) (h2 : k + 1 ≤ c) (v0 : World) : ∃ A c', ∀ v, (Instr.slice 23 (.slice (some ⟨g, 0, none⟩) (k + 1) c) (some (.int .i64 ((k : Int) + 1))) none none).run Tryd.prog v = .ok (.slice A 0 c') v := by
 have h0 : (0 : Int) ≤ (k : Int) + 1 := by omega
 have hz : ((k : Int) + 1).toNat = k + 1 := by omega
 refine ⟨if c = k + 1 then some ⟨g, 0, none⟩ else some (Addr.add ⟨g, 0, none⟩ ((k + 1) * 4)), c - (k + 1), fun v => ?_⟩
 simp [Instr.slice, run_underlying Tryd.underlying23, Instr.sliceBounds, Instr.sliceBound, asIntOf, hz, h0, gsize_run]
 try (rw [if_pos (by omega)])
 try (split <;> rfl)
 try (intro hh; omega)
theorem cutG_one (g n c : Nat) (h1 : n + 1 ≤ c) (v : World) : (Instr.slice 23 (.slice (some ⟨g, 0, none⟩) n c) (some (.int .i64 n)) (some (.int .i64 ((n : Int) + 1))) none).run Tryd.prog v = .ok (.slice (some ⟨g, n * 4, none⟩) 1 (c - n)) v := by
 have hk : (n : Int) + 1 ≤ (c : Int) := by omega
 simp [Instr.slice, run_underlying Tryd.underlying23, Instr.sliceBounds, Instr.sliceBound, asIntOf, hk, gsize_run]
 rw [if_pos (by omega), if_neg (by omega)]
 simp [Addr.add]
 try omega
theorem cutG_all (A : Option Addr) (n c i : Nat) (h2 : i + 1 ≤ n) (h3 : n ≤ c) (v : World) : ∃ u, (Instr.slice 23 (.slice A n c) (some (.int .i64 i)) (some (.int .i64 ((i : Int) + 1))) (some (.int .i64 n))).run Tryd.prog v = .ok u v := by
 have hk : (n : Int) ≤ (c : Int) := by omega
 have hk2 : (i : Int) + 1 ≤ (n : Int) := by omega
 have hk3 : (i : Int) ≤ (i : Int) + 1 := by omega
 have h0 : (0 : Int) ≤ (i : Int) + 1 := by omega
 have hz : ((i : Int) + 1).toNat = i + 1 := by omega
 simp [Instr.slice, run_underlying Tryd.underlying23, Instr.sliceBounds, Instr.sliceBound, asIntOf, hk, hk2, hk3, hz, h0, gsize_run]
 try (rw [if_pos h3])
 try (rw [if_pos (by omega)])
 try (rw [if_pos (by omega)])
 try exact ⟨_, rfl⟩
end Go.Proofs.YtohncgikdlbogaaDoor
