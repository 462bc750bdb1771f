/-
  Several texts in one: Tk, Tn, Tw, Tx.
-/
import Derived.Test.YtogcfndhcphpaaaK13
import Derived.Test.YtogcfndhcphpaaaK07
/-
  The program's May of programs, III.
-/
set_option linter.unusedVariables false
set_option linter.unusedSimpArgs false
namespace Go.Proofs.Ytogcfndhcphpaaa
open Go.RowKit

theorem shapes_one {w : World} {cs : Array Value} {n : Int} (h : ShapesOk w cs n) : ∀ u ∈ cs.toList, u.oneCell' = true := fun u hu => by
  obtain ⟨i, hi⟩ := List.mem_iff_getElem?.1 hu
  have hlt : i < 21 := by have := (List.getElem?_eq_some_iff.1 hi).1; have h2 := h.1; simp at this; omega
  obtain ⟨nm, nb, cv, g0, g1, g2, b, hcv⟩ := h.2 (i / 3) (by omega)
  have hi' : cs[i]? = some u := by simpa using hi
  obtain hr | hr | hr : i % 3 = 0 ∨ i % 3 = 1 ∨ i % 3 = 2 := by omega
  · rw [show i / 3 * 3 = i by omega, hi'] at g0
    injection g0 with g0
    subst g0
    rfl
  · rw [show i / 3 * 3 + 1 = i by omega, hi'] at g1
    injection g1 with g1
    subst g1
    rfl
  · rw [show i / 3 * 3 + 2 = i by omega, hi'] at g2
    injection g2 with g2
    subst g2
    rcases hcv with hcv | hcv
    · rw [hcv.1]; rfl
    · rw [hcv.1]; rfl
set_option maxRecDepth 100000 in
set_option maxHeartbeats 8000000 in
theorem pmay_any (v : Value) (p : List (List (Int × Int))) (r : Bool) (hr : Pg.may p = r) (w : World) (h : NestAt 2 pairL w v p) (h1 : p.length ≤ 100000) (h2 : ∀ l ∈ p, l.length ≤ 100000) :
    Calls Try.prog 92 #[v] w fun e w' => e = .returned (.bool r) ∧ Ext w w' := by
  subst hr
  have H := Lib.hid h
  have H2 := Lib.hid h2
  obtain ⟨A, c, rfl⟩ := h.form2
  clear h h2
  by_cases a1 : p = []
  · have HT : Hid (Pg.may p = false) := Lib.hid (by subst a1; rfl)
    subst a1
    simp only [List.length_nil] at *
    go_enter Try.func92, Try.ntmps92
    go_wp2
    go_ret
    exact ⟨by rw [HT.out] <;> rfl, Ext.refl _⟩
  have hpos := List.length_pos_iff.2 a1
  have a0' : ((p.length : Int) == 0) = false := by simp; omega
  by_cases a2 : 8 < p.length
  · have HT : Hid (Pg.may p = false) := Lib.hid (by unfold Pg.may; rw [decide_eq_false (by omega)]; rfl)
    have a2' : (8 : Int) < (p.length : Int) := by omega
    clear hpos
    go_enter Try.func92, Try.ntmps92
    go_wp2
    go_ret
    exact ⟨by rw [HT.out] <;> rfl, Ext.refl _⟩
  have a1' : (1 : Int) ≤ (p.length : Int) := by omega
  have a2' : (p.length : Int) ≤ 8 := by omega
  have HST : Hid (∀ (j : Nat) l, p[j]? = some l → Pg.okC p.length l = false → Pg.may p = false) := Lib.hid fun j l hj hl => by
    unfold Pg.may; rw [all_no hj hl, Bool.and_false]
  have HOK : Hid ((∀ (j : Nat) l, p[j]? = some l → Pg.okC p.length l = true) → Pg.may p = true) := Lib.hid fun h => by
    unfold Pg.may; rw [all_yes h, decide_eq_true (by omega)]; rfl
  clear a2 hpos
  go_enter Try.func92, Try.ntmps92
  go_wp2_with fail
  refine (shapes_any p.length w ⟨by omega, by omega⟩).mono ?_
  rintro e ws ⟨cs, rfl, hsh, hxs⟩
  obtain ⟨wy, hwy⟩ : ∃ wy, ws.alloc (.cells #[.string ⟨#[]⟩, .bool false, .nilFunc, .string ⟨#[]⟩, .bool false, .nilFunc, .string ⟨#[]⟩, .bool false, .nilFunc, .string ⟨#[]⟩, .bool false, .nilFunc, .string ⟨#[]⟩, .bool false, .nilFunc, .string ⟨#[]⟩, .bool false, .nilFunc, .string ⟨#[]⟩, .bool false, .nilFunc] 133) = wy := ⟨_, rfl⟩
  have hyb : wy.heap[ws.heap.size]? = some (.cells #[.string ⟨#[]⟩, .bool false, .nilFunc, .string ⟨#[]⟩, .bool false, .nilFunc, .string ⟨#[]⟩, .bool false, .nilFunc, .string ⟨#[]⟩, .bool false, .nilFunc, .string ⟨#[]⟩, .bool false, .nilFunc, .string ⟨#[]⟩, .bool false, .nilFunc, .string ⟨#[]⟩, .bool false, .nilFunc] 133 (0, 0)) := by rw [← hwy]; exact blk_new ws _
  obtain ⟨wz, hwz⟩ : ∃ wz, wy.setCells ws.heap.size 0 cs.toList = wz := ⟨_, rfl⟩
  have hc21 : cs.toList.length = 21 := by simpa using hsh.1
  have hxy : Ext w wy := by rw [← hwy]; exact hxs.alloc _
  have HX0 : Hid (Ext w wz) := Lib.hid (by rw [← hwz]; exact hxy.upd (setCells_upd _ _ _ _) hxs.size)
  have HSB : Hid (wz.heap[ws.heap.size]? = some (.cells cs 133 (0, 0))) := Lib.hid (by
    rw [← hwz]
    have := setCells_at [.string ⟨#[]⟩, .bool false, .nilFunc, .string ⟨#[]⟩, .bool false, .nilFunc, .string ⟨#[]⟩, .bool false, .nilFunc, .string ⟨#[]⟩, .bool false, .nilFunc, .string ⟨#[]⟩, .bool false, .nilFunc, .string ⟨#[]⟩, .bool false, .nilFunc, .string ⟨#[]⟩, .bool false, .nilFunc] cs.toList (by rw [hc21]; rfl) hyb
    simpa using this)
  have HSH : Hid (ShapesOk wz cs p.length) := Lib.hid (by
    refine hsh.ext ?_
    rw [← hwz, ← hwy]
    exact ((Ext.refl ws).alloc _).upd (setCells_upd _ _ _ _) (Nat.le_refl _))
  have HTH : Hid (wy.there ws.heap.size 0 cs.toList.length) := Lib.hid (there_row hyb (by rw [hc21]; exact Nat.le_refl 21))
  have HIN0 : Hid ((Try.prog.info? 133).map (·.size) = some cs.toList.length) := Lib.hid (by rw [hc21]; kernel_rfl)
  have HONE := Lib.hid (shapes_one hsh)
  have HWY := Lib.hid hwy
  have HWZ := Lib.hid hwz
  clear hsh hxs hwz hwy hyb hc21 hxy
  rename_i K hK
  refine hK _ _ ?_
  refine wpList_plain rfl fun K2 hK2 => ?_
  go_simp
  rw [HWY.out]
  refine hK2 _ _ ?_
  refine wpList_store_row rfl 133 _ _ rfl ws.heap.size cs.toList (.agg cs) ?_ ?_ (by simp) HTH.out HIN0.out HONE.out HWZ.out ?_
  · go_simp
  · go_simp
  go_wp2_with fail
  go_loopw [21] (fun iv wr => ∃ k : Nat, k ≤ p.length ∧ iv = .int .i64 k ∧ (∀ (j : Nat) l, p[j]? = some l → j < k → Pg.okC p.length l = true) ∧ Ext wz wr) (fun iv _ => p.length - (intOf iv).toNat)
  case atStart => exact ⟨0, by omega, rfl, fun j l _ h => by omega, Ext.refl _⟩
  case round =>
    obtain ⟨k, hk, rfl, hall, hx⟩ := hrel
    have HALL := Lib.hid hall
    have HX := Lib.hid hx
    clear hall hx
    by_cases hlt : k < p.length
    · obtain ⟨l, hl⟩ : ∃ l, p[k]? = some l := ⟨_, List.getElem?_eq_getElem hlt⟩
      have hl2 := H2.out l (List.mem_of_getElem? hl)
      obtain ⟨b, o, B, d, rfl, hb, hcu, hrow⟩ := H.out.get hl
      have HCU := Lib.hid hcu
      have HB := Lib.hid hb
      have HR := Lib.hid hrow
      have HL := Lib.hid hl
      clear hl hb hcu hrow
      have c0 : wr.cell? ⟨b, o + k, none⟩ = some (.slice B l.length d) := (Below.cell (HX0.out.trans HX.out) HB.out).trans HCU.out
      by_cases b1 : 20 < l.length
      · have HT : Hid (Pg.may p = false) := Lib.hid (HST.out k l HL.out (by unfold Pg.okC; rw [decide_eq_false (by omega)]; rfl))
        have b1' : (20 : Int) < (l.length : Int) := by omega
        go_wp2
        go_ret
        rw [HT.out]
        exact ⟨rfl, HX0.out.trans HX.out⟩
      have b1' : (l.length : Int) ≤ 20 := by omega
      have HNI : Hid (∀ (j : Nat) x, l[j]? = some x → Pg.okI p.length x = false → Pg.may p = false) := Lib.hid fun j x hj hx => HST.out k l HL.out (by unfold Pg.okC; rw [all_no hj hx, Bool.and_false])
      have HYI : Hid ((∀ (j : Nat) x, l[j]? = some x → Pg.okI p.length x = true) → Pg.okC p.length l = true) := Lib.hid fun h => by unfold Pg.okC; rw [all_yes h, decide_eq_true (by omega)]; rfl
      obtain ⟨wo, rfl⟩ : ∃ wo, wo = wr := ⟨_, rfl⟩
      go_wp2_with fail
      clear c0
      go_loopw [30] (fun iv wr => ∃ j : Nat, j ≤ l.length ∧ iv = .int .i64 j ∧ (∀ (i : Nat) x, l[i]? = some x → i < j → Pg.okI p.length x = true) ∧ Ext wz wr) (fun iv _ => l.length - (intOf iv).toNat)
      case atStart => exact ⟨0, by omega, rfl, fun j l _ h => by omega, HX.out⟩
      case round =>
        clear HX
        obtain ⟨j, hj, rfl, hin, hx⟩ := hrel
        have HIN := Lib.hid hin
        have HX := Lib.hid hx
        clear hin hx
        by_cases hlt2 : j < l.length
        · obtain ⟨x, hx⟩ : ∃ x, l[j]? = some x := ⟨_, List.getElem?_eq_getElem hlt2⟩
          obtain ⟨b3, o3, rfl, hb3, e0, e1⟩ := frs2_get (HR.out.ext (HX0.out.trans HX.out)) hx
          have HXX := Lib.hid hx
          obtain ⟨d, a⟩ := x
          simp only at e0 e1
          obtain ⟨w3, hw3⟩ : ∃ w3, wr.alloc (.cells #[.int .i64 d, .int .i64 a] 68) = w3 := ⟨_, rfl⟩
          have HW3 := Lib.hid hw3
          have HX3 : Hid (Ext wz w3) := Lib.hid (by rw [← hw3]; exact HX.out.alloc _)
          have hq : w3.heap[wr.heap.size]? = some (.cells #[.int .i64 d, .int .i64 a] 68 (0, 0)) := by rw [← hw3]; exact blk_new wr _
          have q0 := blk_cell hq 0 _ rfl
          have q1 := blk_cell hq 1 _ rfl
          clear hx hb3 hq hw3
          have HQI : Hid (w3.heap[wr.heap.size]? = some (.cells #[.int .i64 d, .int .i64 a] 68 (0, 0))) := Lib.hid (by rw [← HW3.out]; exact blk_new wr _)
          by_cases t1 : d < 0
          · have HNO : Hid (Pg.may p = false) := Lib.hid (HNI.out j _ HXX.out (by unfold Pg.okI; rw [decide_eq_false (by simp only; omega)]))
            go_upto_region 12 with fail
            rw [HW3.out]
            go_quiet (fail)
            go_wp2
            go_ret
            exact ⟨by rw [HNO.out] <;> rfl, HX0.out.trans (HX3.out.drewN _)⟩
          by_cases t2 : 7 ≤ d
          · have HNO : Hid (Pg.may p = false) := Lib.hid (HNI.out j _ HXX.out (by unfold Pg.okI; rw [decide_eq_false (by simp only; omega)]))
            go_upto_region 12 with fail
            rw [HW3.out]
            go_quiet (fail)
            go_wp2
            go_ret
            exact ⟨by rw [HNO.out] <;> rfl, HX0.out.trans (HX3.out.drewN _)⟩
          obtain ⟨dd, rfl⟩ : ∃ dd : Nat, d = dd := ⟨d.toNat, by omega⟩
          obtain ⟨nm, nb, cv, g0, g1, g2, hcv⟩ := HSH.out.2 dd (by omega)
          have HCV := Lib.hid hcv
          have HSC : Hid (∀ v, Ext wz v → v.cell? ⟨ws.heap.size, dd * 3, none⟩ = some (.string nm) ∧ v.cell? ⟨ws.heap.size, dd * 3 + 1, none⟩ = some (.bool nb) ∧ v.cell? ⟨ws.heap.size, dd * 3 + 2, none⟩ = some cv) := Lib.hid fun v hv => ⟨blk_cell (hv.blk HSB.out) _ _ g0, blk_cell (hv.blk HSB.out) _ _ g1, blk_cell (hv.blk HSB.out) _ _ g2⟩
          obtain ⟨r, hr⟩ : ∃ r, decide (0 ≤ a ∧ a ≤ Pg.most p.length dd) = r := ⟨_, rfl⟩
          have HR0 := Lib.hid hr
          have HMB : Hid (-10 ≤ Pg.most p.length dd ∧ Pg.most p.length dd ≤ 1000000) := Lib.hid (by
            unfold Pg.most
            split
            · omega
            · split
              · omega
              · split <;> omega)
          have HOKI : Hid (Pg.okI p.length ((dd : Int), a) = r) := Lib.hid (by
            unfold Pg.okI
            rw [← hr]
            congr 1
            simp only [eq_iff_iff]
            omega)
          have i0 : (0 : Int) ≤ (dd : Int) := by omega
          have i1 : (dd : Int) < 7 := by omega
          have j0 : ((dd : Int) < 0) = False := by first | (simp; done) | (simp; omega)
          have j1 : decide ((7 : Int) ≤ (dd : Int)) = false := by first | (simp; done) | (simp; omega)
          clear t1 t2 g0 g1 g2 hcv hr q0 q1
          go_upto_region 12 with fail
          rw [HW3.out]
          refine region_rgx ([(15, (fun u => u = .bool r : Value → Prop), (fun _ _ => True : (Nat → GV) → World → Prop))]) (w3) (by kernel_rfl) (by kernel_rfl) ?_ ?_ ?_
          · exact List.forall_mem_cons.2 ⟨⟨⟨_, rfl⟩, fun _ _ _ _ _ => trivial, fun _ _ _ _ _ => trivial⟩, List.forall_mem_nil _⟩
          · first | assumption | exact Ext.refl _
          refine rg_pure (v := ?_) rfl (by kernel_rfl) (by kernel_rfl) (fun w hS hN => ?_) ?_
          rotate_left 1
          · clear hN
            go_simp
            try simp only [j0, j1]
            refine givesP_mk ?_
            with_reducible rfl
          refine rg_pure (v := ?_) rfl (by kernel_rfl) (by kernel_rfl) (fun w hS hN => ?_) ?_
          rotate_left 1
          · have q0 := blk_cell (hS.blk HQI.out) 0 _ rfl
            clear hN
            go_simp
            try simp only [j0, j1]
            refine givesP_mk ?_
            with_reducible rfl
          refine rg_pure (v := ?_) rfl (by kernel_rfl) (by kernel_rfl) (fun w hS hN => ?_) ?_
          rotate_left 1
          · clear hN
            go_simp
            try simp only [j0, j1]
            refine givesP_mk ?_
            with_reducible rfl
          refine rg_pure (v := ?_) rfl (by kernel_rfl) (by kernel_rfl) (fun w hS hN => ?_) ?_
          rotate_left 1
          · clear hN
            go_simp
            try simp only [j0, j1]
            refine givesP_mk ?_
            with_reducible rfl
          refine rg_pure (v := ?_) rfl (by kernel_rfl) (by kernel_rfl) (fun w hS hN => ?_) ?_
          rotate_left 1
          · clear hN
            go_simp
            try simp only [j0, j1]
            refine givesP_mk ?_
            with_reducible rfl
          refine rg_pure (v := ?_) rfl (by kernel_rfl) (by kernel_rfl) (fun w hS hN => ?_) ?_
          rotate_left 1
          · have q0 := blk_cell (hS.blk HQI.out) 0 _ rfl
            clear hN
            go_simp
            try simp only [j0, j1]
            refine givesP_mk ?_
            with_reducible rfl
          refine rg_pure (v := ?_) rfl (by kernel_rfl) (by kernel_rfl) (fun w hS hN => ?_) ?_
          rotate_left 1
          · clear hN
            go_simp
            try simp only [j0, j1]
            refine givesP_mk ?_
            with_reducible rfl
          refine rg_pure (v := ?_) rfl (by kernel_rfl) (by kernel_rfl) (fun w hS hN => ?_) ?_
          rotate_left 1
          · clear hN
            go_simp
            try simp only [j0, j1]
            refine givesP_mk ?_
            with_reducible rfl
          refine rg_pure (v := ?_) rfl (by kernel_rfl) (by kernel_rfl) (fun w hS hN => ?_) ?_
          rotate_left 1
          · clear hN
            go_simp
            try simp only [j0, j1]
            refine givesP_mk ?_
            with_reducible rfl
          refine rg_pure (v := ?_) rfl (by kernel_rfl) (by kernel_rfl) (fun w hS hN => ?_) ?_
          rotate_left 1
          · clear hN
            go_simp
            try simp only [j0, j1]
            refine givesP_mk ?_
            with_reducible rfl
          refine rg_pure (v := ?_) rfl (by kernel_rfl) (by kernel_rfl) (fun w hS hN => ?_) ?_
          rotate_left 1
          · have q0 := blk_cell (hS.blk HQI.out) 0 _ rfl
            clear hN
            go_simp
            try simp only [j0, j1]
            refine givesP_mk ?_
            with_reducible rfl
          refine rg_pure (v := ?_) rfl (by kernel_rfl) (by kernel_rfl) (fun w hS hN => ?_) ?_
          rotate_left 1
          · clear hN
            go_simp
            try simp only [j0, j1]
            refine givesP_mk ?_
            with_reducible rfl
          refine rg_pure (v := ?_) rfl (by kernel_rfl) (by kernel_rfl) (fun w hS hN => ?_) ?_
          rotate_left 1
          · obtain ⟨x0, x1, x2⟩ := HSC.out w (HX3.out.trans hS)
            clear hN
            go_simp
            try simp only [j0, j1]
            refine givesP_mk ?_
            with_reducible rfl
          refine rg_pure (v := ?_) rfl (by kernel_rfl) (by kernel_rfl) (fun w hS hN => ?_) ?_
          rotate_left 1
          · clear hN
            go_simp
            try simp only [j0, j1]
            refine givesP_mk ?_
            with_reducible rfl
          refine rg_pure (v := ?_) rfl (by kernel_rfl) (by kernel_rfl) (fun w hS hN => ?_) ?_
          rotate_left 1
          · have q1 := blk_cell (hS.blk HQI.out) 1 _ rfl
            clear hN
            go_simp
            try simp only [j0, j1]
            refine givesP_mk ?_
            with_reducible rfl
          refine rg_mem (fun u => u = .bool r : Value → Prop) (fun _ _ => True : (Nat → GV) → World → Prop) (fun _ => Ext) rfl rfl rfl rfl (by kernel_rfl) (by kernel_rfl) (fun w hS hN R hR => ?_) ?_
          · have HR := Lib.hid hR
            clear hR
            (try clear hN)
            go_simp
            refine givesM_call ((shmay_any nm nb cv (Pg.most p.length dd) a w (HCV.out.ext (HX3.out.trans hS)) HMB.out r HR0.out).mono ?_)
            rintro e w' ⟨rfl, hx⟩
            exact ⟨_, rfl, HR.out _ _ rfl trivial hx⟩
          rintro u15 s15 t15 rfl
          refine rg_pure (v := ?_) rfl (by kernel_rfl) (by kernel_rfl) (fun w hS hN => ?_) ?_
          rotate_left 1
          · clear hN
            go_simp
            try simp only [j0, j1]
            refine givesP_mk ?_
            with_reducible rfl
          refine rg_pure (v := ?_) rfl (by kernel_rfl) (by kernel_rfl) (fun w hS hN => ?_) ?_
          rotate_left 1
          · clear hN
            go_simp
            try simp only [j0, j1]
            refine givesP_mk ?_
            with_reducible rfl
          refine rg_done rfl (Nat.le_of_ble_eq_true (by kernel_rfl)) ?_
          intro w8 hS hT
          have HX8 := Lib.hid (HX3.out.trans hS)
          clear hT hS
          go_simp
          cases r with
          | false =>
            have HNO : Hid (Pg.may p = false) := Lib.hid (HNI.out j _ HXX.out HOKI.out)
            go_wp2
            go_ret
            exact ⟨by rw [HNO.out] <;> rfl, HX0.out.trans HX8.out⟩
          | true =>
            go_wp2
            go_roundw
            case rel =>
              refine ⟨j + 1, by omega, by go_num, fun i y hi hij => ?_, HX8.out⟩
              by_cases hij2 : i < j
              · exact HIN.out i y hi hij2
              · obtain rfl : i = j := by omega
                rw [HXX.out] at hi
                injection hi with hi
                rw [← hi]
                exact HOKI.out
            case measure => simp [intOf]; omega
        · obtain rfl : j = l.length := by omega
          have HKC : Hid (Pg.okC p.length l = true) := Lib.hid (HYI.out fun i x hi => HIN.out i x hi (List.getElem?_eq_some_iff.1 hi).1)
          go_wp2
          go_roundw
          case rel =>
            refine ⟨k + 1, by omega, by go_num, fun i y hi hij => ?_, HX.out⟩
            by_cases hij2 : i < k
            · exact HALL.out i y hi hij2
            · obtain rfl : i = k := by omega
              rw [HL.out] at hi
              injection hi with hi
              rw [← hi]
              exact HKC.out
          case measure => simp [intOf]; omega
    · obtain rfl : k = p.length := by omega
      have HY : Hid (Pg.may p = true) := Lib.hid (HOK.out fun j l hj => HALL.out j l hj (List.getElem?_eq_some_iff.1 hj).1)
      go_wp2
      go_ret
      rw [HY.out]
      exact ⟨rfl, HX0.out.trans HX.out⟩
end Go.Proofs.Ytogcfndhcphpaaa
/-
  The program's May of states, III: mayWhole.
-/
set_option linter.unusedVariables false
set_option linter.unusedSimpArgs false
namespace Go.Proofs.Ytogcfndhcphpaaa
open Go.RowKit

theorem whole_eq (s : St) : s.whole = (Pg.may s.prog && wiB s.gs.length 1 1000 && decide (s.ps.length = 8) && decide (s.ms.length ≤ 1000) && wiB s.procs 1 8 && St.low s.clock && decide (Sl.May s.timers)) := by
  unfold St.whole
  rw [Bool.eq_iff_iff]
  simp only [Bool.and_eq_true, decide_eq_true_eq, wiB_iff]
  constructor
  · rintro ⟨⟨⟨a, b1, b2, b3, b4, b5, b6⟩, c⟩, d⟩
    exact ⟨⟨⟨⟨⟨⟨a, by omega, by omega⟩, b3⟩, b6⟩, b4, b5⟩, c⟩, d⟩
  · rintro ⟨⟨⟨⟨⟨⟨a, b1, b2⟩, b3⟩, b6⟩, b4, b5⟩, c⟩, d⟩
    exact ⟨⟨⟨a, by omega, by omega, b3, b4, b5, b6⟩, c⟩, d⟩
def St.okAt (s : St) (j : Nat) : Prop := ∀ c l, s.cnts[j]? = some c → s.wts[j]? = some l → St.okCnt c l = true
theorem St.counts_no {s : St} {j : Nat} {c : Int} {l : List Int} (hc : s.cnts[j]? = some c) (hl : s.wts[j]? = some l) (h : St.okCnt c l = false) : s.counts = false := by
  have hj : j < 4 := by have := (List.getElem?_eq_some_iff.1 hc).1; simpa [St.cnts] using this
  unfold St.counts
  obtain rfl | rfl | rfl | rfl : j = 0 ∨ j = 1 ∨ j = 2 ∨ j = 3 := by omega
  · simp only [St.cnts, St.wts, List.getElem?_cons_zero, Option.some.injEq] at hc hl
    subst hc hl
    rw [h]; simp
  · simp only [St.cnts, St.wts, List.getElem?_cons_zero, List.getElem?_cons_succ, Option.some.injEq] at hc hl
    subst hc hl
    rw [h]; simp
  · simp only [St.cnts, St.wts, List.getElem?_cons_zero, List.getElem?_cons_succ, Option.some.injEq] at hc hl
    subst hc hl
    rw [h]; simp
  · simp only [St.cnts, St.wts, List.getElem?_cons_zero, List.getElem?_cons_succ, Option.some.injEq] at hc hl
    subst hc hl
    rw [h]; simp
theorem St.counts_yes {s : St} (h : ∀ j, j < 4 → s.okAt j) : s.counts = true := by
  unfold St.counts
  rw [h 0 (by omega) _ _ rfl rfl, h 1 (by omega) _ _ rfl rfl, h 2 (by omega) _ _ rfl rfl, h 3 (by omega) _ _ rfl rfl]
  rfl
set_option maxRecDepth 100000 in
set_option maxHeartbeats 16000000 in
theorem smayWhole_any (h : StH) (s : St) (r : Bool) (hr : (s.whole && s.counts) = r) (w : World) (hk : StOk w h s) (hf : StFew s) : Calls Try.prog 43 #[stV h s] w fun e w' => e = .returned (.bool r) ∧ Ext w w' := by
  subst hr
  have f1 := hf.ms
  have f2 := hf.ps
  have f3 := hf.gs
  have f4 := hf.prog.1
  have f5 := hf.timers
  have F2 := Lib.hid hf.w
  have HPM := Lib.hid hf.prog
  have HTN := Lib.hid hf.tnum
  have HK := Lib.hid hk
  obtain ⟨w1, hw1⟩ : ∃ w1, w.alloc (.cells #[.slice h.pa s.prog.length h.pc, .slice h.ga s.gs.length h.gc, .slice h.qa s.ps.length h.qc, .slice h.ma s.ms.length h.mc, .slice h.la s.glob.length h.lc, .int .i64 s.c0, .int .i64 s.c1, .int .i64 s.c2, .int .i64 s.c3, .slice h.a0 s.w0.length h.k0, .slice h.a1 s.w1.length h.k1, .slice h.a2 s.w2.length h.k2, .slice h.a3 s.w3.length h.k3, .slice h.ta s.timers.length h.tc, .int .i64 s.clock, .int .i64 s.procs] 32) = w1 := ⟨_, rfl⟩
  have HX1 : Hid (Ext w w1) := Lib.hid (by rw [← hw1]; exact (Ext.refl w).alloc _)
  have HB1 : Hid (w1.heap[w.heap.size]? = some (.cells (stC h s) 32 (0, 0))) := Lib.hid (by rw [← hw1]; exact blk_new w _)
  have HK1 := Lib.hid (hk.ext HX1.out)
  have HW1 := Lib.hid hw1
  clear hw1 hk
  clear hf
  have HWE := Lib.hid (whole_eq s)
  obtain ⟨bp, hbp⟩ : ∃ bp, Pg.may s.prog = bp := ⟨_, rfl⟩
  have HBP := Lib.hid hbp
  have HPC := Lib.hid (pmay_any _ s.prog bp hbp w1 HK1.out.prog HPM.out.1 HPM.out.2)
  rw [hbp] at HWE
  clear hbp
  have q0 := st0 HB1.out
  unfold stV
  go_enter Try.func43, Try.ntmps43
  go_upto_region 1 with fail
  rw [HW1.out]
  generalize Value.agg #[.slice h.pa s.prog.length h.pc, .slice h.ga s.gs.length h.gc, .slice h.qa s.ps.length h.qc, .slice h.ma s.ms.length h.mc, .slice h.la s.glob.length h.lc, .int .i64 s.c0, .int .i64 s.c1, .int .i64 s.c2, .int .i64 s.c3, .slice h.a0 s.w0.length h.k0, .slice h.a1 s.w1.length h.k1, .slice h.a2 s.w2.length h.k2, .slice h.a3 s.w3.length h.k3, .slice h.ta s.timers.length h.tc, .int .i64 s.clock, .int .i64 s.procs] = sv0
  go_wp2_with fail
  refine HPC.out.mono ?_
  rintro e w3 ⟨rfl, hx3⟩
  have HX3 := Lib.hid hx3
  clear hx3 q0
  have q1 := st1 (HX3.out.blk HB1.out)
  have q2 := st2 (HX3.out.blk HB1.out)
  have q3 := st3 (HX3.out.blk HB1.out)
  have q15 := st15 (HX3.out.blk HB1.out)
  have q14 := st14 (HX3.out.blk HB1.out)
  have q13 := st13 (HX3.out.blk HB1.out)
  cases bp with
  | false =>
    have HNO : Hid ((s.whole && s.counts) = false) := Lib.hid (by rw [HWE.out]; rfl)
    go_wp2
    (go_ret; exact ⟨by rw [HNO.out] <;> rfl, HX1.out.trans HX3.out⟩)
  | true =>
  cases bg : wiB s.gs.length 1 1000 with
  | false =>
    have HNO : Hid ((s.whole && s.counts) = false) := Lib.hid (by rw [HWE.out, bg]; rfl)
    go_wp2_with fail
    refine (swithin_any s.gs.length 1 1000 _).mono ?_
    rintro e w' ⟨rfl, rfl⟩
    go_wp2
    (go_ret; exact ⟨by rw [HNO.out] <;> rfl, HX1.out.trans HX3.out⟩)
  | true =>
  go_wp2_with fail
  refine (swithin_any s.gs.length 1 1000 _).mono ?_
  rintro e w' ⟨rfl, rfl⟩
  by_cases a2 : s.ps.length = 8
  · have a2' : ((s.ps.length : Int) != 8) = false := by simp; omega
    have A2 := Lib.hid a2
    clear a2
    by_cases a3 : s.ms.length ≤ 1000
    · have a3' : (s.ms.length : Int) ≤ 1000 := by omega
      have HWE2 : Hid (s.whole = (wiB s.procs 1 8 && St.low s.clock && decide (Sl.May s.timers))) := Lib.hid (by
        rw [HWE.out, bg, decide_eq_true A2.out, decide_eq_true a3]; rfl)
      clear a3
      cases b4 : wiB s.procs 1 8 with
      | false =>
        have HNO : Hid ((s.whole && s.counts) = false) := Lib.hid (by rw [HWE2.out, b4]; rfl)
        go_wp2_with fail
        refine (swithin_any s.procs 1 8 _).mono ?_
        rintro e w' ⟨rfl, rfl⟩
        go_wp2
        (go_ret; exact ⟨by rw [HNO.out] <;> rfl, HX1.out.trans HX3.out⟩)
      | true =>
      go_wp2_with fail
      refine (swithin_any s.procs 1 8 _).mono ?_
      rintro e w' ⟨rfl, rfl⟩
      cases b5 : St.low s.clock with
      | false =>
        have HNO : Hid ((s.whole && s.counts) = false) := Lib.hid (by rw [HWE2.out, b5, Bool.and_false]; rfl)
        go_wp2_with fail
        refine (smayNumber_any s.clock _).mono ?_
        rintro e w' ⟨rfl, rfl⟩
        go_wp2
        (go_ret; exact ⟨by rw [HNO.out] <;> rfl, HX1.out.trans HX3.out⟩)
      | true =>
      go_wp2_with fail
      refine (smayNumber_any s.clock _).mono ?_
      rintro e w' ⟨rfl, rfl⟩
      have HWE3 : Hid (s.whole = decide (Sl.May s.timers)) := Lib.hid (by rw [HWE2.out, b4, b5]; rfl)
      have HSM := Lib.hid (fun w (hx : Ext w1 w) => smay_any _ s.timers w (HK1.out.timers.ext hx) (by omega) HTN.out)
      obtain ⟨bt, hbt⟩ : ∃ bt, decide (Sl.May s.timers) = bt := ⟨_, rfl⟩
      rw [hbt] at HWE3 HSM
      clear hbt
      go_wp2_with fail
      refine (HSM.out _ HX3.out).mono ?_
      rintro e w4 ⟨rfl, hx4⟩
      have HX4 := Lib.hid (HX3.out.trans hx4)
      clear hx4 q1 q2 q3 q13 q14 q15
      cases bt with
      | false =>
        have HNO : Hid ((s.whole && s.counts) = false) := Lib.hid (by rw [HWE3.out]; rfl)
        go_wp2
        go_ret
        exact ⟨by rw [HNO.out] <;> rfl, HX1.out.trans HX4.out⟩
      | true =>
        have HCO : Hid ((s.whole && s.counts) = s.counts) := Lib.hid (by rw [HWE3.out, Bool.true_and])
        have q5 := st5 (HX4.out.blk HB1.out)
        have q6 := st6 (HX4.out.blk HB1.out)
        have q7 := st7 (HX4.out.blk HB1.out)
        have q8 := st8 (HX4.out.blk HB1.out)
        go_wp2_with fail
        clear q5 q6 q7 q8
        go_loopw [46] (fun iv wr => ∃ k : Nat, k ≤ 4 ∧ iv = .int .i64 k ∧ (∀ j, j < k → s.okAt j) ∧ Ext w1 wr) (fun iv _ => 4 - (intOf iv).toNat)
        case atStart => exact ⟨0, by omega, rfl, fun j h => by omega, HX4.out⟩
        case round =>
          clear HX4
          obtain ⟨k, hk, rfl, hall, hx⟩ := hrel
          have HALL := Lib.hid hall
          have HX4 := Lib.hid hx
          clear hall hx
          by_cases hlt : k < 4
          · obtain ⟨c, hc1, hc2⟩ := stC_cnt (h := h) (s := s) hlt
            obtain ⟨A0, d0, l, hcell, hI, hl⟩ := HK1.out.wait hlt
            have HNK : Hid (St.okCnt c l = false → s.counts = false) := Lib.hid (St.counts_no hc2 hl)
            have HYK : Hid (St.okCnt c l = true → s.okAt k) := Lib.hid fun h c' l' h1 h2 => by rw [hc2] at h1; rw [hl] at h2; injection h1 with h1; injection h2 with h2; subst h1 h2; exact h
            have q9 := blk_cell (HX4.out.blk HB1.out) (9 + k) _ hcell
            have hidx : ∀ w, (Instr.index 28 (.agg #[.int .i64 s.c0, .int .i64 s.c1, .int .i64 s.c2, .int .i64 s.c3]) (.int .i64 (k : Int))).run Try.prog w = .ok (.int .i64 c) w := fun w => by
              obtain rfl | rfl | rfl | rfl : k = 0 ∨ k = 1 ∨ k = 2 ∨ k = 3 := by omega
              · simp only [St.cnts, List.getElem?_cons_zero, Option.some.injEq] at hc2
                rw [← hc2]; kernel_rfl
              · simp only [St.cnts, List.getElem?_cons_zero, List.getElem?_cons_succ, Option.some.injEq] at hc2
                rw [← hc2]; kernel_rfl
              · simp only [St.cnts, List.getElem?_cons_zero, List.getElem?_cons_succ, Option.some.injEq] at hc2
                rw [← hc2]; kernel_rfl
              · simp only [St.cnts, List.getElem?_cons_zero, List.getElem?_cons_succ, Option.some.injEq] at hc2
                rw [← hc2]; kernel_rfl
            have hll := wts_few F2.out hl
            clear hc1 hc2 hl hI hcell
            go_wp2_with fail
            refine (swithin_any c 0 1000000 _).mono ?_
            rintro e w' ⟨rfl, rfl⟩
            cases bc : wiB c 0 1000000 with
            | false =>
              have HNO : Hid ((s.whole && s.counts) = false) := Lib.hid (by
                rw [HCO.out]
                refine HNK.out ?_
                unfold St.okCnt
                rw [decide_eq_false (fun h => by rw [wiB_iff.2 h] at bc; cases bc)]
                rfl)
              go_wp2
              go_ret
              exact ⟨by rw [HNO.out] <;> rfl, HX1.out.trans HX4.out⟩
            | true =>
              have HBC := Lib.hid (wiB_iff.1 bc)
              by_cases c0 : 0 < c
              · by_cases l0 : 0 < l.length
                · have HNO : Hid ((s.whole && s.counts) = false) := Lib.hid (by
                    rw [HCO.out]
                    refine HNK.out ?_
                    unfold St.okCnt
                    rw [decide_eq_true c0, decide_eq_true l0]
                    simp)
                  have l0' : (0 : Int) < (l.length : Int) := by omega
                  go_wp2
                  go_ret
                  exact ⟨by rw [HNO.out] <;> rfl, HX1.out.trans HX4.out⟩
                · have HOKK : Hid (s.okAt k) := Lib.hid (HYK.out (by
                    unfold St.okCnt
                    rw [decide_eq_true (show 0 ≤ c ∧ c ≤ 1000000 from HBC.out), decide_eq_false l0, Bool.and_false]; rfl))
                  obtain rfl : l = [] := by cases l with | nil => rfl | cons a b => simp at l0
                  simp only [List.length_nil] at *
                  go_wp2
                  go_roundw
                  case rel =>
                    refine ⟨k + 1, by omega, by go_num, fun j hj => ?_, HX4.out⟩
                    by_cases hjk : j < k
                    · exact HALL.out j hjk
                    · obtain rfl : j = k := by omega
                      exact HOKK.out
                  case measure => simp [intOf]; omega
              · have HOKK : Hid (s.okAt k) := Lib.hid (HYK.out (by
                  unfold St.okCnt
                  rw [decide_eq_true (show 0 ≤ c ∧ c ≤ 1000000 from HBC.out), decide_eq_false c0]; rfl))
                have c0' : decide (0 < c) = false := by simpa using c0
                clear c0
                go_wp2
                go_roundw
                case rel =>
                  refine ⟨k + 1, by omega, by go_num, fun j hj => ?_, HX4.out⟩
                  by_cases hjk : j < k
                  · exact HALL.out j hjk
                  · obtain rfl : j = k := by omega
                    exact HOKK.out
                case measure => simp [intOf]; omega
          · have HY : Hid ((s.whole && s.counts) = true) := Lib.hid (by rw [HCO.out]; exact St.counts_yes fun j hj => HALL.out j (by omega))
            go_wp2
            go_ret
            exact ⟨by rw [HY.out] <;> rfl, HX1.out.trans HX4.out⟩
    · have HNO : Hid ((s.whole && s.counts) = false) := Lib.hid (by rw [HWE.out, decide_eq_false a3]; simp)
      have a3' : (1000 : Int) < (s.ms.length : Int) := by omega
      go_wp2
      (go_ret; exact ⟨by rw [HNO.out] <;> rfl, HX1.out.trans HX3.out⟩)
  · have HNO : Hid ((s.whole && s.counts) = false) := Lib.hid (by rw [HWE.out, decide_eq_false a2]; simp)
    have a2' : ((s.ps.length : Int) != 8) = true := by simp; omega
    go_wp2
    (go_ret; exact ⟨by rw [HNO.out] <;> rfl, HX1.out.trans HX3.out⟩)
end Go.Proofs.Ytogcfndhcphpaaa
/-
  The program's May of states.
-/
set_option linter.unusedVariables false
set_option linter.unusedSimpArgs false
namespace Go.Proofs.Ytogcfndhcphpaaa
open Go.RowKit

set_option maxRecDepth 100000 in
set_option maxHeartbeats 16000000 in
theorem sstmay_any (h : StH) (s : St) (r : Bool) (hr : s.may = r) (w : World) (hk : StOk w h s) (hf : StFew s) : Calls Try.prog 15 #[stV h s] w fun e w' => e = .returned (.bool r) ∧ Ext w w' := by
  subst hr
  have HF := Lib.hid hf
  have HK := Lib.hid hk
  obtain ⟨w1, hw1⟩ : ∃ w1, w.alloc (.cells #[.slice h.pa s.prog.length h.pc, .slice h.ga s.gs.length h.gc, .slice h.qa s.ps.length h.qc, .slice h.ma s.ms.length h.mc, .slice h.la s.glob.length h.lc, .int .i64 s.c0, .int .i64 s.c1, .int .i64 s.c2, .int .i64 s.c3, .slice h.a0 s.w0.length h.k0, .slice h.a1 s.w1.length h.k1, .slice h.a2 s.w2.length h.k2, .slice h.a3 s.w3.length h.k3, .slice h.ta s.timers.length h.tc, .int .i64 s.clock, .int .i64 s.procs] 32) = w1 := ⟨_, rfl⟩
  have HX1 : Hid (Ext w w1) := Lib.hid (by rw [← hw1]; exact (Ext.refl w).alloc _)
  have HB1 : Hid (w1.heap[w.heap.size]? = some (.cells (stC h s) 32 (0, 0))) := Lib.hid (by rw [← hw1]; exact blk_new w _)
  have HK1 := Lib.hid (hk.ext HX1.out)
  have HW1 := Lib.hid hw1
  clear hw1 hk
  clear hf
  have HE := Lib.hid s.may_eq
  have HLD := Lib.hid HB1.out
  unfold stV
  go_enter Try.func15, Try.ntmps15
  go_upto_region 1 with fail
  rw [HW1.out]
  generalize Value.agg #[.slice h.pa s.prog.length h.pc, .slice h.ga s.gs.length h.gc, .slice h.qa s.ps.length h.qc, .slice h.ma s.ms.length h.mc, .slice h.la s.glob.length h.lc, .int .i64 s.c0, .int .i64 s.c1, .int .i64 s.c2, .int .i64 s.c3, .slice h.a0 s.w0.length h.k0, .slice h.a1 s.w1.length h.k1, .slice h.a2 s.w2.length h.k2, .slice h.a3 s.w3.length h.k3, .slice h.ta s.timers.length h.tc, .int .i64 s.clock, .int .i64 s.procs] = sv0
  go_wp2_with (refine wpList_load_rowW rfl 32 _ rfl w.heap.size rfl (stL h s) (stV h s) rfl _ (range_row HLD.out) Try.underlying32 rfl (by kernel_rfl) ?_)
  refine (smayWhole_any h s _ rfl _ HK1.out HF.out).mono ?_
  rintro e w3 ⟨rfl, hx3⟩
  have HX3 := Lib.hid hx3
  clear HLD
  clear hx3
  cases b1 : (s.whole && s.counts) with
  | false =>
    have HNO : Hid (s.may = false) := Lib.hid (by rw [← HE.out, b1]; rfl)
    go_wp2
    (go_ret; exact ⟨by rw [HNO.out] <;> rfl, HX1.out.trans HX3.out⟩)
  | true =>
  have HLD := Lib.hid (HX3.out.blk HB1.out)
  go_wp2_with (refine wpList_load_rowW rfl 32 _ rfl w.heap.size rfl (stL h s) (stV h s) rfl _ (range_row HLD.out) Try.underlying32 rfl (by kernel_rfl) ?_)
  refine (smayGs_any h s _ rfl _ (HK1.out.ext HX3.out) HF.out).mono ?_
  rintro e w4 ⟨rfl, hx4⟩
  have HX4 := Lib.hid (HX3.out.trans hx4)
  clear HLD
  clear hx4 HX3
  have HX3 := Lib.hid HX4.out
  cases b2 : s.gs.all s.pGood with
  | false =>
    have HNO : Hid (s.may = false) := Lib.hid (by rw [← HE.out, b1, b2]; rfl)
    go_wp2
    (go_ret; exact ⟨by rw [HNO.out] <;> rfl, HX1.out.trans HX3.out⟩)
  | true =>
  have HLD := Lib.hid (HX3.out.blk HB1.out)
  go_wp2_with (refine wpList_load_rowW rfl 32 _ rfl w.heap.size rfl (stL h s) (stV h s) rfl _ (range_row HLD.out) Try.underlying32 rfl (by kernel_rfl) ?_)
  refine (smayPs_any h s _ rfl _ (HK1.out.ext HX3.out) HF.out).mono ?_
  rintro e w5 ⟨rfl, hx5⟩
  have HX5 := Lib.hid (HX3.out.trans hx5)
  clear HLD
  clear hx5 HX3 HX4
  have HX3 := Lib.hid HX5.out
  cases b3 : allIx s.holdP 0 s.ps with
  | false =>
    have HNO : Hid (s.may = false) := Lib.hid (by rw [← HE.out, b1, b2, b3]; rfl)
    go_wp2
    (go_ret; exact ⟨by rw [HNO.out] <;> rfl, HX1.out.trans HX3.out⟩)
  | true =>
  have HLD := Lib.hid (HX3.out.blk HB1.out)
  go_wp2_with (refine wpList_load_rowW rfl 32 _ rfl w.heap.size rfl (stL h s) (stV h s) rfl _ (range_row HLD.out) Try.underlying32 rfl (by kernel_rfl) ?_)
  refine (smayMs_any h s _ rfl _ (HK1.out.ext HX3.out) HF.out).mono ?_
  rintro e w6 ⟨rfl, hx6⟩
  have HX6 := Lib.hid (HX3.out.trans hx6)
  clear HLD
  clear hx6 HX3 HX5
  have HX3 := Lib.hid HX6.out
  cases b4 : allIx s.holdM 0 s.ms with
  | false =>
    have HNO : Hid (s.may = false) := Lib.hid (by rw [← HE.out, b1, b2, b3, b4]; rfl)
    go_wp2
    (go_ret; exact ⟨by rw [HNO.out] <;> rfl, HX1.out.trans HX3.out⟩)
  | true =>
  have HP : Hid (s.places = s.may) := Lib.hid (by rw [← HE.out, b1, b2, b3, b4]; rfl)
  have HLD := Lib.hid (HX3.out.blk HB1.out)
  go_wp2_with (refine wpList_load_rowW rfl 32 _ rfl w.heap.size rfl (stL h s) (stV h s) rfl _ (range_row HLD.out) Try.underlying32 rfl (by kernel_rfl) ?_)
  refine (smayPlaces_any h s _ HP.out _ (HK1.out.ext HX3.out) HF.out).mono ?_
  rintro e w7 ⟨rfl, hx7⟩
  have HX7 := Lib.hid (HX3.out.trans hx7)
  clear HLD
  clear hx7
  go_wp2
  go_ret
  exact ⟨rfl, HX1.out.trans HX7.out⟩
end Go.Proofs.Ytogcfndhcphpaaa
/-
  The program's Queue of states; whether a number is one of some.
-/
set_option linter.unusedVariables false
set_option linter.unusedSimpArgs false
namespace Go.Proofs.Ytogcfndhcphpaaa
open Go.RowKit

set_option maxRecDepth 100000 in
set_option maxHeartbeats 1000000 in
theorem sindex_any (v : Value) (l : List Int) (n : Int) (w : World) (h : IntsAt w v l) (hl : l.length ≤ 100000000) : Calls Try.prog 130 #[v, .int .i64 n] w fun e w' => ∃ i : Int, e = .returned (.int .i64 i) ∧ decide (0 ≤ i) = decide (n ∈ l) ∧ w' = w := by
  have H := Lib.hid h
  obtain ⟨A, c, rfl, -⟩ := h
  have hl' : (l.length : Int) ≤ 100000000 := by omega
  go_enter Try.func130, Try.ntmps130
  go_wp2
  go_loop [8] (fun i => ∃ k : Nat, k ≤ l.length ∧ i = .int .i64 k ∧ ∀ (j : Nat) x, l[j]? = some x → j < k → x ≠ n) (fun i => l.length - (intOf i).toNat)
  case atStart => exact ⟨0, Nat.zero_le _, rfl, fun j x _ h => by omega⟩
  case round =>
    obtain ⟨k, hk, rfl, hall⟩ := hrel
    have HA := Lib.hid hall
    clear hall
    by_cases hlt : k < l.length
    · obtain ⟨x, hx⟩ : ∃ x, l[k]? = some x := ⟨_, List.getElem?_eq_getElem hlt⟩
      have HX := Lib.hid hx
      obtain ⟨b, o, rfl, hb, hc⟩ := ints_get H.out hx
      clear hx hb
      by_cases h1 : n = x
      · have HN : Hid (n ∈ l) := Lib.hid (by rw [h1]; exact List.mem_of_getElem? HX.out)
        have h1' : (n == x) = true := by simpa using h1
        clear h1
        go_wp2
        go_ret
        exact ⟨k, rfl, iff_of_true (by omega) HN.out, rfl⟩
      · have h1' : (n == x) = false := by simpa using h1
        have HN := Lib.hid h1
        clear h1
        go_wp2
        go_round
        case rel =>
          refine ⟨k + 1, by omega, by go_num, fun j y hy hj => ?_⟩
          by_cases hjk : j < k
          · exact HA.out j y hy hjk
          · obtain rfl : j = k := by omega
            have := HX.out
            rw [hy] at this
            injection this with this
            rw [this]
            exact fun e => HN.out e.symm
        case measure => simp [intOf]; omega
    · obtain rfl : k = l.length := by omega
      have HY : Hid (n ∉ l) := Lib.hid fun hm => by
        obtain ⟨j, hj⟩ := List.mem_iff_getElem?.1 hm
        exact HA.out j n hj (List.getElem?_eq_some_iff.1 hj).1 rfl
      go_wp2
      go_ret
      exact ⟨-1, rfl, iff_of_false (by omega) HY.out, rfl⟩
set_option maxHeartbeats 1000000 in
theorem scontains_any (v : Value) (l : List Int) (n : Int) (r : Bool) (hr : decide (n ∈ l) = r) (w : World) (h : IntsAt w v l) (hl : l.length ≤ 100000000) : Calls Try.prog 123 #[v, .int .i64 n] w fun e w' => e = .returned (.bool r) ∧ w' = w := by
  have HS := Lib.hid (sindex_any v l n w h hl)
  obtain ⟨A, c, rfl, -⟩ := h
  go_enter Try.func123, Try.ntmps123
  go_wp2_with fail
  refine HS.out.mono ?_
  rintro e w' ⟨i, rfl, hi, rfl⟩
  rw [hr] at hi
  go_wp2
  go_ret
  exact ⟨by rw [← hi] <;> rfl, rfl⟩
/-- A P's queue, of a state that may be. -/
def St.queue (s : St) (p : Int) : List Int := if 1 ≤ p ∧ p ≤ s.procs ∧ s.may = true then St.queueOf (s.ps.getD (p - 1).toNat St.nilP) else []
theorem St.queue_no {s : St} {p : Int} (h : ¬ (1 ≤ p ∧ p ≤ s.procs ∧ s.may = true)) : s.queue p = [] := if_neg h
theorem St.may_procs {s : St} (h : s.may = true) : s.ps.length = 8 ∧ 1 ≤ s.procs ∧ s.procs ≤ 8 := by
  unfold St.may St.whole at h
  simp only [Bool.and_eq_true, decide_eq_true_eq] at h
  obtain ⟨⟨⟨⟨⟨⟨⟨⟨-, h⟩, -⟩, -⟩, -⟩, -⟩, -⟩, -⟩, -⟩ := h
  exact ⟨h.2.2.1, h.2.2.2.1, h.2.2.2.2.1⟩
theorem St.queue_yes {s : St} {j : Nat} {p : Pr} (h1 : (j : Int) + 1 ≤ s.procs) (h2 : s.may = true) (hp : s.ps[j]? = some p) : s.queue ((j : Int) + 1) = St.queueOf p := by
  unfold St.queue
  rw [if_pos ⟨by omega, h1, h2⟩, show ((j : Int) + 1 - 1).toNat = j by omega, List.getD, hp]
  rfl
set_option maxRecDepth 100000 in
set_option maxHeartbeats 2000000 in
theorem sQueue_any (h : StH) (s : St) (p : Int) (q : List Int) (hq : s.queue p = q) (w : World) (hk : StOk w h s) (hf : StFew s) : Calls Try.prog 40 #[stV h s, .int .i64 p] w (IntsP q w) := by
  have HF := Lib.hid hf
  have f1 := hf.ps
  have HK := Lib.hid hk
  obtain ⟨w1, hw1⟩ : ∃ w1, w.alloc (.cells #[.slice h.pa s.prog.length h.pc, .slice h.ga s.gs.length h.gc, .slice h.qa s.ps.length h.qc, .slice h.ma s.ms.length h.mc, .slice h.la s.glob.length h.lc, .int .i64 s.c0, .int .i64 s.c1, .int .i64 s.c2, .int .i64 s.c3, .slice h.a0 s.w0.length h.k0, .slice h.a1 s.w1.length h.k1, .slice h.a2 s.w2.length h.k2, .slice h.a3 s.w3.length h.k3, .slice h.ta s.timers.length h.tc, .int .i64 s.clock, .int .i64 s.procs] 32) = w1 := ⟨_, rfl⟩
  have HX1 : Hid (Ext w w1) := Lib.hid (by rw [← hw1]; exact (Ext.refl w).alloc _)
  have HB1 : Hid (w1.heap[w.heap.size]? = some (.cells (stC h s) 32 (0, 0))) := Lib.hid (by rw [← hw1]; exact blk_new w _)
  have HK1 := Lib.hid (hk.ext HX1.out)
  have HW1 := Lib.hid hw1
  clear hw1 hk
  clear hf
  have HQ := Lib.hid hq
  have HQN : Hid (¬ (1 ≤ p ∧ p ≤ s.procs ∧ s.may = true) → ∀ w', Ext w1 w' → IntsP q w (.returned (.slice none 0 0)) w') := Lib.hid fun hn w' hx => by
    rw [St.queue_no hn] at hq
    subst hq
    exact IntsP.mk' (OwnInts.nil _ _) (Nat.le_refl _) (HX1.out.trans hx)
  clear hq
  have HLD := Lib.hid HB1.out
  have q15 := st15 HB1.out
  unfold stV
  go_enter Try.func40, Try.ntmps40
  go_upto_region 1 with fail
  rw [HW1.out]
  generalize Value.agg #[.slice h.pa s.prog.length h.pc, .slice h.ga s.gs.length h.gc, .slice h.qa s.ps.length h.qc, .slice h.ma s.ms.length h.mc, .slice h.la s.glob.length h.lc, .int .i64 s.c0, .int .i64 s.c1, .int .i64 s.c2, .int .i64 s.c3, .slice h.a0 s.w0.length h.k0, .slice h.a1 s.w1.length h.k1, .slice h.a2 s.w2.length h.k2, .slice h.a3 s.w3.length h.k3, .slice h.ta s.timers.length h.tc, .int .i64 s.clock, .int .i64 s.procs] = sv0
  by_cases a1 : p < 1
  · have HE := Lib.hid (HQN.out (fun h => by omega) w1 (Ext.refl _))
    go_wp2
    go_ret
    exact HE.out
  by_cases a2 : s.procs < p
  · have HE := Lib.hid (HQN.out (fun h => by omega) w1 (Ext.refl _))
    go_wp2
    go_ret
    exact HE.out
  go_wp2_with (refine wpList_load_rowW rfl 32 _ rfl w.heap.size rfl (stL h s) (stV h s) rfl _ (range_row HLD.out) Try.underlying32 rfl (by kernel_rfl) ?_)
  refine (sstmay_any h s _ rfl _ HK1.out HF.out).mono ?_
  rintro e w3 ⟨rfl, hx3⟩
  have HX3 := Lib.hid hx3
  clear hx3 q15 HLD
  cases bm : s.may with
  | false =>
    have HE := Lib.hid (HQN.out (fun h => by rw [bm] at h; exact absurd h.2.2 (by simp)) w3 HX3.out)
    go_wp2
    go_ret
    exact HE.out
  | true =>
    have hps := St.may_procs bm
    obtain ⟨j, rfl⟩ : ∃ j : Nat, p = (j : Int) + 1 := ⟨(p - 1).toNat, by omega⟩
    obtain ⟨x, hp⟩ : ∃ x, s.ps[j]? = some x := ⟨_, List.getElem?_eq_getElem (by omega)⟩
    obtain ⟨m, nx, r, sq⟩ := x
    obtain ⟨b0, b1, b2, b3, b4, b5, b6, b7, hd, nn, rfl⟩ := Ri.open8 (HK.out.buf _ (List.mem_of_getElem? hp))
    have HQY : Hid (St.queueOf ⟨m, nx, ⟨[b0, b1, b2, b3, b4, b5, b6, b7], hd, nn⟩, sq⟩ = q) := Lib.hid (by rw [← HQ.out]; exact (St.queue_yes (by omega) bm hp).symm)
    obtain ⟨b, o, hA, hb, hc⟩ := ps_get (HK1.out.ext HX3.out).ps hp
    obtain ⟨⟨p0, p1, p2, p3, p4, p5, p6⟩, p7, p8, p9, p10, p11, p12⟩ := hc
    have e1 : (j : Int) + 1 - 1 = (j : Int) := by omega
    have e4 : (j : Int) < (s.ps.length : Int) := by omega
    have q2 := st2 (HX3.out.blk HB1.out)
    clear hps hp hb a1 a2
    go_wp2_with fail
    refine (squeue_any m nx b0 b1 b2 b3 b4 b5 b6 b7 hd nn sq w3).mono ?_
    rintro e w5 he
    rw [HQY.out] at he
    obtain ⟨A3, c3, rfl, ho3, hx3⟩ := he
    have HE : Hid (IntsP q w (.returned (.slice A3 q.length c3)) w5) := Lib.hid (IntsP.mk' ho3 (by have := HX1.out.size; have := HX3.out.size; omega) (HX1.out.trans (HX3.out.trans hx3)))
    clear p0 p1 p2 p3 p4 p5 p6 p7 p8 p9 p10 p11 p12
    go_wp2
    go_ret
    exact HE.out
end Go.Proofs.Ytogcfndhcphpaaa
