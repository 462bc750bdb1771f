/-
  The contract of the document's Same, of snaps: the loops.
-/
import Derived.Test.YthkogcgdikgkaaaMj
set_option linter.unusedVariables false
set_option linter.unusedSimpArgs false
namespace Go.Proofs.Ythkogcgdikgkaaa
open Go.RowKit Go.Maps

set_option maxRecDepth 100000 in
set_option maxHeartbeats 1000000 in
theorem rsnsame_in (time : Int) (ps qs : List (Int × Int)) (gs hs : List Gs4) (A B A' B' : Option Addr) (c d c' d' : Nat) (w : World) (hp1 : ps.length = qs.length) (hg1 : gs.length = hs.length)
    (h1 : RowsAt 2 snPCells w (.slice A ps.length c) ps) (h2 : RowsAt 2 snPCells w (.slice A' qs.length c') qs) (h3 : RowsAt 4 snGCells w (.slice B gs.length d) gs) (h4 : RowsAt 4 snGCells w (.slice B' hs.length d') hs) (r : Bool) (hr : decide (ps = qs ∧ gs = hs) = r) (hsml : ps.length ≤ 10000) (hsmg : gs.length ≤ 10000) :
    Calls Try.prog 16 #[.agg #[.int .i64 time, .slice A ps.length c, .slice B gs.length d], .agg #[.int .i64 time, .slice A' qs.length c', .slice B' hs.length d']] w fun e w' => e = .returned (.bool r) ∧ Ext w w' := by
  obtain ⟨_, _, hv, _, hA⟩ := h1
  simp only [Value.slice.injEq, true_and] at hv
  obtain ⟨rfl, rfl⟩ := hv
  obtain ⟨_, _, hv, _, hA'⟩ := h2
  simp only [Value.slice.injEq, true_and] at hv
  obtain ⟨rfl, rfl⟩ := hv
  obtain ⟨_, _, hv, _, hD⟩ := h3
  simp only [Value.slice.injEq, true_and] at hv
  obtain ⟨rfl, rfl⟩ := hv
  obtain ⟨_, _, hv, _, hD'⟩ := h4
  simp only [Value.slice.injEq, true_and] at hv
  obtain ⟨rfl, rfl⟩ := hv
  have HD := Lib.hid hD
  have HD' := Lib.hid hD'
  have HG1 := Lib.hid hg1
  have HA := Lib.hid hA
  have HA' := Lib.hid hA'
  have HR := Lib.hid hr
  have HP1 := Lib.hid hp1
  have HBX := Lib.hid (blk_alloc (blk_new w (.cells #[.int .i64 time, .slice A ps.length c, .slice B gs.length d] 25)) (.cells #[.int .i64 time, .slice A' qs.length c', .slice B' hs.length d'] 25))
  have HBY : Hid (((w.alloc (.cells #[.int .i64 time, .slice A ps.length c, .slice B gs.length d] 25)).alloc (.cells #[.int .i64 time, .slice A' qs.length c', .slice B' hs.length d'] 25)).heap[w.heap.size + 1]? = some (.cells #[.int .i64 time, .slice A' qs.length c', .slice B' hs.length d'] 25 (0, 0))) := Lib.hid (by have := blk_new (w.alloc (.cells #[.int .i64 time, .slice A ps.length c, .slice B gs.length d] 25)) (.cells #[.int .i64 time, .slice A' qs.length c', .slice B' hs.length d'] 25); rwa [World.size_alloc] at this)
  have HX0 : Hid (Ext w ((w.alloc (.cells #[.int .i64 time, .slice A ps.length c, .slice B gs.length d] 25)).alloc (.cells #[.int .i64 time, .slice A' qs.length c', .slice B' hs.length d'] 25))) := Lib.hid (((Ext.refl w).alloc _).alloc _)
  have e2 : ((ps.length : Int) != (qs.length : Int)) = false := by simp; omega
  have e3 : ((gs.length : Int) != (hs.length : Int)) = false := by simp; omega
  clear hA hA' hD hD' hr hp1 hg1
  go_enter Try.func16, Try.ntmps16
  go_wp2
  generalize hw2 : (w.alloc (.cells #[.int .i64 time, .slice A ps.length c, .slice B gs.length d] 25)).alloc (.cells #[.int .i64 time, .slice A' qs.length c', .slice B' hs.length d'] 25) = w2 at *
  clear hw2
  go_loopw [5] (fun iv wr => ∃ k : Nat, k ≤ ps.length ∧ iv = .int .i64 k ∧ Hid (ps.take k = qs.take k) ∧ Ext w2 wr) (fun iv _ => ps.length - (intOf iv).toNat)
  case atStart => exact ⟨0, by omega, rfl, Lib.hid (by simp), Ext.refl _⟩
  case round =>
    obtain ⟨k, hk, rfl, HEQ, hx⟩ := hrel
    have HX := Lib.hid hx
    have p1 := blk_cell (hx.blk HBX.out) 1 (.slice A ps.length c) rfl
    clear hx
    by_cases hlt : k < ps.length
    · have hlt2 : k < qs.length := by have := HP1.out; omega
      obtain ⟨bb, o, rfl, hbb, hcell⟩ := HA.out (by omega)
      obtain ⟨bb', o', rfl, hbb', hcell'⟩ := HA'.out (by omega)
      have h0 := hcell k ps[k] (List.getElem?_eq_getElem hlt)
      have h0' := hcell' k qs[k] (List.getElem?_eq_getElem hlt2)
      have HT : Hid (ps.take (k + 1) = ps.take k ++ [ps[k]]) := Lib.hid (by rw [List.take_succ_eq_append_getElem hlt])
      have HT' : Hid (qs.take (k + 1) = qs.take k ++ [qs[k]]) := Lib.hid (by rw [List.take_succ_eq_append_getElem hlt2])
      have HNE : Hid (ps[k] ≠ qs[k] → r = false) := Lib.hid fun hne => by
        rw [← HR.out]
        exact decide_eq_false fun hh => hne (by
          have h3 := congrArg (·[k]?) hh.1
          simp only [List.getElem?_eq_getElem hlt, List.getElem?_eq_getElem hlt2, Option.some.injEq] at h3
          exact h3)
      generalize ps[k] = x at *
      generalize qs[k] = y at *
      obtain ⟨x0, x1⟩ := x
      obtain ⟨y0, y1⟩ := y
      have HC : Hid (∀ v, Ext wr v → v.cell? ⟨bb, o + k * 2, none⟩ = some (.int .i64 x0) ∧ v.cell? ⟨bb, o + k * 2 + 1, none⟩ = some (.int .i64 x1)) := Lib.hid fun v hv => by
        have hxx := HX0.out.trans (HX.out.trans hv)
        exact ⟨by rw [Below.cell hxx hbb]; exact h0 0 _ rfl, by rw [Below.cell hxx hbb]; exact h0 1 _ rfl⟩
      have HC' : Hid (∀ v, Ext wr v → v.cell? ⟨bb', o' + k * 2, none⟩ = some (.int .i64 y0) ∧ v.cell? ⟨bb', o' + k * 2 + 1, none⟩ = some (.int .i64 y1)) := Lib.hid fun v hv => by
        have hxx := HX0.out.trans (HX.out.trans hv)
        exact ⟨by rw [Below.cell hxx hbb']; exact h0' 0 _ rfl, by rw [Below.cell hxx hbb']; exact h0' 1 _ rfl⟩
      have i0 : (0 : Int) ≤ (k : Int) := by omega
      have i1 : (k : Int) < (ps.length : Int) := by omega
      have i2 : (k : Int) < (qs.length : Int) := by omega
      clear hcell hcell' h0 h0'
      by_cases hxy : x0 = y0 ∧ x1 = y1
      · have hq : ∀ w, (Op.equalIn 10000 46 (.agg #[.int .i64 x0, .int .i64 x1]) (.agg #[.int .i64 y0, .int .i64 y1])).run Try.prog w = .ok true w := fun w => by have := run_eqP x0 x1 y0 y1 w; rw [decide_eq_true (by simp [hxy])] at this; exact this
        have HEN : Hid (ps.take (k + 1) = qs.take (k + 1)) := Lib.hid (by rw [HT.out, HT'.out, HEQ.out, hxy.1, hxy.2])
        clear hxy
        go_wp2
        clear p1
        refine region_rgx ([]) (wr) (by kernel_rfl) (by kernel_rfl) ?_ ?_ ?_
        · exact List.forall_mem_nil _
        · first | assumption | exact Ext.refl _
        refine rg_pure (v := ?_) rfl (by kernel_rfl) (by kernel_rfl) (fun w hS hN => ?_) ?_
        rotate_left 1
        · clear hN
          go_simp
          refine givesP_mk ?_
          with_reducible rfl
        refine rg_pure (v := ?_) rfl (by kernel_rfl) (by kernel_rfl) (fun w hS hN => ?_) ?_
        rotate_left 1
        · have k1 := blk_cell ((HX.out.trans hS).blk HBX.out) 1 (.slice (some ⟨bb, o, none⟩) ps.length c) rfl
          clear hN
          go_simp
          refine givesP_mk ?_
          with_reducible rfl
        refine rg_pure (v := ?_) rfl (by kernel_rfl) (by kernel_rfl) (fun w hS hN => ?_) ?_
        rotate_left 1
        · clear hN
          go_simp
          refine givesP_mk ?_
          with_reducible rfl
        refine rg_pure (v := ?_) rfl (by kernel_rfl) (by kernel_rfl) (fun w hS hN => ?_) ?_
        rotate_left 1
        · clear hN
          go_simp
          refine givesP_mk ?_
          with_reducible rfl
        refine rg_pure (v := ?_) rfl (by kernel_rfl) (by kernel_rfl) (fun w hS hN => ?_) ?_
        rotate_left 1
        · obtain ⟨k1, k2⟩ := HC.out w hS
          clear hN
          go_simp
          refine givesP_mk ?_
          with_reducible rfl
        refine rg_pure (v := ?_) rfl (by kernel_rfl) (by kernel_rfl) (fun w hS hN => ?_) ?_
        rotate_left 1
        · clear hN
          go_simp
          refine givesP_mk ?_
          with_reducible rfl
        refine rg_pure (v := ?_) rfl (by kernel_rfl) (by kernel_rfl) (fun w hS hN => ?_) ?_
        rotate_left 1
        · have k1 := blk_cell ((HX.out.trans hS).blk HBY.out) 1 (.slice (some ⟨bb', o', none⟩) qs.length c') rfl
          clear hN
          go_simp
          refine givesP_mk ?_
          with_reducible rfl
        refine rg_pure (v := ?_) rfl (by kernel_rfl) (by kernel_rfl) (fun w hS hN => ?_) ?_
        rotate_left 1
        · clear hN
          go_simp
          refine givesP_mk ?_
          with_reducible rfl
        refine rg_pure (v := ?_) rfl (by kernel_rfl) (by kernel_rfl) (fun w hS hN => ?_) ?_
        rotate_left 1
        · clear hN
          go_simp
          refine givesP_mk ?_
          with_reducible rfl
        refine rg_pure (v := ?_) rfl (by kernel_rfl) (by kernel_rfl) (fun w hS hN => ?_) ?_
        rotate_left 1
        · obtain ⟨k1, k2⟩ := HC'.out w hS
          clear hN
          go_simp
          refine givesP_mk ?_
          with_reducible rfl
        refine rg_pure (v := ?_) rfl (by kernel_rfl) (by kernel_rfl) (fun w hS hN => ?_) ?_
        rotate_left 1
        · clear hN
          go_simp
          refine givesP_mk ?_
          with_reducible rfl
        refine rg_done rfl (Nat.le_of_ble_eq_true (by kernel_rfl)) ?_
        intro w8 hS hT
        have HX8 := Lib.hid (HX.out.trans hS)
        clear hT hS hq
        go_simp
        go_wp2
        go_roundw
        case rel => exact ⟨k + 1, by omega, by go_num, HEN, HX8.out⟩
        case measure => simp [intOf]; omega
      · have hq : ∀ w, (Op.equalIn 10000 46 (.agg #[.int .i64 x0, .int .i64 x1]) (.agg #[.int .i64 y0, .int .i64 y1])).run Try.prog w = .ok false w := fun w => by have := run_eqP x0 x1 y0 y1 w; rw [decide_eq_false (by simp only [List.cons.injEq, and_true]; exact hxy)] at this; exact this
        obtain rfl := HNE.out (by simp only [ne_eq, Prod.mk.injEq]; exact hxy)
        clear hxy
        go_wp2
        clear p1
        refine region_rgx ([]) (wr) (by kernel_rfl) (by kernel_rfl) ?_ ?_ ?_
        · exact List.forall_mem_nil _
        · first | assumption | exact Ext.refl _
        refine rg_pure (v := ?_) rfl (by kernel_rfl) (by kernel_rfl) (fun w hS hN => ?_) ?_
        rotate_left 1
        · clear hN
          go_simp
          refine givesP_mk ?_
          with_reducible rfl
        refine rg_pure (v := ?_) rfl (by kernel_rfl) (by kernel_rfl) (fun w hS hN => ?_) ?_
        rotate_left 1
        · have k1 := blk_cell ((HX.out.trans hS).blk HBX.out) 1 (.slice (some ⟨bb, o, none⟩) ps.length c) rfl
          clear hN
          go_simp
          refine givesP_mk ?_
          with_reducible rfl
        refine rg_pure (v := ?_) rfl (by kernel_rfl) (by kernel_rfl) (fun w hS hN => ?_) ?_
        rotate_left 1
        · clear hN
          go_simp
          refine givesP_mk ?_
          with_reducible rfl
        refine rg_pure (v := ?_) rfl (by kernel_rfl) (by kernel_rfl) (fun w hS hN => ?_) ?_
        rotate_left 1
        · clear hN
          go_simp
          refine givesP_mk ?_
          with_reducible rfl
        refine rg_pure (v := ?_) rfl (by kernel_rfl) (by kernel_rfl) (fun w hS hN => ?_) ?_
        rotate_left 1
        · obtain ⟨k1, k2⟩ := HC.out w hS
          clear hN
          go_simp
          refine givesP_mk ?_
          with_reducible rfl
        refine rg_pure (v := ?_) rfl (by kernel_rfl) (by kernel_rfl) (fun w hS hN => ?_) ?_
        rotate_left 1
        · clear hN
          go_simp
          refine givesP_mk ?_
          with_reducible rfl
        refine rg_pure (v := ?_) rfl (by kernel_rfl) (by kernel_rfl) (fun w hS hN => ?_) ?_
        rotate_left 1
        · have k1 := blk_cell ((HX.out.trans hS).blk HBY.out) 1 (.slice (some ⟨bb', o', none⟩) qs.length c') rfl
          clear hN
          go_simp
          refine givesP_mk ?_
          with_reducible rfl
        refine rg_pure (v := ?_) rfl (by kernel_rfl) (by kernel_rfl) (fun w hS hN => ?_) ?_
        rotate_left 1
        · clear hN
          go_simp
          refine givesP_mk ?_
          with_reducible rfl
        refine rg_pure (v := ?_) rfl (by kernel_rfl) (by kernel_rfl) (fun w hS hN => ?_) ?_
        rotate_left 1
        · clear hN
          go_simp
          refine givesP_mk ?_
          with_reducible rfl
        refine rg_pure (v := ?_) rfl (by kernel_rfl) (by kernel_rfl) (fun w hS hN => ?_) ?_
        rotate_left 1
        · obtain ⟨k1, k2⟩ := HC'.out w hS
          clear hN
          go_simp
          refine givesP_mk ?_
          with_reducible rfl
        refine rg_pure (v := ?_) rfl (by kernel_rfl) (by kernel_rfl) (fun w hS hN => ?_) ?_
        rotate_left 1
        · clear hN
          go_simp
          refine givesP_mk ?_
          with_reducible rfl
        refine rg_done rfl (Nat.le_of_ble_eq_true (by kernel_rfl)) ?_
        intro w8 hS hT
        have HX8 := Lib.hid (HX.out.trans hS)
        clear hT hS hq
        go_simp
        go_wp2
        go_ret
        exact ⟨rfl, HX0.out.trans HX8.out⟩
    · obtain rfl : k = ps.length := by omega
      have HPQ : Hid (ps = qs) := Lib.hid (by have h1 := HEQ.out; rw [List.take_length, HP1.out, List.take_length] at h1; exact h1)
      have HR2 : Hid (decide (gs = hs) = r) := Lib.hid (by rw [← HR.out]; congr 1; simp [HPQ.out])
      go_wp2
      clear p1
      go_loopw [6] (fun iv wz => ∃ k : Nat, k ≤ gs.length ∧ iv = .int .i64 k ∧ Hid (gs.take k = hs.take k) ∧ Ext w2 wz) (fun iv _ => gs.length - (intOf iv).toNat)
      case atStart => exact ⟨0, by omega, rfl, Lib.hid (by simp), HX.out⟩
      case round =>
        clear HX HEQ
        obtain ⟨k, hk, rfl, HEQ, hx⟩ := hrel
        have HX := Lib.hid hx
        have p2 := blk_cell (hx.blk HBX.out) 2 (.slice B gs.length d) rfl
        clear hx
        by_cases hlt : k < gs.length
        · have hlt2 : k < hs.length := by have := HG1.out; omega
          obtain ⟨bb, o, rfl, hbb, hcell⟩ := HD.out (by omega)
          obtain ⟨bb', o', rfl, hbb', hcell'⟩ := HD'.out (by omega)
          have h0 := hcell k gs[k] (List.getElem?_eq_getElem hlt)
          have h0' := hcell' k hs[k] (List.getElem?_eq_getElem hlt2)
          have HT : Hid (gs.take (k + 1) = gs.take k ++ [gs[k]]) := Lib.hid (by rw [List.take_succ_eq_append_getElem hlt])
          have HT' : Hid (hs.take (k + 1) = hs.take k ++ [hs[k]]) := Lib.hid (by rw [List.take_succ_eq_append_getElem hlt2])
          have HNE : Hid (gs[k] ≠ hs[k] → r = false) := Lib.hid fun hne => by
            rw [← HR2.out]
            exact decide_eq_false fun hh => hne (by
              have h3 := congrArg (·[k]?) hh
              simp only [List.getElem?_eq_getElem hlt, List.getElem?_eq_getElem hlt2, Option.some.injEq] at h3
              exact h3)
          generalize gs[k] = x at *
          generalize hs[k] = y at *
          obtain ⟨x0, x1, x2, x3⟩ := x
          obtain ⟨y0, y1, y2, y3⟩ := y
          have HC : Hid (∀ v, Ext wr v → v.cell? ⟨bb, o + k * 4, none⟩ = some (.int .i64 x0) ∧ v.cell? ⟨bb, o + k * 4 + 1, none⟩ = some (.int .i64 x1) ∧ v.cell? ⟨bb, o + k * 4 + 2, none⟩ = some (.int .i64 x2) ∧ v.cell? ⟨bb, o + k * 4 + 3, none⟩ = some (.int .i64 x3)) := Lib.hid fun v hv => by
            have hxx := HX0.out.trans (HX.out.trans hv)
            exact ⟨by rw [Below.cell hxx hbb]; exact h0 0 _ rfl, by rw [Below.cell hxx hbb]; exact h0 1 _ rfl, by rw [Below.cell hxx hbb]; exact h0 2 _ rfl, by rw [Below.cell hxx hbb]; exact h0 3 _ rfl⟩
          have HC' : Hid (∀ v, Ext wr v → v.cell? ⟨bb', o' + k * 4, none⟩ = some (.int .i64 y0) ∧ v.cell? ⟨bb', o' + k * 4 + 1, none⟩ = some (.int .i64 y1) ∧ v.cell? ⟨bb', o' + k * 4 + 2, none⟩ = some (.int .i64 y2) ∧ v.cell? ⟨bb', o' + k * 4 + 3, none⟩ = some (.int .i64 y3)) := Lib.hid fun v hv => by
            have hxx := HX0.out.trans (HX.out.trans hv)
            exact ⟨by rw [Below.cell hxx hbb']; exact h0' 0 _ rfl, by rw [Below.cell hxx hbb']; exact h0' 1 _ rfl, by rw [Below.cell hxx hbb']; exact h0' 2 _ rfl, by rw [Below.cell hxx hbb']; exact h0' 3 _ rfl⟩
          have i0 : (0 : Int) ≤ (k : Int) := by omega
          have i1 : (k : Int) < (gs.length : Int) := by omega
          have i2 : (k : Int) < (hs.length : Int) := by omega
          clear hcell hcell' h0 h0'
          by_cases hxy : x0 = y0 ∧ x1 = y1 ∧ x2 = y2 ∧ x3 = y3
          · have hq : ∀ w, (Op.equalIn 10000 36 (.agg #[.int .i64 x0, .int .i64 x1, .int .i64 x2, .int .i64 x3]) (.agg #[.int .i64 y0, .int .i64 y1, .int .i64 y2, .int .i64 y3])).run Try.prog w = .ok true w := fun w => by have := run_eqG x0 x1 x2 x3 y0 y1 y2 y3 w; rw [decide_eq_true (by simp [hxy])] at this; exact this
            have HEN : Hid (gs.take (k + 1) = hs.take (k + 1)) := Lib.hid (by rw [HT.out, HT'.out, HEQ.out, hxy.1, hxy.2.1, hxy.2.2.1, hxy.2.2.2])
            clear hxy
            go_wp2
            clear p2
            refine region_rgx ([]) (wr) (by kernel_rfl) (by kernel_rfl) ?_ ?_ ?_
            · exact List.forall_mem_nil _
            · first | assumption | exact Ext.refl _
            refine rg_pure (v := ?_) rfl (by kernel_rfl) (by kernel_rfl) (fun w hS hN => ?_) ?_
            rotate_left 1
            · clear hN
              go_simp
              refine givesP_mk ?_
              with_reducible rfl
            refine rg_pure (v := ?_) rfl (by kernel_rfl) (by kernel_rfl) (fun w hS hN => ?_) ?_
            rotate_left 1
            · have k1 := blk_cell ((HX.out.trans hS).blk HBX.out) 2 (.slice (some ⟨bb, o, none⟩) gs.length d) rfl
              clear hN
              go_simp
              refine givesP_mk ?_
              with_reducible rfl
            refine rg_pure (v := ?_) rfl (by kernel_rfl) (by kernel_rfl) (fun w hS hN => ?_) ?_
            rotate_left 1
            · clear hN
              go_simp
              refine givesP_mk ?_
              with_reducible rfl
            refine rg_pure (v := ?_) rfl (by kernel_rfl) (by kernel_rfl) (fun w hS hN => ?_) ?_
            rotate_left 1
            · clear hN
              go_simp
              refine givesP_mk ?_
              with_reducible rfl
            refine rg_pure (v := ?_) rfl (by kernel_rfl) (by kernel_rfl) (fun w hS hN => ?_) ?_
            rotate_left 1
            · obtain ⟨k1, k2, k3, k4⟩ := HC.out w hS
              clear hN
              go_simp
              refine givesP_mk ?_
              with_reducible rfl
            refine rg_pure (v := ?_) rfl (by kernel_rfl) (by kernel_rfl) (fun w hS hN => ?_) ?_
            rotate_left 1
            · clear hN
              go_simp
              refine givesP_mk ?_
              with_reducible rfl
            refine rg_pure (v := ?_) rfl (by kernel_rfl) (by kernel_rfl) (fun w hS hN => ?_) ?_
            rotate_left 1
            · have k1 := blk_cell ((HX.out.trans hS).blk HBY.out) 2 (.slice (some ⟨bb', o', none⟩) hs.length d') rfl
              clear hN
              go_simp
              refine givesP_mk ?_
              with_reducible rfl
            refine rg_pure (v := ?_) rfl (by kernel_rfl) (by kernel_rfl) (fun w hS hN => ?_) ?_
            rotate_left 1
            · clear hN
              go_simp
              refine givesP_mk ?_
              with_reducible rfl
            refine rg_pure (v := ?_) rfl (by kernel_rfl) (by kernel_rfl) (fun w hS hN => ?_) ?_
            rotate_left 1
            · clear hN
              go_simp
              refine givesP_mk ?_
              with_reducible rfl
            refine rg_pure (v := ?_) rfl (by kernel_rfl) (by kernel_rfl) (fun w hS hN => ?_) ?_
            rotate_left 1
            · obtain ⟨k1, k2, k3, k4⟩ := HC'.out w hS
              clear hN
              go_simp
              refine givesP_mk ?_
              with_reducible rfl
            refine rg_pure (v := ?_) rfl (by kernel_rfl) (by kernel_rfl) (fun w hS hN => ?_) ?_
            rotate_left 1
            · clear hN
              go_simp
              refine givesP_mk ?_
              with_reducible rfl
            refine rg_done rfl (Nat.le_of_ble_eq_true (by kernel_rfl)) ?_
            intro w8 hS hT
            have HX8 := Lib.hid (HX.out.trans hS)
            clear hT hS hq
            go_simp
            go_wp2
            go_roundw
            case rel => exact ⟨k + 1, by omega, by go_num, HEN, HX8.out⟩
            case measure => simp [intOf]; omega
          · have hq : ∀ w, (Op.equalIn 10000 36 (.agg #[.int .i64 x0, .int .i64 x1, .int .i64 x2, .int .i64 x3]) (.agg #[.int .i64 y0, .int .i64 y1, .int .i64 y2, .int .i64 y3])).run Try.prog w = .ok false w := fun w => by have := run_eqG x0 x1 x2 x3 y0 y1 y2 y3 w; rw [decide_eq_false (by simp only [List.cons.injEq, and_true]; exact hxy)] at this; exact this
            obtain rfl := HNE.out (by simp only [ne_eq, Prod.mk.injEq]; exact hxy)
            clear hxy
            go_wp2
            clear p2
            refine region_rgx ([]) (wr) (by kernel_rfl) (by kernel_rfl) ?_ ?_ ?_
            · exact List.forall_mem_nil _
            · first | assumption | exact Ext.refl _
            refine rg_pure (v := ?_) rfl (by kernel_rfl) (by kernel_rfl) (fun w hS hN => ?_) ?_
            rotate_left 1
            · clear hN
              go_simp
              refine givesP_mk ?_
              with_reducible rfl
            refine rg_pure (v := ?_) rfl (by kernel_rfl) (by kernel_rfl) (fun w hS hN => ?_) ?_
            rotate_left 1
            · have k1 := blk_cell ((HX.out.trans hS).blk HBX.out) 2 (.slice (some ⟨bb, o, none⟩) gs.length d) rfl
              clear hN
              go_simp
              refine givesP_mk ?_
              with_reducible rfl
            refine rg_pure (v := ?_) rfl (by kernel_rfl) (by kernel_rfl) (fun w hS hN => ?_) ?_
            rotate_left 1
            · clear hN
              go_simp
              refine givesP_mk ?_
              with_reducible rfl
            refine rg_pure (v := ?_) rfl (by kernel_rfl) (by kernel_rfl) (fun w hS hN => ?_) ?_
            rotate_left 1
            · clear hN
              go_simp
              refine givesP_mk ?_
              with_reducible rfl
            refine rg_pure (v := ?_) rfl (by kernel_rfl) (by kernel_rfl) (fun w hS hN => ?_) ?_
            rotate_left 1
            · obtain ⟨k1, k2, k3, k4⟩ := HC.out w hS
              clear hN
              go_simp
              refine givesP_mk ?_
              with_reducible rfl
            refine rg_pure (v := ?_) rfl (by kernel_rfl) (by kernel_rfl) (fun w hS hN => ?_) ?_
            rotate_left 1
            · clear hN
              go_simp
              refine givesP_mk ?_
              with_reducible rfl
            refine rg_pure (v := ?_) rfl (by kernel_rfl) (by kernel_rfl) (fun w hS hN => ?_) ?_
            rotate_left 1
            · have k1 := blk_cell ((HX.out.trans hS).blk HBY.out) 2 (.slice (some ⟨bb', o', none⟩) hs.length d') rfl
              clear hN
              go_simp
              refine givesP_mk ?_
              with_reducible rfl
            refine rg_pure (v := ?_) rfl (by kernel_rfl) (by kernel_rfl) (fun w hS hN => ?_) ?_
            rotate_left 1
            · clear hN
              go_simp
              refine givesP_mk ?_
              with_reducible rfl
            refine rg_pure (v := ?_) rfl (by kernel_rfl) (by kernel_rfl) (fun w hS hN => ?_) ?_
            rotate_left 1
            · clear hN
              go_simp
              refine givesP_mk ?_
              with_reducible rfl
            refine rg_pure (v := ?_) rfl (by kernel_rfl) (by kernel_rfl) (fun w hS hN => ?_) ?_
            rotate_left 1
            · obtain ⟨k1, k2, k3, k4⟩ := HC'.out w hS
              clear hN
              go_simp
              refine givesP_mk ?_
              with_reducible rfl
            refine rg_pure (v := ?_) rfl (by kernel_rfl) (by kernel_rfl) (fun w hS hN => ?_) ?_
            rotate_left 1
            · clear hN
              go_simp
              refine givesP_mk ?_
              with_reducible rfl
            refine rg_done rfl (Nat.le_of_ble_eq_true (by kernel_rfl)) ?_
            intro w8 hS hT
            have HX8 := Lib.hid (HX.out.trans hS)
            clear hT hS hq
            go_simp
            go_wp2
            go_ret
            exact ⟨rfl, HX0.out.trans HX8.out⟩
        · obtain rfl : k = gs.length := by omega
          obtain rfl : r = true := by rw [← HR2.out]; have h1 := HEQ.out; rw [List.take_length, HG1.out, List.take_length] at h1; exact decide_eq_true h1
          go_wp2
          go_ret
          exact ⟨rfl, HX0.out.trans HX.out⟩

theorem rsnsame_any (v u : Value) (s t : Sn) (w : World) (hs : SnAt w v s) (ht : SnAt w u t) (hp : s.ps.length ≤ 10000) (hg : s.gs.length ≤ 10000) (r : Bool) (hr : decide (s.time = t.time ∧ s.ps = t.ps ∧ s.gs = t.gs) = r) :
    Calls Try.prog 16 #[v, u] w fun e w' => e = .returned (.bool r) ∧ Ext w w' := by
  obtain ⟨A, c, B, d, rfl, h1, h3⟩ := hs
  obtain ⟨A', c', B', d', rfl, h2, h4⟩ := ht
  obtain ⟨time, ps, gs⟩ := s
  obtain ⟨time', qs, hs⟩ := t
  simp only at *
  by_cases h : time ≠ time' ∨ (time = time' ∧ (ps.length ≠ qs.length ∨ (ps.length = qs.length ∧ gs.length ≠ hs.length)))
  · obtain rfl : r = false := by
      rw [← hr]
      refine decide_eq_false fun hh => ?_
      obtain ⟨k1, k2, k3⟩ := hh
      subst k1 k2 k3
      simp at h
    exact rsnsame_out time time' ps qs gs hs A B A' B' c d c' d' w h
  · obtain rfl : time = time' := by
      by_cases ht : time = time'
      · exact ht
      · exact absurd (.inl ht) h
    have hpl : ps.length = qs.length := by
      by_cases hl : ps.length = qs.length
      · exact hl
      · exact absurd (.inr ⟨rfl, .inl hl⟩) h
    have hgl : gs.length = hs.length := by
      by_cases hl : gs.length = hs.length
      · exact hl
      · exact absurd (.inr ⟨rfl, .inr ⟨hpl, hl⟩⟩) h
    exact rsnsame_in time ps qs gs hs A B A' B' c d c' d' w hpl hgl h1 h2 h3 h4 r (by rw [← hr]; simp) hp hg

end Go.Proofs.Ythkogcgdikgkaaa
