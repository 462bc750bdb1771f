/-
  The statement SnapMs: its walk.
-/
import Derived.Test.YthkogcgdikgkaaaMr
import Derived.Test.YthkogcgdikgkaaaRz
import Derived.IntWalk
import Derived.Test.YthkogcgdikgkaaaLf
set_option linter.unusedVariables false
set_option linter.unusedSimpArgs false
namespace Go.Proofs.Ythkogcgdikgkaaa
open Go.RowKit Go.Maps

theorem cntG_sub {l l' : List Gs4} (h : l'.Sublist l) (m : Int) : cntG l' m ≤ cntG l m := h.countP_le
theorem cntG_two {l : List Gs4} {k i : Nat} (hki : k < i) (hi : i < l.length) (h : l[k].2.2.1 = l[i].2.2.1) : 2 ≤ cntG l l[i].2.2.1 := by
  have h1 := cntG_next (m := l[i].2.2.1) hi
  rw [if_pos (by simp)] at h1
  have h2 : 1 ≤ cntG (l.take i) l[i].2.2.1 := by
    unfold cntG
    refine List.countP_pos_iff.2 ⟨l[k], ?_, by simp [h]⟩
    exact List.mem_take_iff_getElem.2 ⟨k, by omega, rfl⟩
  have h3 := cntG_sub (List.take_sublist (i + 1) l) l[i].2.2.1
  omega
theorem Sn.may_less {time : Int} {ps : List (Int × Int)} {gs gs' : List Gs4} (h : Sn.may ⟨time, ps, gs⟩ = true) (hs : gs'.Sublist gs) : Sn.may ⟨time, ps, gs'⟩ = true := by
  obtain ⟨a, b, c, d, e, f, g, i, j⟩ := (Sn.may_iff _).1 h
  refine (Sn.may_iff _).2 ⟨a, b, Nat.le_trans hs.length_le c, d, e, fun x hx => f x (hs.subset hx), ?_, fun x hx => i x (hs.subset hx), fun m hm => Nat.le_trans (cntG_sub hs m) (j m hm)⟩
  exact g.sublist ((hs.map _).cons_cons _)
theorem sub_less {α : Type} (l : List α) (k : Nat) : (l.take k ++ l.drop (k + 1)).Sublist l := by
  rw [← List.eraseIdx_eq_take_drop_succ]
  exact List.eraseIdx_sublist l k
set_option maxRecDepth 100000 in
set_option maxHeartbeats 1000000 in
theorem rsmall_any (v : Value) (s : Sn) (w : World) (hs : SnAt w v s) (r : Bool) (hr : (decide (s.ps.length ≤ 70) && decide (s.gs.length ≤ 100)) = r) :
    Calls Try.prog 8 #[v] w fun e w' => e = .returned (.bool r) ∧ Ext w w' := by
  obtain ⟨A, c, B, d, rfl, h2, h3⟩ := hs
  obtain ⟨time, ps, gs⟩ := s
  simp only at *
  clear h2 h3
  by_cases h1 : ps.length ≤ 70
  · by_cases h2 : gs.length ≤ 100
    · obtain rfl : r = true := by rw [← hr]; simp [h1, h2]
      have i1 : (ps.length : Int) ≤ 70 := by omega
      have i2 : (gs.length : Int) ≤ 100 := by omega
      clear h1 h2 hr
      have HB := Lib.hid (blk_new w (.cells #[.int .i64 time, .slice A ps.length c, .slice B gs.length d] 25))
      go_enter Try.func8, Try.ntmps8
      go_wp2
      go_ret
      exact ⟨by first | rfl | (simp; done) | (simp; omega), (Ext.refl w).alloc _⟩
    · obtain rfl : r = false := by rw [← hr]; simp [h1]; omega
      have i1 : (ps.length : Int) ≤ 70 := by omega
      have i2 : 100 < (gs.length : Int) := by omega
      clear h1 h2 hr
      have HB := Lib.hid (blk_new w (.cells #[.int .i64 time, .slice A ps.length c, .slice B gs.length d] 25))
      go_enter Try.func8, Try.ntmps8
      go_wp2
      go_ret
      exact ⟨by first | rfl | (simp; done) | (simp; omega), (Ext.refl w).alloc _⟩
  · obtain rfl : r = false := by rw [← hr]; simp [h1]
    have i1 : 70 < (ps.length : Int) := by omega
    clear h1 hr
    have HB := Lib.hid (blk_new w (.cells #[.int .i64 time, .slice A ps.length c, .slice B gs.length d] 25))
    go_enter Try.func8, Try.ntmps8
    go_wp2
    go_ret
    exact ⟨by first | rfl | (simp; done) | (simp; omega), (Ext.refl w).alloc _⟩
theorem rholds_k (v : Value) (l : List (Int × Int)) (m n : Int) (w : World) (hr : (cntP l m : Int) = n) (h : RowsAt 2 snPCells w v l) (hn : l.length ≤ 100000) :
    Calls Try.prog 17 #[v, .int .i64 m] w fun e w' => e = .returned (.int .i64 n) ∧ w = w' := by subst hr; exact rholds_any v l m w h hn
/-- What is known of each G, from what may be. -/
theorem sn_gs_facts {time : Int} {ps : List (Int × Int)} {gs : List Gs4} (h : Sn.may ⟨time, ps, gs⟩ = true) (i : Nat) (hi : i < gs.length) :
    ((gs[i].2.1 = 2 ∧ 0 < gs[i].2.2.1 ∧ (cntP ps gs[i].2.2.1 : Int) = 1) ∨ (gs[i].2.1 = 4 ∧ 0 < gs[i].2.2.1 ∧ (cntP ps gs[i].2.2.1 : Int) = 0) ∨ (gs[i].2.1 ≠ 2 ∧ gs[i].2.1 ≠ 4 ∧ gs[i].2.2.1 = 0)) ∧
    ∀ k (hk : k < i), 0 < gs[i].2.2.1 → gs[k].2.2.1 ≠ gs[i].2.2.1 := by
  obtain ⟨_, _, _, _, _, f, _, g, j⟩ := (Sn.may_iff _).1 h
  have hm := List.getElem_mem hi
  have hf := g _ hm
  have hok := f _ hm
  unfold snGOk at hok
  simp only [Bool.and_eq_true, snNum_iff] at hok
  simp only at hf j
  refine ⟨?_, fun k hk h0 he => ?_⟩
  · unfold snGFit at hf
    split at hf
    · rename_i h1; right; right; omega
    · obtain ⟨h0, h1 | h1⟩ := hf
      · exact .inl ⟨h1.1, by omega, h1.2⟩
      · exact .inr (.inl ⟨h1.1, by omega, h1.2⟩)
  · have h1 := cntG_two hk hi he
    have h2 := j gs[i].2.2.1 (by omega)
    omega
set_option maxRecDepth 100000 in
set_option maxHeartbeats 1000000 in
theorem snms_in (time at0 : Int) (ps : List (Int × Int)) (gs : List Gs4) (A B : Option Addr) (c d : Nat) (w : World) (h2 : RowsAt 2 snPCells w (.slice A ps.length c) ps) (h3 : RowsAt 4 snGCells w (.slice B gs.length d) gs) (hp : ps.length ≤ 70) (hg : gs.length ≤ 100) (hm : Sn.may ⟨time, ps, gs⟩ = true) (ha : (Lit.int .i64 at0).wf = true) :
    Calls Try.prog 5 #[.agg #[.int .i64 time, .slice A ps.length c, .slice B gs.length d], .int .i64 at0] w fun e w' => e = .returned (.bool true) ∧ Ext w w' := by
  have HB := Lib.hid (blk_new w (.cells #[.int .i64 time, .slice A ps.length c, .slice B gs.length d] 25))
  have H2 := Lib.hid h2
  have H3 := Lib.hid h3
  have HM := Lib.hid hm
  have HAT := Lib.hid (bounds_i64 ha)
  clear h2 h3 hm ha
  obtain ⟨sb, hsb⟩ : ∃ b, w.heap.size = b := ⟨_, rfl⟩
  have HX0 : Hid (Ext w (w.alloc (.cells #[.int .i64 time, .slice A ps.length c, .slice B gs.length d] 25))) := Lib.hid ((Ext.refl w).alloc _)
  go_enter Try.func5, Try.ntmps5
  go_wp2_with fail
  refine (snfixed_yes _).mono ?_
  rintro r w1 ⟨rfl, hx1⟩
  have HB1 := Lib.hid (hx1.blk HB.out)
  have HX1 := Lib.hid (HX0.out.trans hx1)
  rw [hsb] at *
  clear hx1 HB HX0 hsb
  have q0 := blk_cell HB1.out 0 _ rfl
  have q1 := blk_cell HB1.out 1 _ rfl
  have q2 := blk_cell HB1.out 2 _ rfl
  go_wp2_with fail
  refine (rsmall_any _ ⟨time, ps, gs⟩ _ ⟨A, c, B, d, rfl, H2.out.ext HX1.out, H3.out.ext HX1.out⟩ true (by simp only; simp [hp, hg])).mono ?_
  rintro r w2 ⟨rfl, hx2⟩
  clear q0 q1 q2
  have HB2 := Lib.hid (hx2.blk HB1.out)
  have HX2 := Lib.hid (HX1.out.trans hx2)
  clear hx2 HB1 HX1
  have q0 := blk_cell HB2.out 0 _ rfl
  have q1 := blk_cell HB2.out 1 _ rfl
  have q2 := blk_cell HB2.out 2 _ rfl
  go_wp2_with fail
  refine (snmay_k _ ⟨time, ps, gs⟩ true _ HM.out ⟨A, c, B, d, rfl, H2.out.ext HX2.out, H3.out.ext HX2.out⟩ (by simp only; omega) (by simp only; omega)).mono ?_
  rintro r w3 ⟨rfl, hx3⟩
  clear q0 q1 q2
  have HX3 := Lib.hid (HX2.out.trans hx3)
  have HKS : Hid (∀ v, Ext w3 v → v.cell? ⟨sb, 0, none⟩ = some (.int .i64 time) ∧ v.cell? ⟨sb, 1, none⟩ = some (.slice A ps.length c) ∧ v.cell? ⟨sb, 2, none⟩ = some (.slice B gs.length d)) := Lib.hid fun v hv =>
    have hb := hv.blk (hx3.blk HB2.out)
    ⟨blk_cell hb 0 _ rfl, blk_cell hb 1 _ rfl, blk_cell hb 2 _ rfl⟩
  have H2' := Lib.hid (H2.out.ext HX3.out)
  have H3' := Lib.hid (H3.out.ext HX3.out)
  clear H2 H3 hx3 HB2 HX2
  have H2 := Lib.hid H2'.out
  have H3 := Lib.hid H3'.out
  clear H2' H3'
  go_wp2
  go_loopw [5] (fun iv wr => ∃ i : Nat, i ≤ gs.length ∧ iv = .int .i64 i ∧ Ext w3 wr) (fun iv _ => gs.length - (intOf iv).toNat)
  case atStart => exact ⟨0, by omega, rfl, Ext.refl _⟩
  case round =>
    obtain ⟨i, hi, rfl, hx⟩ := hrel
    have HX := Lib.hid hx
    obtain ⟨q0, q1, q2⟩ := HKS.out wr hx
    clear hx
    by_cases hlt : i < gs.length
    · have HFG := Lib.hid (sn_gs_facts HM.out i hlt)
      obtain ⟨_, _, hv, hd, hA3⟩ := H3.out
      simp only [Value.slice.injEq, true_and] at hv
      obtain ⟨rfl, rfl⟩ := hv
      obtain ⟨bb, o, rfl, hbb, hcell⟩ := hA3 (by omega)
      have HCELL : Hid (∀ k (hk : k < gs.length), ∀ v, Ext w3 v → v.cell? ⟨bb, o + k * 4 + 2, none⟩ = some (.int .i64 gs[k].2.2.1)) := Lib.hid fun k hk v hv => by
        rw [Below.cell hv hbb]
        exact hcell k gs[k] (List.getElem?_eq_getElem hk) 2 _ rfl
      have h0 := hcell i gs[i] (List.getElem?_eq_getElem hlt)
      obtain ⟨hcase, hdis⟩ := HFG.out
      have HDIS : Hid (∀ k (hk : k < i), 0 < gs[i].2.2.1 → gs[k].2.2.1 ≠ gs[i].2.2.1) := Lib.hid hdis
      obtain ⟨pg, hpg⟩ : ∃ p, gs[i] = p := ⟨_, rfl⟩
      rw [hpg] at hcase h0
      have HPG := Lib.hid hpg
      have HDIS2 : Hid (∀ k (hk : k < i), 0 < pg.2.2.1 → gs[k].2.2.1 ≠ pg.2.2.1) := Lib.hid (by rw [← hpg]; exact hdis)
      clear HDIS hdis hpg HFG HPG
      obtain ⟨g, st, m, q⟩ := pg
      simp only at hcase HDIS2
      have HDIS := Lib.hid HDIS2.out
      clear HDIS2
      have c0 : wr.cell? ⟨bb, o + i * 4, none⟩ = some (.int .i64 g) := by rw [Below.cell HX.out hbb]; exact h0 0 _ rfl
      have c1 : wr.cell? ⟨bb, o + i * 4 + 1, none⟩ = some (.int .i64 st) := by rw [Below.cell HX.out hbb]; exact h0 1 _ rfl
      have c2 : wr.cell? ⟨bb, o + i * 4 + 2, none⟩ = some (.int .i64 m) := by rw [Below.cell HX.out hbb]; exact h0 2 _ rfl
      have c3 : wr.cell? ⟨bb, o + i * 4 + 3, none⟩ = some (.int .i64 q) := by rw [Below.cell HX.out hbb]; exact h0 3 _ rfl
      have HKG0 : Hid (∀ v, Ext (wr.alloc (.cells #[.int .i64 g, .int .i64 st, .int .i64 m, .int .i64 q] 36)) v → v.cell? ⟨wr.heap.size, 0, none⟩ = some (.int .i64 g) ∧ v.cell? ⟨wr.heap.size, 1, none⟩ = some (.int .i64 st) ∧ v.cell? ⟨wr.heap.size, 2, none⟩ = some (.int .i64 m) ∧ v.cell? ⟨wr.heap.size, 3, none⟩ = some (.int .i64 q)) := Lib.hid fun v hv =>
        have hb := hv.blk (blk_new wr (.cells #[.int .i64 g, .int .i64 st, .int .i64 m, .int .i64 q] 36))
        ⟨blk_cell hb 0 _ rfl, blk_cell hb 1 _ rfl, blk_cell hb 2 _ rfl, blk_cell hb 3 _ rfl⟩
      have HXG0 : Hid (Ext w3 (wr.alloc (.cells #[.int .i64 g, .int .i64 st, .int .i64 m, .int .i64 q] 36))) := Lib.hid (HX.out.alloc _)
      clear hcell h0 hA3
      go_upto_region 7 with fail
      clear c0 c1 c2 c3 q0 q1 q2
      generalize hwG : wr.alloc (.cells #[.int .i64 g, .int .i64 st, .int .i64 m, .int .i64 q] 36) = wG at *
      generalize hgb : wr.heap.size = gb at *
      have HKG := Lib.hid HKG0.out
      have HXG := Lib.hid HXG0.out
      clear HKG0 HXG0 hwG hgb HX wr
      rcases hcase with ⟨hst, hm0, hcnt⟩ | ⟨hst, hm0, hcnt⟩ | ⟨hst, hst4, hm0⟩
      · have HCNT := Lib.hid hcnt
        clear hcnt
        have e2 : (st == 2) = true := by simp [hst]
        have hpos : decide ((0 : Int) < m) = true := by simp; omega
        refine region_rgx ([(21, (fun u => u = .int .i64 1 : Value → Prop), (fun _ _ => True : (Nat → GV) → World → Prop))]) (wG) (by kernel_rfl) (by kernel_rfl) ?_ ?_ ?_
        · exact List.forall_mem_cons.2 ⟨⟨⟨_, rfl⟩, fun _ _ _ _ _ => trivial, fun _ _ _ _ _ => trivial⟩, List.forall_mem_nil _⟩
        · first | assumption | exact Ext.refl _
        refine rg_pure (v := ?_) rfl (by kernel_rfl) (by kernel_rfl) (fun w hS hN => ?_) ?_
        rotate_left 1
        · clear hN
          go_simp
          try simp only [hpos, e2]
          refine givesP_mk ?_
          with_reducible rfl
        refine rg_pure (v := ?_) rfl (by kernel_rfl) (by kernel_rfl) (fun w hS hN => ?_) ?_
        rotate_left 1
        · obtain ⟨k0, k1, k2, k3⟩ := HKG.out w hS
          clear hN
          go_simp
          try simp only [hpos, e2]
          refine givesP_mk ?_
          with_reducible rfl
        refine rg_pure (v := ?_) rfl (by kernel_rfl) (by kernel_rfl) (fun w hS hN => ?_) ?_
        rotate_left 1
        · clear hN
          go_simp
          try simp only [hpos, e2]
          refine givesP_mk ?_
          with_reducible rfl
        refine rg_pure (v := ?_) rfl (by kernel_rfl) (by kernel_rfl) (fun w hS hN => ?_) ?_
        rotate_left 1
        · clear hN
          go_simp
          try simp only [hpos, e2]
          refine givesP_mk ?_
          with_reducible rfl
        refine rg_pure (v := ?_) rfl (by kernel_rfl) (by kernel_rfl) (fun w hS hN => ?_) ?_
        rotate_left 1
        · obtain ⟨k0, k1, k2, k3⟩ := HKG.out w hS
          clear hN
          go_simp
          try simp only [hpos, e2]
          refine givesP_mk ?_
          with_reducible rfl
        refine rg_pure (v := ?_) rfl (by kernel_rfl) (by kernel_rfl) (fun w hS hN => ?_) ?_
        rotate_left 1
        · clear hN
          go_simp
          try simp only [hpos, e2]
          refine givesP_mk ?_
          with_reducible rfl
        refine rg_pure (v := ?_) rfl (by kernel_rfl) (by kernel_rfl) (fun w hS hN => ?_) ?_
        rotate_left 1
        · clear hN
          go_simp
          try simp only [hpos, e2]
          refine givesP_mk ?_
          with_reducible rfl
        refine rg_no rfl (by kernel_rfl) (by kernel_rfl) ?_
        refine rg_no rfl (by kernel_rfl) (by kernel_rfl) ?_
        refine rg_no rfl (by kernel_rfl) (by kernel_rfl) ?_
        refine rg_pure (v := ?_) rfl (by kernel_rfl) (by kernel_rfl) (fun w hS hN => ?_) ?_
        rotate_left 1
        · clear hN
          go_simp
          try simp only [hpos, e2]
          refine givesP_mk ?_
          with_reducible rfl
        refine rg_pure (v := ?_) rfl (by kernel_rfl) (by kernel_rfl) (fun w hS hN => ?_) ?_
        rotate_left 1
        · clear hN
          go_simp
          try simp only [hpos, e2]
          refine givesP_mk ?_
          with_reducible rfl
        refine rg_pure (v := ?_) rfl (by kernel_rfl) (by kernel_rfl) (fun w hS hN => ?_) ?_
        rotate_left 1
        · clear hN
          go_simp
          try simp only [hpos, e2]
          refine givesP_mk ?_
          with_reducible rfl
        refine rg_pure (v := ?_) rfl (by kernel_rfl) (by kernel_rfl) (fun w hS hN => ?_) ?_
        rotate_left 1
        · clear hN
          go_simp
          try simp only [hpos, e2]
          refine givesP_mk ?_
          with_reducible rfl
        refine rg_pure (v := ?_) rfl (by kernel_rfl) (by kernel_rfl) (fun w hS hN => ?_) ?_
        rotate_left 1
        · obtain ⟨k0, k1, k2, k3⟩ := HKG.out w hS
          clear hN
          go_simp
          try simp only [hpos, e2]
          refine givesP_mk ?_
          with_reducible rfl
        refine rg_pure (v := ?_) rfl (by kernel_rfl) (by kernel_rfl) (fun w hS hN => ?_) ?_
        rotate_left 1
        · clear hN
          go_simp
          try simp only [hpos, e2]
          refine givesP_mk ?_
          with_reducible rfl
        refine rg_pure (v := ?_) rfl (by kernel_rfl) (by kernel_rfl) (fun w hS hN => ?_) ?_
        rotate_left 1
        · clear hN
          go_simp
          try simp only [hpos, e2]
          refine givesP_mk ?_
          with_reducible rfl
        refine rg_pure (v := ?_) rfl (by kernel_rfl) (by kernel_rfl) (fun w hS hN => ?_) ?_
        rotate_left 1
        · clear hN
          go_simp
          try simp only [hpos, e2]
          refine givesP_mk ?_
          with_reducible rfl
        refine rg_pure (v := ?_) rfl (by kernel_rfl) (by kernel_rfl) (fun w hS hN => ?_) ?_
        rotate_left 1
        · obtain ⟨k0, k1, k2⟩ := HKS.out w (HXG.out.trans hS)
          clear hN
          go_simp
          try simp only [hpos, e2]
          refine givesP_mk ?_
          with_reducible rfl
        refine rg_pure (v := ?_) rfl (by kernel_rfl) (by kernel_rfl) (fun w hS hN => ?_) ?_
        rotate_left 1
        · clear hN
          go_simp
          try simp only [hpos, e2]
          refine givesP_mk ?_
          with_reducible rfl
        refine rg_pure (v := ?_) rfl (by kernel_rfl) (by kernel_rfl) (fun w hS hN => ?_) ?_
        rotate_left 1
        · obtain ⟨k0, k1, k2, k3⟩ := HKG.out w hS
          clear hN
          go_simp
          try simp only [hpos, e2]
          refine givesP_mk ?_
          with_reducible rfl
        refine rg_mem (fun u => u = .int .i64 1 : Value → Prop) (fun _ _ => True : (Nat → GV) → World → Prop) (fun _ => Ext) rfl rfl rfl rfl (by kernel_rfl) (by kernel_rfl) (fun w hS hN R hR => ?_) ?_
        · have HR := Lib.hid hR
          clear hR
          (try clear hN)
          go_simp
          refine givesM_call ((rholds_k _ ps m 1 w HCNT.out (H2.out.ext (HXG.out.trans hS)) (by omega)).mono ?_)
          rintro e w' ⟨rfl, rfl⟩
          exact ⟨_, rfl, HR.out _ _ rfl trivial (Ext.refl _)⟩
        rintro u21 s21 t21 rfl
        refine rg_pure (v := ?_) rfl (by kernel_rfl) (by kernel_rfl) (fun w hS hN => ?_) ?_
        rotate_left 1
        · clear hN
          go_simp
          try simp only [hpos, e2]
          refine givesP_mk ?_
          with_reducible rfl
        refine rg_pure (v := ?_) rfl (by kernel_rfl) (by kernel_rfl) (fun w hS hN => ?_) ?_
        rotate_left 1
        · clear hN
          go_simp
          try simp only [hpos, e2]
          refine givesP_mk ?_
          with_reducible rfl
        refine rg_pure (v := ?_) rfl (by kernel_rfl) (by kernel_rfl) (fun w hS hN => ?_) ?_
        rotate_left 1
        · obtain ⟨k0, k1, k2, k3⟩ := HKG.out w hS
          clear hN
          go_simp
          try simp only [hpos, e2]
          refine givesP_mk ?_
          with_reducible rfl
        refine rg_pure (v := ?_) rfl (by kernel_rfl) (by kernel_rfl) (fun w hS hN => ?_) ?_
        rotate_left 1
        · clear hN
          go_simp
          try simp only [hpos, e2]
          refine givesP_mk ?_
          with_reducible rfl
        refine rg_pure (v := ?_) rfl (by kernel_rfl) (by kernel_rfl) (fun w hS hN => ?_) ?_
        rotate_left 1
        · clear hN
          go_simp
          try simp only [hpos, e2]
          refine givesP_mk ?_
          with_reducible rfl
        refine rg_pure (v := ?_) rfl (by kernel_rfl) (by kernel_rfl) (fun w hS hN => ?_) ?_
        rotate_left 1
        · clear hN
          go_simp
          try simp only [hpos, e2]
          refine givesP_mk ?_
          with_reducible rfl
        refine rg_pure (v := ?_) rfl (by kernel_rfl) (by kernel_rfl) (fun w hS hN => ?_) ?_
        rotate_left 1
        · clear hN
          go_simp
          try simp only [hpos, e2]
          refine givesP_mk ?_
          with_reducible rfl
        refine rg_done rfl (Nat.le_of_ble_eq_true (by kernel_rfl)) ?_
        intro w8 hS hT
        have HX8 := Lib.hid hS
        clear hT hS
        go_simp
        go_wp2
        go_loopw [7] (fun kv wz => ∃ k : Nat, k ≤ i ∧ kv = .int .i64 k ∧ Ext wG wz) (fun kv _ => i - (intOf kv).toNat)
        case atStart => exact ⟨0, by omega, rfl, HX8.out⟩
        case round =>
          clear HX8
          obtain ⟨k, hk, rfl, hx9⟩ := hrel
          have HX9 := Lib.hid hx9
          clear hx9
          by_cases hki : k < i
          · have hkl : k < gs.length := by omega
            have HNE := Lib.hid (HDIS.out k hki)
            have HY0 := Lib.hid (HCELL.out k hkl)
            obtain ⟨y, hy⟩ : ∃ y, gs[k].2.2.1 = y := ⟨_, rfl⟩
            have HY : Hid (∀ v, Ext w3 v → v.cell? ⟨bb, o + k * 4 + 2, none⟩ = some (.int .i64 y)) := Lib.hid (by rw [← hy]; exact HY0.out)
            have hne : (y == m) = false := by rw [← hy]; simpa using HNE.out (by omega)
            have i0 : (0 : Int) ≤ (k : Int) := by omega
            have i1 : (k : Int) < (gs.length : Int) := by omega
            clear hy HY0
            go_wp2
            refine region_rgx ([]) (wr) (by kernel_rfl) (by kernel_rfl) ?_ ?_ ?_
            · exact List.forall_mem_nil _
            · first | assumption | exact Ext.refl _
            refine rg_pure (v := ?_) rfl (by kernel_rfl) (by kernel_rfl) (fun w hS hN => ?_) ?_
            rotate_left 1
            · clear hN
              go_simp
              try simp only [hpos, hne]
              refine givesP_mk ?_
              with_reducible rfl
            refine rg_pure (v := ?_) rfl (by kernel_rfl) (by kernel_rfl) (fun w hS hN => ?_) ?_
            rotate_left 1
            · obtain ⟨k0, k1, k2, k3⟩ := HKG.out w (HX9.out.trans hS)
              clear hN
              go_simp
              try simp only [hpos, hne]
              refine givesP_mk ?_
              with_reducible rfl
            refine rg_pure (v := ?_) rfl (by kernel_rfl) (by kernel_rfl) (fun w hS hN => ?_) ?_
            rotate_left 1
            · clear hN
              go_simp
              try simp only [hpos, hne]
              refine givesP_mk ?_
              with_reducible rfl
            refine rg_pure (v := ?_) rfl (by kernel_rfl) (by kernel_rfl) (fun w hS hN => ?_) ?_
            rotate_left 1
            · clear hN
              go_simp
              try simp only [hpos, hne]
              refine givesP_mk ?_
              with_reducible rfl
            refine rg_pure (v := ?_) rfl (by kernel_rfl) (by kernel_rfl) (fun w hS hN => ?_) ?_
            rotate_left 1
            · clear hN
              go_simp
              try simp only [hpos, hne]
              refine givesP_mk ?_
              with_reducible rfl
            refine rg_pure (v := ?_) rfl (by kernel_rfl) (by kernel_rfl) (fun w hS hN => ?_) ?_
            rotate_left 1
            · obtain ⟨k0, k1, k2⟩ := HKS.out w ((HXG.out.trans HX9.out).trans hS)
              clear hN
              go_simp
              try simp only [hpos, hne]
              refine givesP_mk ?_
              with_reducible rfl
            refine rg_pure (v := ?_) rfl (by kernel_rfl) (by kernel_rfl) (fun w hS hN => ?_) ?_
            rotate_left 1
            · clear hN
              go_simp
              try simp only [hpos, hne]
              refine givesP_mk ?_
              with_reducible rfl
            refine rg_pure (v := ?_) rfl (by kernel_rfl) (by kernel_rfl) (fun w hS hN => ?_) ?_
            rotate_left 1
            · clear hN
              go_simp
              try simp only [hpos, hne]
              refine givesP_mk ?_
              with_reducible rfl
            refine rg_pure (v := ?_) rfl (by kernel_rfl) (by kernel_rfl) (fun w hS hN => ?_) ?_
            rotate_left 1
            · clear hN
              go_simp
              try simp only [hpos, hne]
              refine givesP_mk ?_
              with_reducible rfl
            refine rg_pure (v := ?_) rfl (by kernel_rfl) (by kernel_rfl) (fun w hS hN => ?_) ?_
            rotate_left 1
            · have k0 := HY.out w ((HXG.out.trans HX9.out).trans hS)
              clear hN
              go_simp
              try simp only [hpos, hne]
              refine givesP_mk ?_
              with_reducible rfl
            refine rg_pure (v := ?_) rfl (by kernel_rfl) (by kernel_rfl) (fun w hS hN => ?_) ?_
            rotate_left 1
            · clear hN
              go_simp
              try simp only [hpos, hne]
              refine givesP_mk ?_
              with_reducible rfl
            refine rg_pure (v := ?_) rfl (by kernel_rfl) (by kernel_rfl) (fun w hS hN => ?_) ?_
            rotate_left 1
            · obtain ⟨k0, k1, k2, k3⟩ := HKG.out w (HX9.out.trans hS)
              clear hN
              go_simp
              try simp only [hpos, hne]
              refine givesP_mk ?_
              with_reducible rfl
            refine rg_pure (v := ?_) rfl (by kernel_rfl) (by kernel_rfl) (fun w hS hN => ?_) ?_
            rotate_left 1
            · clear hN
              go_simp
              try simp only [hpos, hne]
              refine givesP_mk ?_
              with_reducible rfl
            refine rg_pure (v := ?_) rfl (by kernel_rfl) (by kernel_rfl) (fun w hS hN => ?_) ?_
            rotate_left 1
            · clear hN
              go_simp
              try simp only [hpos, hne]
              refine givesP_mk ?_
              with_reducible rfl
            refine rg_done rfl (Nat.le_of_ble_eq_true (by kernel_rfl)) ?_
            intro w8 hS hT
            have HX8 := Lib.hid (HX9.out.trans hS)
            clear hT hS
            go_simp
            go_wp2
            go_roundw
            case rel => exact ⟨k + 1, by omega, by go_num, HX8.out⟩
            case measure => simp [intOf]; omega
          · obtain rfl : k = i := by omega
            go_wp2
            go_roundw
            case rel => exact ⟨k + 1, by omega, by go_num, HXG.out.trans HX9.out⟩
            case measure => simp [intOf]; omega
      · have HCNT := Lib.hid hcnt
        clear hcnt
        have e2 : (st == 2) = false := by simp [hst]
        have e4 : (st == 4) = true := by simp [hst]
        have hpos : decide ((0 : Int) < m) = true := by simp; omega
        refine region_rgx ([(21, (fun u => u = .int .i64 0 : Value → Prop), (fun _ _ => True : (Nat → GV) → World → Prop))]) (wG) (by kernel_rfl) (by kernel_rfl) ?_ ?_ ?_
        · exact List.forall_mem_cons.2 ⟨⟨⟨_, rfl⟩, fun _ _ _ _ _ => trivial, fun _ _ _ _ _ => trivial⟩, List.forall_mem_nil _⟩
        · first | assumption | exact Ext.refl _
        refine rg_pure (v := ?_) rfl (by kernel_rfl) (by kernel_rfl) (fun w hS hN => ?_) ?_
        rotate_left 1
        · clear hN
          go_simp
          try simp only [hpos, e2, e4]
          refine givesP_mk ?_
          with_reducible rfl
        refine rg_pure (v := ?_) rfl (by kernel_rfl) (by kernel_rfl) (fun w hS hN => ?_) ?_
        rotate_left 1
        · obtain ⟨k0, k1, k2, k3⟩ := HKG.out w hS
          clear hN
          go_simp
          try simp only [hpos, e2, e4]
          refine givesP_mk ?_
          with_reducible rfl
        refine rg_pure (v := ?_) rfl (by kernel_rfl) (by kernel_rfl) (fun w hS hN => ?_) ?_
        rotate_left 1
        · clear hN
          go_simp
          try simp only [hpos, e2, e4]
          refine givesP_mk ?_
          with_reducible rfl
        refine rg_pure (v := ?_) rfl (by kernel_rfl) (by kernel_rfl) (fun w hS hN => ?_) ?_
        rotate_left 1
        · clear hN
          go_simp
          try simp only [hpos, e2, e4]
          refine givesP_mk ?_
          with_reducible rfl
        refine rg_pure (v := ?_) rfl (by kernel_rfl) (by kernel_rfl) (fun w hS hN => ?_) ?_
        rotate_left 1
        · obtain ⟨k0, k1, k2, k3⟩ := HKG.out w hS
          clear hN
          go_simp
          try simp only [hpos, e2, e4]
          refine givesP_mk ?_
          with_reducible rfl
        refine rg_pure (v := ?_) rfl (by kernel_rfl) (by kernel_rfl) (fun w hS hN => ?_) ?_
        rotate_left 1
        · clear hN
          go_simp
          try simp only [hpos, e2, e4]
          refine givesP_mk ?_
          with_reducible rfl
        refine rg_pure (v := ?_) rfl (by kernel_rfl) (by kernel_rfl) (fun w hS hN => ?_) ?_
        rotate_left 1
        · clear hN
          go_simp
          try simp only [hpos, e2, e4]
          refine givesP_mk ?_
          with_reducible rfl
        refine rg_pure (v := ?_) rfl (by kernel_rfl) (by kernel_rfl) (fun w hS hN => ?_) ?_
        rotate_left 1
        · clear hN
          go_simp
          try simp only [hpos, e2, e4]
          refine givesP_mk ?_
          with_reducible rfl
        refine rg_pure (v := ?_) rfl (by kernel_rfl) (by kernel_rfl) (fun w hS hN => ?_) ?_
        rotate_left 1
        · obtain ⟨k0, k1, k2, k3⟩ := HKG.out w hS
          clear hN
          go_simp
          try simp only [hpos, e2, e4]
          refine givesP_mk ?_
          with_reducible rfl
        refine rg_pure (v := ?_) rfl (by kernel_rfl) (by kernel_rfl) (fun w hS hN => ?_) ?_
        rotate_left 1
        · clear hN
          go_simp
          try simp only [hpos, e2, e4]
          refine givesP_mk ?_
          with_reducible rfl
        refine rg_pure (v := ?_) rfl (by kernel_rfl) (by kernel_rfl) (fun w hS hN => ?_) ?_
        rotate_left 1
        · clear hN
          go_simp
          try simp only [hpos, e2, e4]
          refine givesP_mk ?_
          with_reducible rfl
        refine rg_pure (v := ?_) rfl (by kernel_rfl) (by kernel_rfl) (fun w hS hN => ?_) ?_
        rotate_left 1
        · clear hN
          go_simp
          try simp only [hpos, e2, e4]
          refine givesP_mk ?_
          with_reducible rfl
        refine rg_pure (v := ?_) rfl (by kernel_rfl) (by kernel_rfl) (fun w hS hN => ?_) ?_
        rotate_left 1
        · clear hN
          go_simp
          try simp only [hpos, e2, e4]
          refine givesP_mk ?_
          with_reducible rfl
        refine rg_pure (v := ?_) rfl (by kernel_rfl) (by kernel_rfl) (fun w hS hN => ?_) ?_
        rotate_left 1
        · clear hN
          go_simp
          try simp only [hpos, e2, e4]
          refine givesP_mk ?_
          with_reducible rfl
        refine rg_pure (v := ?_) rfl (by kernel_rfl) (by kernel_rfl) (fun w hS hN => ?_) ?_
        rotate_left 1
        · obtain ⟨k0, k1, k2, k3⟩ := HKG.out w hS
          clear hN
          go_simp
          try simp only [hpos, e2, e4]
          refine givesP_mk ?_
          with_reducible rfl
        refine rg_pure (v := ?_) rfl (by kernel_rfl) (by kernel_rfl) (fun w hS hN => ?_) ?_
        rotate_left 1
        · clear hN
          go_simp
          try simp only [hpos, e2, e4]
          refine givesP_mk ?_
          with_reducible rfl
        refine rg_pure (v := ?_) rfl (by kernel_rfl) (by kernel_rfl) (fun w hS hN => ?_) ?_
        rotate_left 1
        · clear hN
          go_simp
          try simp only [hpos, e2, e4]
          refine givesP_mk ?_
          with_reducible rfl
        refine rg_pure (v := ?_) rfl (by kernel_rfl) (by kernel_rfl) (fun w hS hN => ?_) ?_
        rotate_left 1
        · clear hN
          go_simp
          try simp only [hpos, e2, e4]
          refine givesP_mk ?_
          with_reducible rfl
        refine rg_pure (v := ?_) rfl (by kernel_rfl) (by kernel_rfl) (fun w hS hN => ?_) ?_
        rotate_left 1
        · obtain ⟨k0, k1, k2⟩ := HKS.out w (HXG.out.trans hS)
          clear hN
          go_simp
          try simp only [hpos, e2, e4]
          refine givesP_mk ?_
          with_reducible rfl
        refine rg_pure (v := ?_) rfl (by kernel_rfl) (by kernel_rfl) (fun w hS hN => ?_) ?_
        rotate_left 1
        · clear hN
          go_simp
          try simp only [hpos, e2, e4]
          refine givesP_mk ?_
          with_reducible rfl
        refine rg_pure (v := ?_) rfl (by kernel_rfl) (by kernel_rfl) (fun w hS hN => ?_) ?_
        rotate_left 1
        · obtain ⟨k0, k1, k2, k3⟩ := HKG.out w hS
          clear hN
          go_simp
          try simp only [hpos, e2, e4]
          refine givesP_mk ?_
          with_reducible rfl
        refine rg_mem (fun u => u = .int .i64 0 : Value → Prop) (fun _ _ => True : (Nat → GV) → World → Prop) (fun _ => Ext) rfl rfl rfl rfl (by kernel_rfl) (by kernel_rfl) (fun w hS hN R hR => ?_) ?_
        · have HR := Lib.hid hR
          clear hR
          (try clear hN)
          go_simp
          refine givesM_call ((rholds_k _ ps m 0 w HCNT.out (H2.out.ext (HXG.out.trans hS)) (by omega)).mono ?_)
          rintro e w' ⟨rfl, rfl⟩
          exact ⟨_, rfl, HR.out _ _ rfl trivial (Ext.refl _)⟩
        rintro u21 s21 t21 rfl
        refine rg_pure (v := ?_) rfl (by kernel_rfl) (by kernel_rfl) (fun w hS hN => ?_) ?_
        rotate_left 1
        · clear hN
          go_simp
          try simp only [hpos, e2, e4]
          refine givesP_mk ?_
          with_reducible rfl
        refine rg_pure (v := ?_) rfl (by kernel_rfl) (by kernel_rfl) (fun w hS hN => ?_) ?_
        rotate_left 1
        · clear hN
          go_simp
          try simp only [hpos, e2, e4]
          refine givesP_mk ?_
          with_reducible rfl
        refine rg_pure (v := ?_) rfl (by kernel_rfl) (by kernel_rfl) (fun w hS hN => ?_) ?_
        rotate_left 1
        · obtain ⟨k0, k1, k2, k3⟩ := HKG.out w hS
          clear hN
          go_simp
          try simp only [hpos, e2, e4]
          refine givesP_mk ?_
          with_reducible rfl
        refine rg_pure (v := ?_) rfl (by kernel_rfl) (by kernel_rfl) (fun w hS hN => ?_) ?_
        rotate_left 1
        · clear hN
          go_simp
          try simp only [hpos, e2, e4]
          refine givesP_mk ?_
          with_reducible rfl
        refine rg_pure (v := ?_) rfl (by kernel_rfl) (by kernel_rfl) (fun w hS hN => ?_) ?_
        rotate_left 1
        · clear hN
          go_simp
          try simp only [hpos, e2, e4]
          refine givesP_mk ?_
          with_reducible rfl
        refine rg_pure (v := ?_) rfl (by kernel_rfl) (by kernel_rfl) (fun w hS hN => ?_) ?_
        rotate_left 1
        · clear hN
          go_simp
          try simp only [hpos, e2, e4]
          refine givesP_mk ?_
          with_reducible rfl
        refine rg_pure (v := ?_) rfl (by kernel_rfl) (by kernel_rfl) (fun w hS hN => ?_) ?_
        rotate_left 1
        · clear hN
          go_simp
          try simp only [hpos, e2, e4]
          refine givesP_mk ?_
          with_reducible rfl
        refine rg_done rfl (Nat.le_of_ble_eq_true (by kernel_rfl)) ?_
        intro w8 hS hT
        have HX8 := Lib.hid hS
        clear hT hS
        go_simp
        go_wp2
        go_loopw [7] (fun kv wz => ∃ k : Nat, k ≤ i ∧ kv = .int .i64 k ∧ Ext wG wz) (fun kv _ => i - (intOf kv).toNat)
        case atStart => exact ⟨0, by omega, rfl, HX8.out⟩
        case round =>
          clear HX8
          obtain ⟨k, hk, rfl, hx9⟩ := hrel
          have HX9 := Lib.hid hx9
          clear hx9
          by_cases hki : k < i
          · have hkl : k < gs.length := by omega
            have HNE := Lib.hid (HDIS.out k hki)
            have HY0 := Lib.hid (HCELL.out k hkl)
            obtain ⟨y, hy⟩ : ∃ y, gs[k].2.2.1 = y := ⟨_, rfl⟩
            have HY : Hid (∀ v, Ext w3 v → v.cell? ⟨bb, o + k * 4 + 2, none⟩ = some (.int .i64 y)) := Lib.hid (by rw [← hy]; exact HY0.out)
            have hne : (y == m) = false := by rw [← hy]; simpa using HNE.out (by omega)
            have i0 : (0 : Int) ≤ (k : Int) := by omega
            have i1 : (k : Int) < (gs.length : Int) := by omega
            clear hy HY0
            go_wp2
            refine region_rgx ([]) (wr) (by kernel_rfl) (by kernel_rfl) ?_ ?_ ?_
            · exact List.forall_mem_nil _
            · first | assumption | exact Ext.refl _
            refine rg_pure (v := ?_) rfl (by kernel_rfl) (by kernel_rfl) (fun w hS hN => ?_) ?_
            rotate_left 1
            · clear hN
              go_simp
              try simp only [hpos, hne]
              refine givesP_mk ?_
              with_reducible rfl
            refine rg_pure (v := ?_) rfl (by kernel_rfl) (by kernel_rfl) (fun w hS hN => ?_) ?_
            rotate_left 1
            · obtain ⟨k0, k1, k2, k3⟩ := HKG.out w (HX9.out.trans hS)
              clear hN
              go_simp
              try simp only [hpos, hne]
              refine givesP_mk ?_
              with_reducible rfl
            refine rg_pure (v := ?_) rfl (by kernel_rfl) (by kernel_rfl) (fun w hS hN => ?_) ?_
            rotate_left 1
            · clear hN
              go_simp
              try simp only [hpos, hne]
              refine givesP_mk ?_
              with_reducible rfl
            refine rg_pure (v := ?_) rfl (by kernel_rfl) (by kernel_rfl) (fun w hS hN => ?_) ?_
            rotate_left 1
            · clear hN
              go_simp
              try simp only [hpos, hne]
              refine givesP_mk ?_
              with_reducible rfl
            refine rg_pure (v := ?_) rfl (by kernel_rfl) (by kernel_rfl) (fun w hS hN => ?_) ?_
            rotate_left 1
            · clear hN
              go_simp
              try simp only [hpos, hne]
              refine givesP_mk ?_
              with_reducible rfl
            refine rg_pure (v := ?_) rfl (by kernel_rfl) (by kernel_rfl) (fun w hS hN => ?_) ?_
            rotate_left 1
            · obtain ⟨k0, k1, k2⟩ := HKS.out w ((HXG.out.trans HX9.out).trans hS)
              clear hN
              go_simp
              try simp only [hpos, hne]
              refine givesP_mk ?_
              with_reducible rfl
            refine rg_pure (v := ?_) rfl (by kernel_rfl) (by kernel_rfl) (fun w hS hN => ?_) ?_
            rotate_left 1
            · clear hN
              go_simp
              try simp only [hpos, hne]
              refine givesP_mk ?_
              with_reducible rfl
            refine rg_pure (v := ?_) rfl (by kernel_rfl) (by kernel_rfl) (fun w hS hN => ?_) ?_
            rotate_left 1
            · clear hN
              go_simp
              try simp only [hpos, hne]
              refine givesP_mk ?_
              with_reducible rfl
            refine rg_pure (v := ?_) rfl (by kernel_rfl) (by kernel_rfl) (fun w hS hN => ?_) ?_
            rotate_left 1
            · clear hN
              go_simp
              try simp only [hpos, hne]
              refine givesP_mk ?_
              with_reducible rfl
            refine rg_pure (v := ?_) rfl (by kernel_rfl) (by kernel_rfl) (fun w hS hN => ?_) ?_
            rotate_left 1
            · have k0 := HY.out w ((HXG.out.trans HX9.out).trans hS)
              clear hN
              go_simp
              try simp only [hpos, hne]
              refine givesP_mk ?_
              with_reducible rfl
            refine rg_pure (v := ?_) rfl (by kernel_rfl) (by kernel_rfl) (fun w hS hN => ?_) ?_
            rotate_left 1
            · clear hN
              go_simp
              try simp only [hpos, hne]
              refine givesP_mk ?_
              with_reducible rfl
            refine rg_pure (v := ?_) rfl (by kernel_rfl) (by kernel_rfl) (fun w hS hN => ?_) ?_
            rotate_left 1
            · obtain ⟨k0, k1, k2, k3⟩ := HKG.out w (HX9.out.trans hS)
              clear hN
              go_simp
              try simp only [hpos, hne]
              refine givesP_mk ?_
              with_reducible rfl
            refine rg_pure (v := ?_) rfl (by kernel_rfl) (by kernel_rfl) (fun w hS hN => ?_) ?_
            rotate_left 1
            · clear hN
              go_simp
              try simp only [hpos, hne]
              refine givesP_mk ?_
              with_reducible rfl
            refine rg_pure (v := ?_) rfl (by kernel_rfl) (by kernel_rfl) (fun w hS hN => ?_) ?_
            rotate_left 1
            · clear hN
              go_simp
              try simp only [hpos, hne]
              refine givesP_mk ?_
              with_reducible rfl
            refine rg_done rfl (Nat.le_of_ble_eq_true (by kernel_rfl)) ?_
            intro w8 hS hT
            have HX8 := Lib.hid (HX9.out.trans hS)
            clear hT hS
            go_simp
            go_wp2
            go_roundw
            case rel => exact ⟨k + 1, by omega, by go_num, HX8.out⟩
            case measure => simp [intOf]; omega
          · obtain rfl : k = i := by omega
            go_wp2
            go_roundw
            case rel => exact ⟨k + 1, by omega, by go_num, HXG.out.trans HX9.out⟩
            case measure => simp [intOf]; omega
      · skip
        have e2 : (st == 2) = false := by simp; omega
        have e4 : (st == 4) = false := by simp; omega
        have hpos : decide ((0 : Int) < m) = false := by simp; omega
        refine region_rgx ([]) (wG) (by kernel_rfl) (by kernel_rfl) ?_ ?_ ?_
        · exact List.forall_mem_nil _
        · first | assumption | exact Ext.refl _
        refine rg_pure (v := ?_) rfl (by kernel_rfl) (by kernel_rfl) (fun w hS hN => ?_) ?_
        rotate_left 1
        · clear hN
          go_simp
          try simp only [hpos, e2, e4]
          refine givesP_mk ?_
          with_reducible rfl
        refine rg_pure (v := ?_) rfl (by kernel_rfl) (by kernel_rfl) (fun w hS hN => ?_) ?_
        rotate_left 1
        · obtain ⟨k0, k1, k2, k3⟩ := HKG.out w hS
          clear hN
          go_simp
          try simp only [hpos, e2, e4]
          refine givesP_mk ?_
          with_reducible rfl
        refine rg_pure (v := ?_) rfl (by kernel_rfl) (by kernel_rfl) (fun w hS hN => ?_) ?_
        rotate_left 1
        · clear hN
          go_simp
          try simp only [hpos, e2, e4]
          refine givesP_mk ?_
          with_reducible rfl
        refine rg_pure (v := ?_) rfl (by kernel_rfl) (by kernel_rfl) (fun w hS hN => ?_) ?_
        rotate_left 1
        · clear hN
          go_simp
          try simp only [hpos, e2, e4]
          refine givesP_mk ?_
          with_reducible rfl
        refine rg_pure (v := ?_) rfl (by kernel_rfl) (by kernel_rfl) (fun w hS hN => ?_) ?_
        rotate_left 1
        · obtain ⟨k0, k1, k2, k3⟩ := HKG.out w hS
          clear hN
          go_simp
          try simp only [hpos, e2, e4]
          refine givesP_mk ?_
          with_reducible rfl
        refine rg_pure (v := ?_) rfl (by kernel_rfl) (by kernel_rfl) (fun w hS hN => ?_) ?_
        rotate_left 1
        · clear hN
          go_simp
          try simp only [hpos, e2, e4]
          refine givesP_mk ?_
          with_reducible rfl
        refine rg_pure (v := ?_) rfl (by kernel_rfl) (by kernel_rfl) (fun w hS hN => ?_) ?_
        rotate_left 1
        · clear hN
          go_simp
          try simp only [hpos, e2, e4]
          refine givesP_mk ?_
          with_reducible rfl
        refine rg_pure (v := ?_) rfl (by kernel_rfl) (by kernel_rfl) (fun w hS hN => ?_) ?_
        rotate_left 1
        · clear hN
          go_simp
          try simp only [hpos, e2, e4]
          refine givesP_mk ?_
          with_reducible rfl
        refine rg_pure (v := ?_) rfl (by kernel_rfl) (by kernel_rfl) (fun w hS hN => ?_) ?_
        rotate_left 1
        · obtain ⟨k0, k1, k2, k3⟩ := HKG.out w hS
          clear hN
          go_simp
          try simp only [hpos, e2, e4]
          refine givesP_mk ?_
          with_reducible rfl
        refine rg_pure (v := ?_) rfl (by kernel_rfl) (by kernel_rfl) (fun w hS hN => ?_) ?_
        rotate_left 1
        · clear hN
          go_simp
          try simp only [hpos, e2, e4]
          refine givesP_mk ?_
          with_reducible rfl
        refine rg_pure (v := ?_) rfl (by kernel_rfl) (by kernel_rfl) (fun w hS hN => ?_) ?_
        rotate_left 1
        · clear hN
          go_simp
          try simp only [hpos, e2, e4]
          refine givesP_mk ?_
          with_reducible rfl
        refine rg_pure (v := ?_) rfl (by kernel_rfl) (by kernel_rfl) (fun w hS hN => ?_) ?_
        rotate_left 1
        · clear hN
          go_simp
          try simp only [hpos, e2, e4]
          refine givesP_mk ?_
          with_reducible rfl
        refine rg_pure (v := ?_) rfl (by kernel_rfl) (by kernel_rfl) (fun w hS hN => ?_) ?_
        rotate_left 1
        · clear hN
          go_simp
          try simp only [hpos, e2, e4]
          refine givesP_mk ?_
          with_reducible rfl
        refine rg_pure (v := ?_) rfl (by kernel_rfl) (by kernel_rfl) (fun w hS hN => ?_) ?_
        rotate_left 1
        · clear hN
          go_simp
          try simp only [hpos, e2, e4]
          refine givesP_mk ?_
          with_reducible rfl
        refine rg_pure (v := ?_) rfl (by kernel_rfl) (by kernel_rfl) (fun w hS hN => ?_) ?_
        rotate_left 1
        · obtain ⟨k0, k1, k2, k3⟩ := HKG.out w hS
          clear hN
          go_simp
          try simp only [hpos, e2, e4]
          refine givesP_mk ?_
          with_reducible rfl
        refine rg_pure (v := ?_) rfl (by kernel_rfl) (by kernel_rfl) (fun w hS hN => ?_) ?_
        rotate_left 1
        · clear hN
          go_simp
          try simp only [hpos, e2, e4]
          refine givesP_mk ?_
          with_reducible rfl
        refine rg_pure (v := ?_) rfl (by kernel_rfl) (by kernel_rfl) (fun w hS hN => ?_) ?_
        rotate_left 1
        · clear hN
          go_simp
          try simp only [hpos, e2, e4]
          refine givesP_mk ?_
          with_reducible rfl
        refine rg_no rfl (by kernel_rfl) (by kernel_rfl) ?_
        refine rg_no rfl (by kernel_rfl) (by kernel_rfl) ?_
        refine rg_no rfl (by kernel_rfl) (by kernel_rfl) ?_
        refine rg_no rfl (by kernel_rfl) (by kernel_rfl) ?_
        refine rg_no rfl (by kernel_rfl) (by kernel_rfl) ?_
        refine rg_no rfl (by kernel_rfl) (by kernel_rfl) ?_
        refine rg_no rfl (by kernel_rfl) (by kernel_rfl) ?_
        refine rg_no rfl (by kernel_rfl) (by kernel_rfl) ?_
        refine rg_no rfl (by kernel_rfl) (by kernel_rfl) ?_
        refine rg_no rfl (by kernel_rfl) (by kernel_rfl) ?_
        refine rg_pure (v := ?_) rfl (by kernel_rfl) (by kernel_rfl) (fun w hS hN => ?_) ?_
        rotate_left 1
        · clear hN
          go_simp
          try simp only [hpos, e2, e4]
          refine givesP_mk ?_
          with_reducible rfl
        refine rg_pure (v := ?_) rfl (by kernel_rfl) (by kernel_rfl) (fun w hS hN => ?_) ?_
        rotate_left 1
        · clear hN
          go_simp
          try simp only [hpos, e2, e4]
          refine givesP_mk ?_
          with_reducible rfl
        refine rg_done rfl (Nat.le_of_ble_eq_true (by kernel_rfl)) ?_
        intro w8 hS hT
        have HX8 := Lib.hid hS
        clear hT hS
        go_simp
        go_wp2
        go_loopw [7] (fun kv wz => ∃ k : Nat, k ≤ i ∧ kv = .int .i64 k ∧ Ext wG wz) (fun kv _ => i - (intOf kv).toNat)
        case atStart => exact ⟨0, by omega, rfl, HX8.out⟩
        case round =>
          clear HX8
          obtain ⟨k, hk, rfl, hx9⟩ := hrel
          have HX9 := Lib.hid hx9
          clear hx9
          by_cases hki : k < i
          · have hkl : k < gs.length := by omega
            have HNE := Lib.hid (HDIS.out k hki)
            have HY0 := Lib.hid (HCELL.out k hkl)
            obtain ⟨y, hy⟩ : ∃ y, gs[k].2.2.1 = y := ⟨_, rfl⟩
            have HY : Hid (∀ v, Ext w3 v → v.cell? ⟨bb, o + k * 4 + 2, none⟩ = some (.int .i64 y)) := Lib.hid (by rw [← hy]; exact HY0.out)
            skip
            have i0 : (0 : Int) ≤ (k : Int) := by omega
            have i1 : (k : Int) < (gs.length : Int) := by omega
            clear hy HY0
            go_wp2
            refine region_rgx ([]) (wr) (by kernel_rfl) (by kernel_rfl) ?_ ?_ ?_
            · exact List.forall_mem_nil _
            · first | assumption | exact Ext.refl _
            refine rg_pure (v := ?_) rfl (by kernel_rfl) (by kernel_rfl) (fun w hS hN => ?_) ?_
            rotate_left 1
            · clear hN
              go_simp
              try simp only [hpos]
              refine givesP_mk ?_
              with_reducible rfl
            refine rg_pure (v := ?_) rfl (by kernel_rfl) (by kernel_rfl) (fun w hS hN => ?_) ?_
            rotate_left 1
            · obtain ⟨k0, k1, k2, k3⟩ := HKG.out w (HX9.out.trans hS)
              clear hN
              go_simp
              try simp only [hpos]
              refine givesP_mk ?_
              with_reducible rfl
            refine rg_pure (v := ?_) rfl (by kernel_rfl) (by kernel_rfl) (fun w hS hN => ?_) ?_
            rotate_left 1
            · clear hN
              go_simp
              try simp only [hpos]
              refine givesP_mk ?_
              with_reducible rfl
            refine rg_pure (v := ?_) rfl (by kernel_rfl) (by kernel_rfl) (fun w hS hN => ?_) ?_
            rotate_left 1
            · clear hN
              go_simp
              try simp only [hpos]
              refine givesP_mk ?_
              with_reducible rfl
            refine rg_no rfl (by kernel_rfl) (by kernel_rfl) ?_
            refine rg_no rfl (by kernel_rfl) (by kernel_rfl) ?_
            refine rg_no rfl (by kernel_rfl) (by kernel_rfl) ?_
            refine rg_no rfl (by kernel_rfl) (by kernel_rfl) ?_
            refine rg_no rfl (by kernel_rfl) (by kernel_rfl) ?_
            refine rg_no rfl (by kernel_rfl) (by kernel_rfl) ?_
            refine rg_no rfl (by kernel_rfl) (by kernel_rfl) ?_
            refine rg_no rfl (by kernel_rfl) (by kernel_rfl) ?_
            refine rg_no rfl (by kernel_rfl) (by kernel_rfl) ?_
            refine rg_pure (v := ?_) rfl (by kernel_rfl) (by kernel_rfl) (fun w hS hN => ?_) ?_
            rotate_left 1
            · clear hN
              go_simp
              try simp only [hpos]
              refine givesP_mk ?_
              with_reducible rfl
            refine rg_done rfl (Nat.le_of_ble_eq_true (by kernel_rfl)) ?_
            intro w8 hS hT
            have HX8 := Lib.hid (HX9.out.trans hS)
            clear hT hS
            go_simp
            go_wp2
            go_roundw
            case rel => exact ⟨k + 1, by omega, by go_num, HX8.out⟩
            case measure => simp [intOf]; omega
          · obtain rfl : k = i := by omega
            go_wp2
            go_roundw
            case rel => exact ⟨k + 1, by omega, by go_num, HXG.out.trans HX9.out⟩
            case measure => simp [intOf]; omega
    · obtain rfl : i = gs.length := by omega
      have hat := HAT.out
      by_cases ha0 : at0 < 0
      · clear HAT
        go_wp2
        go_ret
        exact ⟨rfl, HX3.out.trans HX.out⟩
      · by_cases ha1 : (gs.length : Int) ≤ at0
        · clear HAT
          go_wp2
          go_ret
          exact ⟨by first | rfl | (simp; done) | (simp; omega), HX3.out.trans HX.out⟩
        · obtain ⟨k, rfl⟩ := Int.eq_ofNat_of_zero_le (show 0 ≤ at0 by omega)
          have hkg : k < gs.length := by omega
          obtain ⟨_, _, hv, hd, hA3⟩ := H3.out.ext HX.out
          simp only [Value.slice.injEq, true_and] at hv
          obtain ⟨rfl, rfl⟩ := hv
          obtain ⟨bb, o, rfl, hbb, hcell⟩ := hA3 (by omega)
          have HR3 : Hid (RowsAt 4 snGCells wr (.slice (some ⟨bb, o, none⟩) gs.length d) gs) := Lib.hid (H3.out.ext HX.out)
          have HR2 := Lib.hid (H2.out.ext HX.out)
          have HMAY := Lib.hid (Sn.may_less HM.out (sub_less gs k))
          have HLT : Hid ((gs.take k).length = k) := Lib.hid (by rw [List.length_take]; omega)
          have HLD : Hid ((gs.drop (k + 1)).length = gs.length - (k + 1)) := Lib.hid List.length_drop
          have hkk : ¬ (k : Int) < 0 := by omega
          have hkg2 : ¬ (gs.length : Int) ≤ (k : Int) := by omega
          clear HAT hat ha0 ha1 hA3 hcell HM hlt
          go_upto_region 17 with fail
          obtain ⟨j0, J0', J1', J2', J3'⟩ := info_parts Try.infoGStat
          have J0 := Lib.hid J0'
          have J1 := Lib.hid J1'
          have J2 := Lib.hid J2'
          have J3 := Lib.hid J3'
          clear J0' J1' J2' J3'
          have HXT : Hid (Ext wr (wr.alloc (.cells #[.int .i64 time, .slice A ps.length c, .slice (some ⟨bb, o, none⟩) gs.length d] 25))) := Lib.hid ((Ext.refl wr).alloc _)
          have HBT : Hid ((wr.alloc (.cells #[.int .i64 time, .slice A ps.length c, .slice (some ⟨bb, o, none⟩) gs.length d] 25)).heap[wr.heap.size]? = some (.cells #[.int .i64 time, .slice A ps.length c, .slice (some ⟨bb, o, none⟩) gs.length d] 25 (0, 0))) := Lib.hid (blk_new wr _)
          have HZT : Hid (wr.heap.size + 1 = (wr.alloc (.cells #[.int .i64 time, .slice A ps.length c, .slice (some ⟨bb, o, none⟩) gs.length d] 25)).heap.size) := Lib.hid (by rw [World.size_alloc])
          generalize hwT : wr.alloc (.cells #[.int .i64 time, .slice A ps.length c, .slice (some ⟨bb, o, none⟩) gs.length d] 25) = wT at *
          obtain ⟨tb, htb⟩ : ∃ b, wr.heap.size = b := ⟨_, rfl⟩
          have htb1 : wr.heap.size ≤ tb := by omega
          have htb2 : tb + 1 ≤ wT.heap.size := by have := HZT.out; omega
          rw [htb] at HBT ⊢
          have hext := HXT.out
          have HW := Lib.hid (IntWalk.i64_in ((k : Int) + 1) (by omega) : IntKind.i64.wrap ((k : Int) + 1) = (k : Int) + 1)
          have HTN : Hid (((k : Int) + 1).toNat = k + 1) := Lib.hid (by omega)
          have HLO : Hid (0 ≤ (k : Int) + 1 ∧ (k : Int) + 1 ≤ (gs.length : Int)) := Lib.hid (by omega)
          have HSUM : Hid (k + (gs.length - (k + 1)) = gs.length - 1) := Lib.hid (by omega)
          have HKD : Hid (k ≤ d) := Lib.hid (by omega)
          obtain ⟨E, hE⟩ : ∃ E, (if d = k + 1 then some (⟨bb, o, none⟩ : Addr) else some ⟨bb, o + (k + 1) * 4, none⟩) = E := ⟨_, rfl⟩
          have HPA : Hid (RowsAt 4 snGCells wr (.slice (some ⟨bb, o, none⟩) k d) (gs.take k)) := Lib.hid (by
            have := HR3.out.part 0 k (by omega) (by omega) (some ⟨bb, o, none⟩) d (by omega) (fun _ => by simp)
            simpa using this)
          have HPB : Hid (RowsAt 4 snGCells wr (.slice E (gs.length - (k + 1)) (d - (k + 1))) (gs.drop (k + 1))) := Lib.hid (by
            have := HR3.out.part (k + 1) gs.length (by omega) (by omega) E (d - (k + 1)) (by first | done | omega) (fun h => by rw [← hE, if_neg (by omega)]; rfl)
            rwa [List.take_of_length_le (by rw [List.length_drop]; exact Nat.le_refl _)] at this)
          have HE := Lib.hid hE
          clear hE
          have hkk0 : ∃ x, wT.heap[tb]? = some (.cells #[.int .i64 time, .slice A ps.length c, x] 25 (0, 0)) := ⟨_, HBT.out⟩
          clear q0 q1 q2 hwT htb HZT HXT
          refine region_rgz ([(0, (fun u => ∃ g, u = .slice (some ⟨g, 0, none⟩) 0 0 : Value → Prop), (fun u w => RowG 36 4 snGCells (tb + 1) w (u 0).v [] [u 0] : (Nat → GV) → World → Prop)), (5, (fun u => ∃ A c, u = .slice A k c : Value → Prop), (fun u w => RowG 36 4 snGCells (tb + 1) w (u 5).v (gs.take k) [u 5, u 0] : (Nat → GV) → World → Prop)), (11, (fun u => ∃ A c, u = .slice A (gs.length - 1) c : Value → Prop), (fun u w => RowG 36 4 snGCells (tb + 1) w (u 11).v (gs.take k ++ gs.drop (k + 1)) [u 11, u 5, u 0] : (Nat → GV) → World → Prop)), (13, (fun u => u = undef : Value → Prop), (fun u w => w.heap[tb]? = some (.cells #[.int .i64 time, .slice A ps.length c, (u 11).v] 25 (0, 0)) : (Nat → GV) → World → Prop))]) (wr) (tb + 1) (tb) (13) (fun w => ∃ x, w.heap[tb]? = some (.cells #[.int .i64 time, .slice A ps.length c, x] 25 (0, 0))) ([(5, 0, [0]), (11, k * 4, [5, 0])]) (by kernel_rfl) (by kernel_rfl) ?_ ?_ (by omega) (fun w w2 hl hk => by obtain ⟨x, hx⟩ := hk; exact ⟨x, (hl _ (by omega)).trans hx⟩) ?_ ?_ ?_ ?_
          · exact List.forall_mem_cons.2 ⟨List.forall_mem_cons.2 ⟨by kernel_rfl, List.forall_mem_nil _⟩, List.forall_mem_cons.2 ⟨List.forall_mem_cons.2 ⟨by kernel_rfl, List.forall_mem_cons.2 ⟨by kernel_rfl, List.forall_mem_nil _⟩⟩, List.forall_mem_nil _⟩⟩
          · exact List.forall_mem_cons.2 ⟨⟨⟨_, 0, rfl⟩, fun u v w h ht => by show (fun u w => RowG 36 4 snGCells (tb + 1) w (u 0).v [] [u 0] : (Nat → GV) → World → Prop) v w; dsimp only; rw [← h 0 (.inl rfl) (by kernel_rfl)]; exact ht, fun u w w2 hx ht => ht.ext hx, List.forall_mem_cons.2 ⟨fun _ hp => by first | (intro u w w2 hap hc ht; refine ht.chg hc ?_; simp; done) | exact rg_vac hp (by kernel_rfl), List.forall_mem_cons.2 ⟨fun _ hp => by first | (intro u w w2 hap hc ht; refine ht.chg hc ?_; simp; done) | exact rg_vac hp (by kernel_rfl), List.forall_mem_nil _⟩⟩, fun _ u w w2 hz ht => ht.updz hz (by omega)⟩, List.forall_mem_cons.2 ⟨⟨⟨_, none, 0, rfl⟩, fun u v w h ht => by show (fun u w => RowG 36 4 snGCells (tb + 1) w (u 5).v (gs.take k) [u 5, u 0] : (Nat → GV) → World → Prop) v w; dsimp only; rw [← h 5 (.inl rfl) (by kernel_rfl), ← h 0 (.inr (by kernel_rfl)) (by kernel_rfl)]; exact ht, fun u w w2 hx ht => ht.ext hx, List.forall_mem_cons.2 ⟨fun hne => absurd rfl hne, List.forall_mem_cons.2 ⟨fun _ hp => by first | (intro u w w2 hap hc ht; (refine ht.chg hc (Nat.le_of_eq ?_); show (gs.take k).length * 4 = k * 4; rw [HLT.out]); done) | exact rg_vac hp (by kernel_rfl), List.forall_mem_nil _⟩⟩, fun _ u w w2 hz ht => ht.updz hz (by omega)⟩, List.forall_mem_cons.2 ⟨⟨⟨_, none, 0, rfl⟩, fun u v w h ht => by show (fun u w => RowG 36 4 snGCells (tb + 1) w (u 11).v (gs.take k ++ gs.drop (k + 1)) [u 11, u 5, u 0] : (Nat → GV) → World → Prop) v w; dsimp only; rw [← h 11 (.inl rfl) (by kernel_rfl), ← h 5 (.inr (by kernel_rfl)) (by kernel_rfl), ← h 0 (.inr (by kernel_rfl)) (by kernel_rfl)]; exact ht, fun u w w2 hx ht => ht.ext hx, List.forall_mem_cons.2 ⟨fun _ hp => by first | (intro u w w2 hap hc ht; refine ht.chg hc ?_; simp; done) | exact rg_vac hp (by kernel_rfl), List.forall_mem_cons.2 ⟨fun hne => absurd rfl hne, List.forall_mem_nil _⟩⟩, fun _ u w w2 hz ht => ht.updz hz (by omega)⟩, List.forall_mem_cons.2 ⟨⟨⟨_, rfl⟩, fun u v w h ht => by show (fun u w => w.heap[tb]? = some (.cells #[.int .i64 time, .slice A ps.length c, (u 11).v] 25 (0, 0)) : (Nat → GV) → World → Prop) v w; dsimp only; rw [← h 11 (.inr (by kernel_rfl)) (by kernel_rfl)]; exact ht, fun u w w2 hx ht => hx.blk ht, List.forall_mem_cons.2 ⟨fun _ hp => by first | (intro u w w2 hap hc ht; refine ht.chg hc ?_; simp; done) | exact rg_vac hp (by kernel_rfl), List.forall_mem_cons.2 ⟨fun _ hp => by first | (intro u w w2 hap hc ht; refine ht.chg hc ?_; simp; done) | exact rg_vac hp (by kernel_rfl), List.forall_mem_nil _⟩⟩, fun hne => absurd rfl hne⟩, List.forall_mem_nil _⟩⟩⟩⟩
          · first | assumption | exact Ext.refl _
          · first | assumption | omega
          · assumption
          refine rg_mem (fun u => ∃ g, u = .slice (some ⟨g, 0, none⟩) 0 0 : Value → Prop) (fun u w => RowG 36 4 snGCells (tb + 1) w (u 0).v [] [u 0] : (Nat → GV) → World → Prop) (fun _ => Ext) rfl rfl rfl rfl (by kernel_rfl) (by kernel_rfl) (fun w hS hN R hR => ?_) ?_
          · obtain ⟨hS, hM, hK⟩ := hS
            have HR := Lib.hid hR
            clear hR
            (try clear hN)
            go_simp
            exact givesM_val (HR.out _ _ ⟨_, rfl⟩ (RowG.made hM _ _) ((Ext.refl w).alloc _))
          rintro u0 s0 t0 ⟨g0, rfl⟩
          refine rg_pure (v := ?_) rfl (by kernel_rfl) (by kernel_rfl) (fun w hS hN => ?_) ?_
          rotate_left 1
          · obtain ⟨hS, hM, hK⟩ := hS
            clear hN
            go_simp
            refine givesP_mk ?_
            with_reducible rfl
          refine rg_pure (v := ?_) rfl (by kernel_rfl) (by kernel_rfl) (fun w hS hN => ?_) ?_
          rotate_left 1
          · obtain ⟨hS, hM, hK⟩ := hS
            obtain ⟨k0, k1, k2⟩ := HKS.out w (HX.out.trans hS)
            clear hN
            go_simp
            refine givesP_mk ?_
            with_reducible rfl
          refine rg_pure (v := ?_) rfl (by kernel_rfl) (by kernel_rfl) (fun w hS hN => ?_) ?_
          rotate_left 1
          · obtain ⟨hS, hM, hK⟩ := hS
            clear hN
            go_simp
            refine givesP_mk ?_
            with_reducible rfl
          refine rg_pure (v := ?_) rfl (by kernel_rfl) (by kernel_rfl) (fun w hS hN => ?_) ?_
          rotate_left 1
          · obtain ⟨hS, hM, hK⟩ := hS
            have e1 := HKD.out
            clear hN
            go_simp
            refine givesP_mk ?_
            with_reducible rfl
          refine rg_mem (fun u => ∃ A c, u = .slice A k c : Value → Prop) (fun u w => RowG 36 4 snGCells (tb + 1) w (u 5).v (gs.take k) [u 5, u 0] : (Nat → GV) → World → Prop) (fun u w w2 => (ChgIn (wr) (0) ([0].map u)) w w2 ∧ LowSame (tb + 1) w w2) rfl rfl rfl rfl (by kernel_rfl) (by kernel_rfl) (fun w hS hN R hR => ?_) ?_
          · obtain ⟨hS, hM, hK⟩ := hS
            have HR := Lib.hid hR
            clear hR
            have h3 : RowG 36 4 snGCells (tb + 1) w (.slice (some ⟨g0, 0, none⟩) 0 0) [] _ := hN.get 0 rfl (by kernel_rfl)
            obtain ⟨u', w', hr, ⟨A', c', rfl⟩, ho, hc, hl⟩ := RowG.append 23 Try.underlying23 J0.out J1.out J2.out J3.out rfl (by decide) snGC_len snGC_one hS h3 (by omega) hM HLT.out.symm (HPA.out.ext hS) (by rw [HLT.out]; simp [maxLen]; omega) (by rw [HLT.out]; simp; omega)
            simp only [List.length_nil, Nat.zero_add, HLT.out, List.nil_append, Nat.zero_mul] at hr ho hc
            refine givesM_append _ _ 23 rfl _ _ (by go_simp) (by go_simp) hr ?_
            exact HR.out _ _ ⟨_, _, rfl⟩ ho ⟨hc, hl⟩
          rintro u5 s5 t5 ⟨A5, c5, rfl⟩
          refine rg_pure (v := ?_) rfl (by kernel_rfl) (by kernel_rfl) (fun w hS hN => ?_) ?_
          rotate_left 1
          · obtain ⟨hS, hM, hK⟩ := hS
            clear hN
            go_simp
            refine givesP_mk ?_
            with_reducible rfl
          refine rg_pure (v := ?_) rfl (by kernel_rfl) (by kernel_rfl) (fun w hS hN => ?_) ?_
          rotate_left 1
          · obtain ⟨hS, hM, hK⟩ := hS
            obtain ⟨k0, k1, k2⟩ := HKS.out w (HX.out.trans hS)
            clear hN
            go_simp
            refine givesP_mk ?_
            with_reducible rfl
          refine rg_pure (v := ?_) rfl (by kernel_rfl) (by kernel_rfl) (fun w hS hN => ?_) ?_
          rotate_left 1
          · obtain ⟨hS, hM, hK⟩ := hS
            clear hN
            go_simp
            refine givesP_mk ?_
            with_reducible rfl
          refine rg_pure (v := ?_) rfl (by kernel_rfl) (by kernel_rfl) (fun w hS hN => ?_) ?_
          rotate_left 1
          · obtain ⟨hS, hM, hK⟩ := hS
            have e1 := HW.out
            clear hN
            go_simp
            refine givesP_mk ?_
            with_reducible rfl
          refine rg_pure (v := ?_) rfl (by kernel_rfl) (by kernel_rfl) (fun w hS hN => ?_) ?_
          rotate_left 1
          · obtain ⟨hS, hM, hK⟩ := hS
            obtain ⟨e1, e2⟩ := HLO.out
            have e3 := HTN.out
            have e4 := HE.out
            clear hN
            go_simp
            refine givesP_mk ?_
            with_reducible rfl
          refine rg_mem (fun u => ∃ A c, u = .slice A (gs.length - 1) c : Value → Prop) (fun u w => RowG 36 4 snGCells (tb + 1) w (u 11).v (gs.take k ++ gs.drop (k + 1)) [u 11, u 5, u 0] : (Nat → GV) → World → Prop) (fun u w w2 => (ChgIn (wr) (k * 4) ([5, 0].map u)) w w2 ∧ LowSame (tb + 1) w w2) rfl rfl rfl rfl (by kernel_rfl) (by kernel_rfl) (fun w hS hN R hR => ?_) ?_
          · obtain ⟨hS, hM, hK⟩ := hS
            have HR := Lib.hid hR
            clear hR
            have h5 : RowG 36 4 snGCells (tb + 1) w (.slice A5 k c5) (gs.take k) _ := hN.get 5 rfl (by kernel_rfl)
            obtain ⟨u', w', hr, ⟨A', c', rfl⟩, ho, hc, hl⟩ := RowG.append 23 Try.underlying23 J0.out J1.out J2.out J3.out rfl (by decide) snGC_len snGC_one hS h5 (by omega) hM HLD.out.symm (HPB.out.ext hS) (by rw [HLT.out, HLD.out]; unfold maxLen; omega) (by rw [HLT.out, HLD.out]; omega)
            rw [HLT.out, HLD.out, HSUM.out] at hr
            simp only [HLT.out, HLD.out, HSUM.out] at ho hc
            refine givesM_append _ _ 23 rfl _ _ (by go_simp) (by go_simp) hr ?_
            exact HR.out _ _ ⟨_, _, rfl⟩ ho ⟨hc, hl⟩
          rintro u11 s11 t11 ⟨A11, c11, rfl⟩
          refine rg_pure (v := ?_) rfl (by kernel_rfl) (by kernel_rfl) (fun w hS hN => ?_) ?_
          rotate_left 1
          · obtain ⟨hS, hM, hK⟩ := hS
            clear hN
            go_simp
            refine givesP_mk ?_
            with_reducible rfl
          refine rg_mem (fun u => u = undef : Value → Prop) (fun u w => w.heap[tb]? = some (.cells #[.int .i64 time, .slice A ps.length c, (u 11).v] 25 (0, 0)) : (Nat → GV) → World → Prop) (fun _ w w2 => Upd (tb) w w2 ∧ (fun w => ∃ x, w.heap[tb]? = some (.cells #[.int .i64 time, .slice A ps.length c, x] 25 (0, 0)) : World → Prop) w2) rfl rfl rfl rfl (by kernel_rfl) (by kernel_rfl) (fun w hS hN R hR => ?_) ?_
          · obtain ⟨hS, hM, hK⟩ := hS
            have HR := Lib.hid hR
            clear hR
            obtain ⟨x, hx⟩ := hK
            have HXK := Lib.hid hx
            clear hx
            have y2 := blk_cell HXK.out 2 _ rfl
            have f2 := frozen_of_row _ _ 2 _ _ HXK.out
            (try clear hN)
            go_simp
            refine givesM_skipz (HR.out _ _ rfl (blk_set HXK.out 2 _) ⟨(Upd.refl _ _).set 2 _, ⟨_, blk_set HXK.out 2 _⟩⟩)
          rintro u13 s13 t13 rfl
          refine rg_done rfl (Nat.le_of_ble_eq_true (by kernel_rfl)) ?_
          intro w8 hS hT
          have h11 : RowG 36 4 snGCells (tb + 1) w8 (.slice A11 (gs.length - 1) c11) (gs.take k ++ gs.drop (k + 1)) _ := hT (11, ⟨.slice A11 (gs.length - 1) c11, s11, t11⟩) (by simp)
          have h13 : w8.heap[tb]? = some (.cells #[.int .i64 time, .slice A ps.length c, .slice A11 (gs.length - 1) c11] 25 (0, 0)) := hT (13, ⟨undef, s13, t13⟩) (by simp)
          have hll : (gs.take k ++ gs.drop (k + 1)).length = gs.length - 1 := by rw [List.length_append, HLT.out, HLD.out, HSUM.out]
          have hrow := h11.1.rows snGC_len
          have HSN : Hid (SnAt w8 (.agg #[.int .i64 time, .slice A ps.length c, .slice A11 (gs.length - 1) c11]) ⟨time, ps, gs.take k ++ gs.drop (k + 1)⟩) := Lib.hid ⟨A, c, A11, c11, by simp only [hll], HR2.out.ext hS.1, by simp only [hll]; exact hrow⟩
          have HLL : Hid ((gs.take k ++ gs.drop (k + 1)).length ≤ 10000) := Lib.hid (by rw [hll]; omega)
          have HX8 := Lib.hid (HX3.out.trans (HX.out.trans hS.1))
          have q0 := blk_cell h13 0 _ rfl
          have q1 := blk_cell h13 1 _ rfl
          have q2 := blk_cell h13 2 _ rfl
          clear h11 h13 hll hrow hS hT HPA HPB HW HTN HLO HKD HE HSUM HLT HLD HR2 HR3 HBT hext hkk0 J0 J1 J2 J3
          go_simp
          go_wp2_with fail
          refine (snmay_k _ ⟨time, ps, gs.take k ++ gs.drop (k + 1)⟩ true _ HMAY.out HSN.out (by simp only; omega) HLL.out).mono ?_
          rintro r w9 ⟨rfl, hx9⟩
          go_wp2
          go_ret
          exact ⟨rfl, HX8.out.trans hx9⟩

set_option maxRecDepth 100000 in
set_option maxHeartbeats 1000000 in
theorem snms_out (time at0 : Int) (ps : List (Int × Int)) (gs : List Gs4) (A B : Option Addr) (c d : Nat) (w : World) (h2 : RowsAt 2 snPCells w (.slice A ps.length c) ps) (h3 : RowsAt 4 snGCells w (.slice B gs.length d) gs) (hm : 70 < ps.length ∨ 100 < gs.length ∨ Sn.may ⟨time, ps, gs⟩ = false) :
    Calls Try.prog 5 #[.agg #[.int .i64 time, .slice A ps.length c, .slice B gs.length d], .int .i64 at0] w fun e w' => e = .returned (.bool true) ∧ Ext w w' := by
  have HB := Lib.hid (blk_new w (.cells #[.int .i64 time, .slice A ps.length c, .slice B gs.length d] 25))
  have H2 := Lib.hid h2
  have H3 := Lib.hid h3
  have HM := Lib.hid hm
  clear h2 h3 hm
  have HX0 : Hid (Ext w (w.alloc (.cells #[.int .i64 time, .slice A ps.length c, .slice B gs.length d] 25))) := Lib.hid ((Ext.refl w).alloc _)
  go_enter Try.func5, Try.ntmps5
  go_wp2_with fail
  refine (snfixed_yes _).mono ?_
  rintro r w1 ⟨rfl, hx1⟩
  have HB1 := Lib.hid (hx1.blk HB.out)
  have HX1 := Lib.hid (HX0.out.trans hx1)
  clear hx1 HB HX0
  have q0 := blk_cell HB1.out 0 _ rfl
  have q1 := blk_cell HB1.out 1 _ rfl
  have q2 := blk_cell HB1.out 2 _ rfl
  by_cases hsm : ps.length ≤ 70 ∧ gs.length ≤ 100
  · have hmay : Sn.may ⟨time, ps, gs⟩ = false := by rcases HM.out with h | h | h; omega; omega; exact h
    have HMAY := Lib.hid hmay
    have hl1 : ps.length ≤ 10000 := by omega
    have hl2 : gs.length ≤ 10000 := by omega
    have HSM : Hid ((decide (ps.length ≤ 70) && decide (gs.length ≤ 100)) = true) := Lib.hid (by simp [hsm])
    clear hmay HM hsm
    go_wp2_with fail
    refine (rsmall_any _ ⟨time, ps, gs⟩ _ ⟨A, c, B, d, rfl, H2.out.ext HX1.out, H3.out.ext HX1.out⟩ true HSM.out).mono ?_
    rintro r w2 ⟨rfl, hx2⟩
    clear q0 q1 q2
    have HB2 := Lib.hid (hx2.blk HB1.out)
    have HX2 := Lib.hid (HX1.out.trans hx2)
    clear hx2 HB1 HX1
    have q0 := blk_cell HB2.out 0 _ rfl
    have q1 := blk_cell HB2.out 1 _ rfl
    have q2 := blk_cell HB2.out 2 _ rfl
    go_wp2_with fail
    refine (snmay_k _ ⟨time, ps, gs⟩ false _ HMAY.out ⟨A, c, B, d, rfl, H2.out.ext HX2.out, H3.out.ext HX2.out⟩ (by simp only; omega) (by simp only; omega)).mono ?_
    rintro r w3 ⟨rfl, hx3⟩
    clear q0 q1 q2
    go_wp2_with fail
    refine (snfixed_yes _).mono ?_
    rintro r w4 ⟨rfl, hx4⟩
    go_wp2
    go_ret
    exact ⟨rfl, (HX2.out.trans hx3).trans hx4⟩
  · have HSM : Hid ((decide (ps.length ≤ 70) && decide (gs.length ≤ 100)) = false) := Lib.hid (by simp; omega)
    clear HM hsm
    go_wp2_with fail
    refine (rsmall_any _ ⟨time, ps, gs⟩ _ ⟨A, c, B, d, rfl, H2.out.ext HX1.out, H3.out.ext HX1.out⟩ false HSM.out).mono ?_
    rintro r w2 ⟨rfl, hx2⟩
    clear q0 q1 q2
    go_wp2_with fail
    refine (snfixed_yes _).mono ?_
    rintro r w4 ⟨rfl, hx4⟩
    go_wp2
    go_ret
    exact ⟨rfl, (HX1.out.trans hx2).trans hx4⟩
theorem walk_SnapMs (v : Value) (s : Sn) (at0 : Int) (w : World) (hs : SnAt w v s) (_ : SnIn s) (ha : (Lit.int .i64 at0).wf = true) :
    Calls Try.prog 5 #[v, .int .i64 at0] w fun e w' => e = .returned (.bool true) ∧ Ext w w' := by
  obtain ⟨A, c, B, d, rfl, h2, h3⟩ := hs
  obtain ⟨time, ps, gs⟩ := s
  simp only at h2 h3 ⊢
  by_cases h : 70 < ps.length ∨ 100 < gs.length ∨ Sn.may ⟨time, ps, gs⟩ = false
  · exact snms_out time at0 ps gs A B c d w h2 h3 h
  · refine snms_in time at0 ps gs A B c d w h2 h3 (by omega) (by omega) ?_ ha
    cases hm : Sn.may ⟨time, ps, gs⟩ with
    | true => rfl
    | false => exact absurd (.inr (.inr hm)) h

end Go.Proofs.Ythkogcgdikgkaaa
