/-
  The statement SnapTells: its walk.
-/
import Derived.Test.YthkogcgdikgkaaaMz
set_option linter.unusedVariables false
set_option linter.unusedSimpArgs false
namespace Go.Proofs.Ythkogcgdikgkaaa
open Go.RowKit Go.Maps

theorem rsndec_k (s : ByteArray) (x : Sn) (r : Int) (w : World) (hd : snDec s = (x, r)) (hs : s.size ≤ maxLen) : Calls Try.prog 11 #[.string s] w (SnValP w x r) :=
  (rsndec_any s w hs).mono fun e w' ⟨v, he, hv, hx⟩ => by
    rw [hd] at he hv
    obtain ⟨A, c, B, d, rfl, h2, h3⟩ := hv
    exact ⟨A, c, B, d, he, h2, h3, hx⟩
theorem snDec_len {t : ByteArray} {x : Sn} {r : Int} (h : snDec t = (x, r)) : x.ps.length ≤ 10000 ∧ x.gs.length ≤ 10000 := by
  by_cases hr : r = 0
  · subst hr
    obtain ⟨h1, _⟩ := snDec_ok h
    obtain ⟨_, h2, h3, _⟩ := Sn.may_all h1
    omega
  · rw [snDec_no h hr]
    exact ⟨by simp [Sn.zero], by simp [Sn.zero]⟩
set_option maxRecDepth 100000 in
set_option maxHeartbeats 1000000 in
theorem sntells_out (time : Int) (ps : List (Int × Int)) (gs : List Gs4) (A B : Option Addr) (c d : Nat) (t : ByteArray) (w : World) (h2 : RowsAt 2 snPCells w (.slice A ps.length c) ps) (h3 : RowsAt 4 snGCells w (.slice B gs.length d) gs) (ht : t.size ≤ maxLen)
    (hm : ¬ (ps.length ≤ 70 ∧ gs.length ≤ 100) ∨ ((ps.length ≤ 70 ∧ gs.length ≤ 100) ∧ 2000 < t.size)) :
    Calls Try.prog 3 #[.agg #[.int .i64 time, .slice A ps.length c, .slice B gs.length d], .string t] w fun e w' => e = .returned (.bool true) ∧ Ext w w' := by
  have H2 := Lib.hid h2
  have H3 := Lib.hid h3
  clear h2 h3
  unfold maxLen at ht
  have HB := Lib.hid (blk_new w (.cells #[.int .i64 time, .slice A ps.length c, .slice B gs.length d] 25))
  obtain ⟨sb, hsb⟩ : ∃ b, w.heap.size = b := ⟨_, rfl⟩
  obtain ⟨w1, hw1⟩ : ∃ v, w.alloc (.cells #[.int .i64 time, .slice A ps.length c, .slice B gs.length d] 25) = v := ⟨_, rfl⟩
  have HX1 : Hid (Ext w w1) := Lib.hid (by rw [← hw1]; exact (Ext.refl w).alloc _)
  have HB1 : Hid (w1.heap[sb]? = some (.cells #[.int .i64 time, .slice A ps.length c, .slice B gs.length d] 25 (0, 0))) := Lib.hid (by rw [← hw1, ← hsb]; exact blk_new w _)
  have HSB := Lib.hid hsb
  have HW1 := Lib.hid hw1
  clear hsb hw1 HB
  rcases hm with hsm | ⟨hsm, h2000⟩
  · have HSM : Hid ((decide (ps.length ≤ 70) && decide (gs.length ≤ 100)) = false) := Lib.hid (by simp; omega)
    clear hsm
    go_enter Try.func3, Try.ntmps3
    go_wp2_with fail
    rw [HW1.out]
    (try rw [HSB.out])
    clear HW1 HSB
    refine (rsmall_any _ ⟨time, ps, gs⟩ _ ⟨A, c, B, d, rfl, H2.out.ext HX1.out, H3.out.ext HX1.out⟩ false HSM.out).mono ?_
    rintro e w2 ⟨rfl, hx2⟩
    go_wp2_with fail
    refine (snfixed_yes _).mono ?_
    rintro r w4 ⟨rfl, hx4⟩
    go_wp2
    go_ret
    exact ⟨rfl, (HX1.out.trans hx2).trans hx4⟩
  · have HSM : Hid ((decide (ps.length ≤ 70) && decide (gs.length ≤ 100)) = true) := Lib.hid (by simp [hsm])
    clear hsm
    go_enter Try.func3, Try.ntmps3
    go_wp2_with fail
    rw [HW1.out]
    (try rw [HSB.out])
    clear HW1 HSB
    refine (rsmall_any _ ⟨time, ps, gs⟩ _ ⟨A, c, B, d, rfl, H2.out.ext HX1.out, H3.out.ext HX1.out⟩ true HSM.out).mono ?_
    rintro e w2 ⟨rfl, hx2⟩
    go_wp2_with fail
    refine (snfixed_yes _).mono ?_
    rintro r w4 ⟨rfl, hx4⟩
    go_wp2
    go_ret
    exact ⟨rfl, (HX1.out.trans hx2).trans hx4⟩
set_option maxRecDepth 100000 in
set_option maxHeartbeats 1000000 in
theorem sntells_in (time : Int) (ps : List (Int × Int)) (gs : List Gs4) (A B : Option Addr) (c d : Nat) (t : ByteArray) (w : World) (h2 : RowsAt 2 snPCells w (.slice A ps.length c) ps) (h3 : RowsAt 4 snGCells w (.slice B gs.length d) gs) (hp : ps.length ≤ 70) (hg : gs.length ≤ 100) (ht : t.size ≤ 2000) :
    Calls Try.prog 3 #[.agg #[.int .i64 time, .slice A ps.length c, .slice B gs.length d], .string t] w fun e w' => e = .returned (.bool true) ∧ Ext w w' := by
  have H2 := Lib.hid h2
  have H3 := Lib.hid h3
  clear h2 h3
  have HB := Lib.hid (blk_new w (.cells #[.int .i64 time, .slice A ps.length c, .slice B gs.length d] 25))
  obtain ⟨sb, hsb⟩ : ∃ b, w.heap.size = b := ⟨_, rfl⟩
  obtain ⟨w1, hw1⟩ : ∃ v, w.alloc (.cells #[.int .i64 time, .slice A ps.length c, .slice B gs.length d] 25) = v := ⟨_, rfl⟩
  have HX1 : Hid (Ext w w1) := Lib.hid (by rw [← hw1]; exact (Ext.refl w).alloc _)
  have HB1 : Hid (w1.heap[sb]? = some (.cells #[.int .i64 time, .slice A ps.length c, .slice B gs.length d] 25 (0, 0))) := Lib.hid (by rw [← hw1, ← hsb]; exact blk_new w _)
  have HSB := Lib.hid hsb
  have HW1 := Lib.hid hw1
  clear hsb hw1 HB
  have HSM : Hid ((decide (ps.length ≤ 70) && decide (gs.length ≤ 100)) = true) := Lib.hid (by simp [hp, hg])
  have hl1 : ps.length ≤ 10000 := by omega
  have hl2 : gs.length ≤ 10000 := by omega
  obtain ⟨⟨x, rr⟩, hxd⟩ : ∃ p, snDec t = p := ⟨_, rfl⟩
  have HXD := Lib.hid hxd
  have HXL := Lib.hid (snDec_len hxd)
  obtain ⟨mb, hmb⟩ : ∃ b, Sn.may ⟨time, ps, gs⟩ = b := ⟨_, rfl⟩
  have HMB := Lib.hid hmb
  obtain ⟨u, hu⟩ : ∃ b, Sn.enc ⟨time, ps, gs⟩ = b := ⟨_, rfl⟩
  have HU := Lib.hid hu
  clear hxd hmb hu
  go_enter Try.func3, Try.ntmps3
  go_wp2_with fail
  rw [HW1.out]
  (try rw [HSB.out])
  clear HW1 HSB
  refine (rsmall_any _ ⟨time, ps, gs⟩ _ ⟨A, c, B, d, rfl, H2.out.ext HX1.out, H3.out.ext HX1.out⟩ true HSM.out).mono ?_
  rintro e w2 ⟨rfl, hx2⟩
  have HB2 := Lib.hid (hx2.blk HB1.out)
  have HX2 := Lib.hid (HX1.out.trans hx2)
  clear hx2 HB1 HX1
  go_wp2_with fail
  refine (sndec_k t x rr _ HXD.out (by unfold maxLen; omega)).mono ?_
  rintro r w3 ⟨A2, c2, B2, d2, rfl, hr1, hr2, hx3⟩
  have HS3 : Hid (SnAt (w3.alloc (.cells #[.int .i64 x.time, .slice A2 x.ps.length c2, .slice B2 x.gs.length d2] 25)) (.agg #[.int .i64 x.time, .slice A2 x.ps.length c2, .slice B2 x.gs.length d2]) x) := Lib.hid (SnAt.ext ⟨A2, c2, B2, d2, rfl, hr1, hr2⟩ ((Ext.refl w3).alloc _))
  have HB3 := Lib.hid (blk_alloc (hx3.blk HB2.out) (.cells #[.int .i64 x.time, .slice A2 x.ps.length c2, .slice B2 x.gs.length d2] 25))
  have HA3 := Lib.hid (blk_new w3 (.cells #[.int .i64 x.time, .slice A2 x.ps.length c2, .slice B2 x.gs.length d2] 25))
  have HX3 := Lib.hid ((HX2.out.trans hx3).alloc (.cells #[.int .i64 x.time, .slice A2 x.ps.length c2, .slice B2 x.gs.length d2] 25))
  clear hr1 hr2 hx3 HB2 HX2
  go_upto_region 4 with fail
  generalize w3.alloc (.cells #[.int .i64 x.time, .slice A2 x.ps.length c2, .slice B2 x.gs.length d2] 25) = w4 at *
  generalize w3.heap.size = ab at *
  clear w3 w2
  go_wp2_with fail
  refine (rsndec_k t x rr _ HXD.out (by unfold maxLen; omega)).mono ?_
  rintro r w5 ⟨A3, c3, B3, d3, rfl, hr1, hr2, hx5⟩
  have HS5 : Hid (SnAt (w5.alloc (.cells #[.int .i64 x.time, .slice A3 x.ps.length c3, .slice B3 x.gs.length d3] 25)) (.agg #[.int .i64 x.time, .slice A3 x.ps.length c3, .slice B3 x.gs.length d3]) x) := Lib.hid (SnAt.ext ⟨A3, c3, B3, d3, rfl, hr1, hr2⟩ ((Ext.refl w5).alloc _))
  have hx5' := hx5.alloc (.cells #[.int .i64 x.time, .slice A3 x.ps.length c3, .slice B3 x.gs.length d3] 25)
  have HB5 := Lib.hid (hx5'.blk HB3.out)
  have HA5 := Lib.hid (hx5'.blk HA3.out)
  have HC5 := Lib.hid (blk_new w5 (.cells #[.int .i64 x.time, .slice A3 x.ps.length c3, .slice B3 x.gs.length d3] 25))
  have HT5 := Lib.hid (HS3.out.ext hx5')
  have HX5 := Lib.hid (HX3.out.trans hx5')
  clear hr1 hr2 hx5 hx5' HB3 HA3 HX3 HS3
  go_upto_region 5 with fail
  generalize w5.alloc (.cells #[.int .i64 x.time, .slice A3 x.ps.length c3, .slice B3 x.gs.length d3] 25) = w6 at *
  generalize w5.heap.size = bb at *
  clear w5 w4
  have KS := Lib.hid fun (v : World) (hv : Ext w6 v) => (⟨blk_cell (hv.blk HB5.out) 0 _ rfl, blk_cell (hv.blk HB5.out) 1 _ rfl, blk_cell (hv.blk HB5.out) 2 _ rfl⟩ : v.cell? ⟨sb, 0, none⟩ = some (.int .i64 time) ∧ v.cell? ⟨sb, 1, none⟩ = some (.slice A ps.length c) ∧ v.cell? ⟨sb, 2, none⟩ = some (.slice B gs.length d))
  have KA := Lib.hid fun (v : World) (hv : Ext w6 v) => (⟨blk_cell (hv.blk HA5.out) 0 _ rfl, blk_cell (hv.blk HA5.out) 1 _ rfl, blk_cell (hv.blk HA5.out) 2 _ rfl⟩ : v.cell? ⟨ab, 0, none⟩ = some (.int .i64 x.time) ∧ v.cell? ⟨ab, 1, none⟩ = some (.slice A2 x.ps.length c2) ∧ v.cell? ⟨ab, 2, none⟩ = some (.slice B2 x.gs.length d2))
  have KB := Lib.hid fun (v : World) (hv : Ext w6 v) => (⟨blk_cell (hv.blk HC5.out) 0 _ rfl, blk_cell (hv.blk HC5.out) 1 _ rfl, blk_cell (hv.blk HC5.out) 2 _ rfl⟩ : v.cell? ⟨bb, 0, none⟩ = some (.int .i64 x.time) ∧ v.cell? ⟨bb, 1, none⟩ = some (.slice A3 x.ps.length c3) ∧ v.cell? ⟨bb, 2, none⟩ = some (.slice B3 x.gs.length d3))
  have HSA : Hid (∀ v, Ext w6 v → SnAt v (.agg #[.int .i64 time, .slice A ps.length c, .slice B gs.length d]) ⟨time, ps, gs⟩) := Lib.hid fun v hv => ⟨A, c, B, d, rfl, H2.out.ext (HX5.out.trans hv), H3.out.ext (HX5.out.trans hv)⟩
  have h1 : (mb == mb) = true := by simp
  have h2 : (u.toList == u.toList) = true := by simp
  have h3 : (rr == rr) = true := by simp
  clear H2 H3 HB5 HA5 HC5 HXD
  refine region_rgx ([(0, (fun y => y = .bool true : Value → Prop), (fun _ _ => True : (Nat → GV) → World → Prop)), (3, (fun y => y = .bool mb : Value → Prop), (fun _ _ => True : (Nat → GV) → World → Prop)), (5, (fun y => y = .bool mb : Value → Prop), (fun _ _ => True : (Nat → GV) → World → Prop)), (10, (fun y => y = .string u : Value → Prop), (fun _ _ => True : (Nat → GV) → World → Prop)), (12, (fun y => y = .string u : Value → Prop), (fun _ _ => True : (Nat → GV) → World → Prop)), (18, (fun y => y = .bool true : Value → Prop), (fun _ _ => True : (Nat → GV) → World → Prop))]) (w6) (by kernel_rfl) (by kernel_rfl) ?_ ?_ ?_
  · exact List.forall_mem_cons.2 ⟨⟨⟨_, rfl⟩, fun _ _ _ _ _ => trivial, fun _ _ _ _ _ => trivial⟩, List.forall_mem_cons.2 ⟨⟨⟨_, rfl⟩, fun _ _ _ _ _ => trivial, fun _ _ _ _ _ => trivial⟩, List.forall_mem_cons.2 ⟨⟨⟨_, rfl⟩, fun _ _ _ _ _ => trivial, fun _ _ _ _ _ => trivial⟩, List.forall_mem_cons.2 ⟨⟨⟨_, rfl⟩, fun _ _ _ _ _ => trivial, fun _ _ _ _ _ => trivial⟩, List.forall_mem_cons.2 ⟨⟨⟨_, rfl⟩, fun _ _ _ _ _ => trivial, fun _ _ _ _ _ => trivial⟩, List.forall_mem_cons.2 ⟨⟨⟨_, rfl⟩, fun _ _ _ _ _ => trivial, fun _ _ _ _ _ => trivial⟩, List.forall_mem_nil _⟩⟩⟩⟩⟩⟩
  · first | assumption | exact Ext.refl _
  refine rg_mem (fun y => y = .bool true : Value → Prop) (fun _ _ => True : (Nat → GV) → World → Prop) (fun _ => Ext) rfl rfl rfl rfl (by kernel_rfl) (by kernel_rfl) (fun w hS hN R hR => ?_) ?_
  · have HR := Lib.hid hR
    clear hR
    (try clear hN)
    go_simp
    refine givesM_call ((snfixed_yes w).mono ?_)
    rintro e w' ⟨rfl, hx⟩
    exact ⟨_, rfl, HR.out _ _ rfl trivial hx⟩
  rintro u0 s0 t0 rfl
  refine rg_pure (v := ?_) rfl (by kernel_rfl) (by kernel_rfl) (fun w hS hN => ?_) ?_
  rotate_left 1
  · clear hN
    go_simp
    try simp only [h1, h2, h3]
    refine givesP_mk ?_
    with_reducible rfl
  refine rg_pure (v := ?_) rfl (by kernel_rfl) (by kernel_rfl) (fun w hS hN => ?_) ?_
  rotate_left 1
  · obtain ⟨k0, k1, k2⟩ := KS.out w hS
    clear hN
    go_simp
    try simp only [h1, h2, h3]
    refine givesP_mk ?_
    with_reducible rfl
  refine rg_mem (fun y => y = .bool mb : Value → Prop) (fun _ _ => True : (Nat → GV) → World → Prop) (fun _ => Ext) rfl rfl rfl rfl (by kernel_rfl) (by kernel_rfl) (fun w hS hN R hR => ?_) ?_
  · have HR := Lib.hid hR
    clear hR
    (try clear hN)
    go_simp
    refine givesM_call ((snmay_k _ ⟨time, ps, gs⟩ mb w HMB.out (HSA.out w hS) hl1 hl2).mono ?_)
    rintro e w' ⟨rfl, hx⟩
    exact ⟨_, rfl, HR.out _ _ rfl trivial hx⟩
  rintro u3 s3 t3 rfl
  refine rg_pure (v := ?_) rfl (by kernel_rfl) (by kernel_rfl) (fun w hS hN => ?_) ?_
  rotate_left 1
  · obtain ⟨k0, k1, k2⟩ := KS.out w hS
    clear hN
    go_simp
    try simp only [h1, h2, h3]
    refine givesP_mk ?_
    with_reducible rfl
  refine rg_mem (fun y => y = .bool mb : Value → Prop) (fun _ _ => True : (Nat → GV) → World → Prop) (fun _ => Ext) rfl rfl rfl rfl (by kernel_rfl) (by kernel_rfl) (fun w hS hN R hR => ?_) ?_
  · have HR := Lib.hid hR
    clear hR
    (try clear hN)
    go_simp
    refine givesM_call ((rsnmay_k _ ⟨time, ps, gs⟩ mb w HMB.out (HSA.out w hS) hl1 hl2).mono ?_)
    rintro e w' ⟨rfl, hx⟩
    exact ⟨_, rfl, HR.out _ _ rfl trivial hx⟩
  rintro u5 s5 t5 rfl
  refine rg_pure (v := ?_) rfl (by kernel_rfl) (by kernel_rfl) (fun w hS hN => ?_) ?_
  rotate_left 1
  · clear hN
    go_simp
    try simp only [h1, h2, h3]
    refine givesP_mk ?_
    with_reducible rfl
  refine rg_pure (v := ?_) rfl (by kernel_rfl) (by kernel_rfl) (fun w hS hN => ?_) ?_
  rotate_left 1
  · clear hN
    go_simp
    try simp only [h1, h2, h3]
    refine givesP_mk ?_
    with_reducible rfl
  refine rg_pure (v := ?_) rfl (by kernel_rfl) (by kernel_rfl) (fun w hS hN => ?_) ?_
  rotate_left 1
  · clear hN
    go_simp
    try simp only [h1, h2, h3]
    refine givesP_mk ?_
    with_reducible rfl
  refine rg_pure (v := ?_) rfl (by kernel_rfl) (by kernel_rfl) (fun w hS hN => ?_) ?_
  rotate_left 1
  · obtain ⟨k0, k1, k2⟩ := KS.out w hS
    clear hN
    go_simp
    try simp only [h1, h2, h3]
    refine givesP_mk ?_
    with_reducible rfl
  refine rg_mem (fun y => y = .string u : Value → Prop) (fun _ _ => True : (Nat → GV) → World → Prop) (fun _ => Ext) rfl rfl rfl rfl (by kernel_rfl) (by kernel_rfl) (fun w hS hN R hR => ?_) ?_
  · have HR := Lib.hid hR
    clear hR
    (try clear hN)
    go_simp
    refine givesM_call ((snenc_any' _ ⟨time, ps, gs⟩ u w HU.out (HSA.out w hS) hl1 hl2).mono ?_)
    rintro e w' ⟨rfl, hx⟩
    exact ⟨_, rfl, HR.out _ _ rfl trivial hx⟩
  rintro u10 s10 t10 rfl
  refine rg_pure (v := ?_) rfl (by kernel_rfl) (by kernel_rfl) (fun w hS hN => ?_) ?_
  rotate_left 1
  · obtain ⟨k0, k1, k2⟩ := KS.out w hS
    clear hN
    go_simp
    try simp only [h1, h2, h3]
    refine givesP_mk ?_
    with_reducible rfl
  refine rg_mem (fun y => y = .string u : Value → Prop) (fun _ _ => True : (Nat → GV) → World → Prop) (fun _ => Ext) rfl rfl rfl rfl (by kernel_rfl) (by kernel_rfl) (fun w hS hN R hR => ?_) ?_
  · have HR := Lib.hid hR
    clear hR
    (try clear hN)
    go_simp
    refine givesM_call ((rsnenc_k _ ⟨time, ps, gs⟩ u w HU.out (HSA.out w hS) hl1 hl2).mono ?_)
    rintro e w' ⟨rfl, hx⟩
    exact ⟨_, rfl, HR.out _ _ rfl trivial hx⟩
  rintro u12 s12 t12 rfl
  refine rg_pure (v := ?_) rfl (by kernel_rfl) (by kernel_rfl) (fun w hS hN => ?_) ?_
  rotate_left 1
  · clear hN
    go_simp
    try simp only [h1, h2, h3]
    refine givesP_mk ?_
    with_reducible rfl
  refine rg_pure (v := ?_) rfl (by kernel_rfl) (by kernel_rfl) (fun w hS hN => ?_) ?_
  rotate_left 1
  · clear hN
    go_simp
    try simp only [h1, h2, h3]
    refine givesP_mk ?_
    with_reducible rfl
  refine rg_pure (v := ?_) rfl (by kernel_rfl) (by kernel_rfl) (fun w hS hN => ?_) ?_
  rotate_left 1
  · clear hN
    go_simp
    try simp only [h1, h2, h3]
    refine givesP_mk ?_
    with_reducible rfl
  refine rg_pure (v := ?_) rfl (by kernel_rfl) (by kernel_rfl) (fun w hS hN => ?_) ?_
  rotate_left 1
  · obtain ⟨k0, k1, k2⟩ := KA.out w hS
    clear hN
    go_simp
    try simp only [h1, h2, h3]
    refine givesP_mk ?_
    with_reducible rfl
  refine rg_pure (v := ?_) rfl (by kernel_rfl) (by kernel_rfl) (fun w hS hN => ?_) ?_
  rotate_left 1
  · obtain ⟨k0, k1, k2⟩ := KB.out w hS
    clear hN
    go_simp
    try simp only [h1, h2, h3]
    refine givesP_mk ?_
    with_reducible rfl
  refine rg_mem (fun y => y = .bool true : Value → Prop) (fun _ _ => True : (Nat → GV) → World → Prop) (fun _ => Ext) rfl rfl rfl rfl (by kernel_rfl) (by kernel_rfl) (fun w hS hN R hR => ?_) ?_
  · have HR := Lib.hid hR
    clear hR
    (try clear hN)
    go_simp
    refine givesM_call ((rsnsame_any _ _ x x w (HT5.out.ext hS) (HS5.out.ext hS) HXL.out.1 HXL.out.2 true (by simp)).mono ?_)
    rintro e w' ⟨rfl, hx⟩
    exact ⟨_, rfl, HR.out _ _ rfl trivial hx⟩
  rintro u18 s18 t18 rfl
  refine rg_pure (v := ?_) rfl (by kernel_rfl) (by kernel_rfl) (fun w hS hN => ?_) ?_
  rotate_left 1
  · clear hN
    go_simp
    try simp only [h1, h2, h3]
    refine givesP_mk ?_
    with_reducible rfl
  refine rg_pure (v := ?_) rfl (by kernel_rfl) (by kernel_rfl) (fun w hS hN => ?_) ?_
  rotate_left 1
  · clear hN
    go_simp
    try simp only [h1, h2, h3]
    refine givesP_mk ?_
    with_reducible rfl
  refine rg_pure (v := ?_) rfl (by kernel_rfl) (by kernel_rfl) (fun w hS hN => ?_) ?_
  rotate_left 1
  · clear hN
    go_simp
    try simp only [h1, h2, h3]
    refine givesP_mk ?_
    with_reducible rfl
  refine rg_pure (v := ?_) rfl (by kernel_rfl) (by kernel_rfl) (fun w hS hN => ?_) ?_
  rotate_left 1
  · clear hN
    go_simp
    try simp only [h1, h2, h3]
    refine givesP_mk ?_
    with_reducible rfl
  refine rg_pure (v := ?_) rfl (by kernel_rfl) (by kernel_rfl) (fun w hS hN => ?_) ?_
  rotate_left 1
  · clear hN
    go_simp
    try simp only [h1, h2, h3]
    refine givesP_mk ?_
    with_reducible rfl
  refine rg_pure (v := ?_) rfl (by kernel_rfl) (by kernel_rfl) (fun w hS hN => ?_) ?_
  rotate_left 1
  · clear hN
    go_simp
    try simp only [h1, h2, h3]
    refine givesP_mk ?_
    with_reducible rfl
  refine rg_pure (v := ?_) rfl (by kernel_rfl) (by kernel_rfl) (fun w hS hN => ?_) ?_
  rotate_left 1
  · clear hN
    go_simp
    try simp only [h1, h2, h3]
    refine givesP_mk ?_
    with_reducible rfl
  refine rg_done rfl (Nat.le_of_ble_eq_true (by kernel_rfl)) ?_
  intro w8 hS hT
  go_simp
  go_wp2
  go_ret
  exact ⟨rfl, HX5.out.trans hS⟩
theorem walk_SnapTells (v : Value) (s : Sn) (t : ByteArray) (w : World) (hs : SnAt w v s) (_ : SnIn s) (ht : t.size ≤ maxLen) :
    Calls Try.prog 3 #[v, .string t] w fun e w' => e = .returned (.bool true) ∧ Ext w w' := by
  obtain ⟨A, c, B, d, rfl, h2, h3⟩ := hs
  obtain ⟨time, ps, gs⟩ := s
  simp only at h2 h3 ⊢
  by_cases h : ¬ (ps.length ≤ 70 ∧ gs.length ≤ 100) ∨ ((ps.length ≤ 70 ∧ gs.length ≤ 100) ∧ 2000 < t.size)
  · exact sntells_out time ps gs A B c d t w h2 h3 ht h
  · exact sntells_in time ps gs A B c d t w h2 h3 (by omega) (by omega) (by omega)

end Go.Proofs.Ythkogcgdikgkaaa
