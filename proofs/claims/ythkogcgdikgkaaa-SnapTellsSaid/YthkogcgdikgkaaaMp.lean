/-
  Layer 8's 'fixed': the calls whose answers the document fixes.
-/
import Derived.Test.YthkogcgdikgkaaaMo
set_option linter.unusedVariables false
set_option linter.unusedSimpArgs false
namespace Go.Proofs.Ythkogcgdikgkaaa
open Go.RowKit Go.Maps

def Sn.one : Sn := ⟨5, [(1, 2)], [(1, 2, 1, 3)]⟩
def Sn.bad : Sn := ⟨5, [(1, 2)], [(1, 2, 2, 3)]⟩
theorem Sn.one_may : Sn.one.may = true := by decide
theorem Sn.bad_may : Sn.bad.may = false := by decide
theorem Sn.one_enc : Sn.one.enc = ⟨#[5, 1, 1, 2, 1, 1, 2, 1, 3]⟩ := by
  unfold Sn.enc
  rw [if_pos Sn.one_may]
  congr 2
  simp [Sn.nums, Sn.one, snPNums, snGNums, Wi.cat, Va.put_small]
theorem Sn.bad_enc : Sn.bad.enc = ⟨#[]⟩ := by unfold Sn.enc; rw [Sn.bad_may]; rfl
theorem Sn.one_dec : snDec ⟨#[5, 1, 1, 2, 1, 1, 2, 1, 3]⟩ = (Sn.one, 0) := by kernel_rfl
theorem Sn.onex_dec : snDec ⟨#[5, 1, 1, 2, 1, 1, 2, 1, 3, 120]⟩ = (Sn.zero, 80) := by kernel_rfl
theorem Sn.nil_dec : snDec ⟨#[]⟩ = (Sn.zero, 10) := by kernel_rfl
def SnOneP (w : World) (e : Ending) (w' : World) : Prop := ∃ x y, e = .returned (.agg #[.int .i64 5, .slice (some ⟨x, 0, none⟩) 1 1, .slice (some ⟨y, 0, none⟩) 1 1]) ∧ w.heap.size ≤ x ∧ x < y ∧ w'.heap[x]? = some (.cells #[.int .i64 1, .int .i64 2] 46 (0, 0)) ∧ w'.heap[y]? = some (.cells #[.int .i64 1, .int .i64 2, .int .i64 1, .int .i64 3] 36 (0, 0)) ∧ Ext w w'
theorem snone_k (w : World) : Calls Try.prog 18 #[] w (SnOneP w) :=
  (snone_any w).mono fun e w' ⟨he, hw⟩ => by
    obtain ⟨h1, h2, h3⟩ := snone_blks w
    rw [hw]
    exact ⟨_, _, he, by omega, by omega, h1, h2, h3⟩
def SnValP (w : World) (s : Sn) (r : Int) (e : Ending) (w' : World) : Prop := ∃ A c B d, e = .returned (.tuple #[.agg #[.int .i64 s.time, .slice A s.ps.length c, .slice B s.gs.length d], .int .i64 r]) ∧ RowsAt 2 snPCells w' (.slice A s.ps.length c) s.ps ∧ RowsAt 4 snGCells w' (.slice B s.gs.length d) s.gs ∧ Ext w w'
theorem sndec_k (s : ByteArray) (x : Sn) (r : Int) (w : World) (hd : snDec s = (x, r)) (hs : s.size ≤ maxLen) : Calls Try.prog 10 #[.string s] w (SnValP w x r) :=
  (sndec_any s w hs).mono fun e w' ⟨v, he, hv, hx⟩ => by
    rw [hd] at he hv
    obtain ⟨A, c, B, d, rfl, h2, h3⟩ := hv
    exact ⟨A, c, B, d, he, h2, h3, hx⟩
theorem snenc_any' (v : Value) (s : Sn) (t : ByteArray) (w : World) (ht : s.enc = t) (hs : SnAt w v s) (hp : s.ps.length ≤ 10000) (hg : s.gs.length ≤ 10000) :
    Calls Try.prog 14 #[v] w fun e w' => e = .returned (.string t) ∧ Ext w w' := by
  subst ht
  cases hm : s.may with
  | false => exact snenc_no v s w hs hp hg hm
  | true => exact snenc_yes v s w hs hm
theorem snmay_k (v : Value) (s : Sn) (r : Bool) (w : World) (hr : s.may = r) (hs : SnAt w v s) (hp : s.ps.length ≤ 10000) (hg : s.gs.length ≤ 10000) :
    Calls Try.prog 12 #[v] w fun e w' => e = .returned (.bool r) ∧ Ext w w' := by
  subst hr; exact snmay_any v s w hs hp hg
set_option maxRecDepth 100000 in
set_option maxHeartbeats 1000000 in
theorem snfixed_yes (w : World) : Calls Try.prog 9 #[] w fun e w' => e = .returned (.bool true) ∧ Ext w w' := by
  go_enter Try.func9, Try.ntmps9
  go_wp2_with fail
  refine (snone_k _).mono ?_
  rintro r w1 ⟨x1, y1, rfl, hx1, hy1, hb1, hc1, hx1'⟩
  go_wp2_with fail
  refine (snenc_any' _ Sn.one ⟨#[5, 1, 1, 2, 1, 1, 2, 1, 3]⟩ _ Sn.one_enc (sn_of_blks hb1 hc1) (by decide) (by decide)).mono ?_
  rintro r w2 ⟨rfl, hx2⟩
  have HX2 := Lib.hid (hx1'.trans hx2)
  clear hx1 hy1 hb1 hc1 hx1' hx2
  go_wp2_with fail
  refine (sndec_k ⟨#[5, 1, 1, 2, 1, 1, 2, 1, 3]⟩ Sn.one 0 _ Sn.one_dec (by decide)).mono ?_
  rintro r w3 ⟨A2, c2, B2, d2, rfl, hr1, hr2, hx3⟩
  have HS3 : Hid (SnAt w3 (.agg #[.int .i64 5, .slice A2 1 c2, .slice B2 1 d2]) Sn.one) := Lib.hid ⟨A2, c2, B2, d2, rfl, hr1, hr2⟩
  have HX3 := Lib.hid (HX2.out.trans hx3)
  clear hr1 hr2 hx3 HX2
  simp only [Sn.one, List.length_cons, List.length_nil, Nat.zero_add]
  have HBX3 := Lib.hid (blk_new w3 (.cells #[.int .i64 5, .slice A2 1 c2, .slice B2 1 d2] 25))
  have HS3b := Lib.hid (HS3.out.ext ((Ext.refl w3).alloc (.cells #[.int .i64 5, .slice A2 1 c2, .slice B2 1 d2] 25)))
  have HX3b := Lib.hid (HX3.out.alloc (.cells #[.int .i64 5, .slice A2 1 c2, .slice B2 1 d2] 25))
  obtain ⟨k3, hk3⟩ : ∃ k, w3.heap.size = k := ⟨_, rfl⟩
  rw [hk3] at HBX3
  have HK3 := Lib.hid hk3
  clear hk3 HS3 HX3
  go_wp2_with fail
  refine (sndec_k _ Sn.zero 80 _ (by first | exact Sn.onex_dec | kernel_rfl) (by decide)).mono ?_
  rintro r w4 ⟨A3, c3, B3, d3, rfl, hr1, hr2, hx4⟩
  simp only [Sn.zero, List.length_nil]
  (try rw [HK3.out])
  have HBX4 := Lib.hid ((hx4.alloc (.cells #[.int .i64 0, .slice A3 0 c3, .slice B3 0 d3] 25)).blk HBX3.out)
  have HS4 := Lib.hid (HS3b.out.ext (hx4.alloc (.cells #[.int .i64 0, .slice A3 0 c3, .slice B3 0 d3] 25)))
  have HX4 := Lib.hid (HX3b.out.trans (hx4.alloc (.cells #[.int .i64 0, .slice A3 0 c3, .slice B3 0 d3] 25)))
  clear hr1 hr2 hx4 HBX3 HS3b HX3b
  go_wp2_with fail
  refine (sndec_k _ Sn.zero 10 _ (by first | exact Sn.nil_dec | kernel_rfl) (by decide)).mono ?_
  rintro r w5 ⟨A4, c4, B4, d4, rfl, hr1, hr2, hx5⟩
  simp only [Sn.zero, List.length_nil]
  have hx5' := hx5.alloc (.cells #[.int .i64 0, .slice A4 0 c4, .slice B4 0 d4] 25)
  have HBX5 := Lib.hid (hx5'.blk HBX4.out)
  have HS5 := Lib.hid (HS4.out.ext hx5')
  have HX5 := Lib.hid (HX4.out.trans hx5')
  clear hr1 hr2 hx5 hx5' HBX4 HS4 HX4
  go_wp2_with fail
  refine (snone_k _).mono ?_
  rintro r w6 ⟨x5, y5, rfl, hx1, hy1, hb1, hc1, hx6⟩
  have hk35 := blk_lt HBX5.out
  have hy5 : w.heap.size ≤ y5 := by have := HX5.out.size; omega
  have hb6 := hx6.blk HBX5.out
  have q2 := blk_cell (blk_alloc hc1 (.cells #[.int .i64 5, .slice (some ⟨x5, 0, none⟩) 1 1, .slice (some ⟨y5, 0, none⟩) 1 1] 25)) 2 _ rfl
  have f2 := frozen_of_row _ _ 2 _ _ (blk_alloc hc1 (.cells #[.int .i64 5, .slice (some ⟨x5, 0, none⟩) 1 1, .slice (some ⟨y5, 0, none⟩) 1 1] 25))
  have hbx := blk_lt hc1
  go_wp2
  clear q2 f2
  obtain ⟨w7, hw7⟩ : ∃ v, (w6.setCell ⟨y5, 2, none⟩ (.int .i64 2)).alloc (.cells #[.int .i64 5, .slice (some ⟨x5, 0, none⟩) 1 1, .slice (some ⟨y5, 0, none⟩) 1 1] 25) = v := ⟨_, rfl⟩
  have hsz : (w6.setCell ⟨y5, 2, none⟩ (.int .i64 2)).heap.size = w6.heap.size := by simp [World.setCell]
  have hset : Upd y5 w6 (w6.setCell ⟨y5, 2, none⟩ (.int .i64 2)) := (Upd.refl _ _).set 2 _
  have hall : Ext (w6.setCell ⟨y5, 2, none⟩ (.int .i64 2)) w7 := by rw [← hw7]; exact (Ext.refl _).alloc _
  have HBX7 := Lib.hid (hall.blk (hset.blk hb6 (by omega)))
  have hD7 := blk_new (w6.setCell ⟨y5, 2, none⟩ (.int .i64 2)) (.cells #[.int .i64 5, .slice (some ⟨x5, 0, none⟩) 1 1, .slice (some ⟨y5, 0, none⟩) 1 1] 25)
  have hb7 := hall.blk (hset.blk hb1 (by omega))
  have hc7 := hall.blk (blk_set hc1 2 (.int .i64 2))
  rw [hw7, hsz] at hD7
  rw [hw7]
  obtain ⟨k6, hk6⟩ : ∃ k, w6.heap.size = k := ⟨_, rfl⟩
  rw [hk6] at hD7 ⊢
  have HD7 := Lib.hid hD7
  have HB7 : Hid (SnAt w7 (.agg #[.int .i64 5, .slice (some ⟨x5, 0, none⟩) 1 1, .slice (some ⟨y5, 0, none⟩) 1 1]) Sn.bad) := Lib.hid (sn_of_blks hb7 hc7)
  have HX7 : Hid (Ext w w7) := Lib.hid (((HX5.out.trans hx6).setCell hy5 _).trans hall)
  have HS7 : Hid (SnAt w7 (.agg #[.int .i64 5, .slice A2 1 c2, .slice B2 1 d2]) Sn.one) := Lib.hid (HS5.out.ext ((hx6.setCell (show _ ≤ y5 by omega) _).trans hall))
  clear hb7 hc7 hD7 hb6 hb1 hc1 hset hsz hall hw7 hx6 HBX5 HS5 HX5 hx1 hbx hk6 hk35
  have HK := Lib.hid fun (v : World) (hv : Ext w7 v) => (⟨blk_cell (hv.blk HBX7.out) 0 _ rfl, blk_cell (hv.blk HBX7.out) 1 _ rfl, blk_cell (hv.blk HBX7.out) 2 _ rfl⟩ : v.cell? ⟨k3, 0, none⟩ = some (.int .i64 5) ∧ v.cell? ⟨k3, 1, none⟩ = some (.slice A2 1 c2) ∧ v.cell? ⟨k3, 2, none⟩ = some (.slice B2 1 d2))
  have HKB := Lib.hid fun (v : World) (hv : Ext w7 v) => (⟨blk_cell (hv.blk HD7.out) 0 _ rfl, blk_cell (hv.blk HD7.out) 1 _ rfl, blk_cell (hv.blk HD7.out) 2 _ rfl⟩ : v.cell? ⟨k6, 0, none⟩ = some (.int .i64 5) ∧ v.cell? ⟨k6, 1, none⟩ = some (.slice (some ⟨x5, 0, none⟩) 1 1) ∧ v.cell? ⟨k6, 2, none⟩ = some (.slice (some ⟨y5, 0, none⟩) 1 1))
  refine region_rgx ([(4, (fun u => ∃ x y, u = .agg #[.int .i64 5, .slice (some ⟨x, 0, none⟩) 1 1, .slice (some ⟨y, 0, none⟩) 1 1] : Value → Prop), (fun u w => SnAt w (u 4).v Sn.one : (Nat → GV) → World → Prop)), (5, (fun u => u = .bool true : Value → Prop), (fun _ _ => True : (Nat → GV) → World → Prop)), (20, (fun u => ∃ x y, u = .agg #[.int .i64 5, .slice (some ⟨x, 0, none⟩) 1 1, .slice (some ⟨y, 0, none⟩) 1 1] : Value → Prop), (fun u w => SnAt w (u 20).v Sn.one : (Nat → GV) → World → Prop)), (21, (fun u => u = .bool true : Value → Prop), (fun _ _ => True : (Nat → GV) → World → Prop)), (25, (fun u => u = .bool false : Value → Prop), (fun _ _ => True : (Nat → GV) → World → Prop)), (30, (fun u => u = .string ⟨#[]⟩ : Value → Prop), (fun _ _ => True : (Nat → GV) → World → Prop))]) (w7) (by kernel_rfl) (by kernel_rfl) ?_ ?_ ?_
  · exact List.forall_mem_cons.2 ⟨⟨⟨_, 0, 0, rfl⟩, fun u v w h ht => by show (fun u w => SnAt w (u 4).v Sn.one : (Nat → GV) → World → Prop) v w; dsimp only; rw [← h 4 (.inl rfl) (by kernel_rfl)]; exact ht, fun u w w2 hx ht => ht.ext hx⟩, List.forall_mem_cons.2 ⟨⟨⟨_, rfl⟩, fun _ _ _ _ _ => trivial, fun _ _ _ _ _ => trivial⟩, List.forall_mem_cons.2 ⟨⟨⟨_, 0, 0, rfl⟩, fun u v w h ht => by show (fun u w => SnAt w (u 20).v Sn.one : (Nat → GV) → World → Prop) v w; dsimp only; rw [← h 20 (.inl rfl) (by kernel_rfl)]; exact ht, fun u w w2 hx ht => ht.ext hx⟩, List.forall_mem_cons.2 ⟨⟨⟨_, rfl⟩, fun _ _ _ _ _ => trivial, fun _ _ _ _ _ => trivial⟩, List.forall_mem_cons.2 ⟨⟨⟨_, rfl⟩, fun _ _ _ _ _ => trivial, fun _ _ _ _ _ => trivial⟩, List.forall_mem_cons.2 ⟨⟨⟨_, rfl⟩, fun _ _ _ _ _ => trivial, fun _ _ _ _ _ => trivial⟩, List.forall_mem_nil _⟩⟩⟩⟩⟩⟩
  · first | assumption | exact Ext.refl _
  refine rg_pure (v := ?_) rfl (by kernel_rfl) (by kernel_rfl) (fun w hS hN => ?_) ?_
  rotate_left 1
  · clear hN
    go_simp
    refine givesP_mk ?_
    with_reducible rfl
  refine rg_pure (v := ?_) rfl (by kernel_rfl) (by kernel_rfl) (fun w hS hN => ?_) ?_
  rotate_left 1
  · clear hN
    go_simp
    refine givesP_mk ?_
    with_reducible rfl
  refine rg_pure (v := ?_) rfl (by kernel_rfl) (by kernel_rfl) (fun w hS hN => ?_) ?_
  rotate_left 1
  · clear hN
    go_simp
    refine givesP_mk ?_
    with_reducible rfl
  refine rg_pure (v := ?_) rfl (by kernel_rfl) (by kernel_rfl) (fun w hS hN => ?_) ?_
  rotate_left 1
  · obtain ⟨k0, k1, k2⟩ := HK.out w hS
    clear hN
    go_simp
    refine givesP_mk ?_
    with_reducible rfl
  refine rg_mem (fun u => ∃ x y, u = .agg #[.int .i64 5, .slice (some ⟨x, 0, none⟩) 1 1, .slice (some ⟨y, 0, none⟩) 1 1] : Value → Prop) (fun u w => SnAt w (u 4).v Sn.one : (Nat → GV) → World → Prop) (fun _ => Ext) rfl rfl rfl rfl (by kernel_rfl) (by kernel_rfl) (fun w hS hN R hR => ?_) ?_
  · have HR := Lib.hid hR
    clear hR
    (try clear hN)
    go_simp
    refine givesM_call ((snone_k w).mono ?_)
    rintro e w' ⟨x, y, rfl, hx, hy, hb, hc, hx'⟩
    exact ⟨_, rfl, HR.out _ _ ⟨x, y, rfl⟩ (sn_of_blks hb hc) hx'⟩
  rintro u4 s4 t4 ⟨x4, y4, rfl⟩
  refine rg_mem (fun u => u = .bool true : Value → Prop) (fun _ _ => True : (Nat → GV) → World → Prop) (fun _ => Ext) rfl rfl rfl rfl (by kernel_rfl) (by kernel_rfl) (fun w hS hN R hR => ?_) ?_
  · have HR := Lib.hid hR
    clear hR
    have h4 : SnAt w (.agg #[.int .i64 5, .slice (some ⟨x4, 0, none⟩) 1 1, .slice (some ⟨y4, 0, none⟩) 1 1]) Sn.one := hN.get 4 rfl (by kernel_rfl)
    (try clear hN)
    go_simp
    refine givesM_call ((rsnsame_any _ _ Sn.one Sn.one w (HS7.out.ext hS) h4 (by decide) (by decide) true (by decide)).mono ?_)
    rintro e w' ⟨rfl, hx⟩
    exact ⟨_, rfl, HR.out _ _ rfl trivial hx⟩
  rintro u5 s5 t5 rfl
  refine rg_pure (v := ?_) rfl (by kernel_rfl) (by kernel_rfl) (fun w hS hN => ?_) ?_
  rotate_left 1
  · clear hN
    go_simp
    refine givesP_mk ?_
    with_reducible rfl
  refine rg_pure (v := ?_) rfl (by kernel_rfl) (by kernel_rfl) (fun w hS hN => ?_) ?_
  rotate_left 1
  · clear hN
    go_simp
    refine givesP_mk ?_
    with_reducible rfl
  refine rg_pure (v := ?_) rfl (by kernel_rfl) (by kernel_rfl) (fun w hS hN => ?_) ?_
  rotate_left 1
  · clear hN
    go_simp
    refine givesP_mk ?_
    with_reducible rfl
  refine rg_pure (v := ?_) rfl (by kernel_rfl) (by kernel_rfl) (fun w hS hN => ?_) ?_
  rotate_left 1
  · clear hN
    go_simp
    refine givesP_mk ?_
    with_reducible rfl
  refine rg_pure (v := ?_) rfl (by kernel_rfl) (by kernel_rfl) (fun w hS hN => ?_) ?_
  rotate_left 1
  · clear hN
    go_simp
    refine givesP_mk ?_
    with_reducible rfl
  refine rg_pure (v := ?_) rfl (by kernel_rfl) (by kernel_rfl) (fun w hS hN => ?_) ?_
  rotate_left 1
  · clear hN
    go_simp
    refine givesP_mk ?_
    with_reducible rfl
  refine rg_pure (v := ?_) rfl (by kernel_rfl) (by kernel_rfl) (fun w hS hN => ?_) ?_
  rotate_left 1
  · clear hN
    go_simp
    refine givesP_mk ?_
    with_reducible rfl
  refine rg_pure (v := ?_) rfl (by kernel_rfl) (by kernel_rfl) (fun w hS hN => ?_) ?_
  rotate_left 1
  · clear hN
    go_simp
    refine givesP_mk ?_
    with_reducible rfl
  refine rg_pure (v := ?_) rfl (by kernel_rfl) (by kernel_rfl) (fun w hS hN => ?_) ?_
  rotate_left 1
  · clear hN
    go_simp
    refine givesP_mk ?_
    with_reducible rfl
  refine rg_pure (v := ?_) rfl (by kernel_rfl) (by kernel_rfl) (fun w hS hN => ?_) ?_
  rotate_left 1
  · clear hN
    go_simp
    refine givesP_mk ?_
    with_reducible rfl
  refine rg_pure (v := ?_) rfl (by kernel_rfl) (by kernel_rfl) (fun w hS hN => ?_) ?_
  rotate_left 1
  · clear hN
    go_simp
    refine givesP_mk ?_
    with_reducible rfl
  refine rg_pure (v := ?_) rfl (by kernel_rfl) (by kernel_rfl) (fun w hS hN => ?_) ?_
  rotate_left 1
  · clear hN
    go_simp
    refine givesP_mk ?_
    with_reducible rfl
  refine rg_pure (v := ?_) rfl (by kernel_rfl) (by kernel_rfl) (fun w hS hN => ?_) ?_
  rotate_left 1
  · clear hN
    go_simp
    refine givesP_mk ?_
    with_reducible rfl
  refine rg_pure (v := ?_) rfl (by kernel_rfl) (by kernel_rfl) (fun w hS hN => ?_) ?_
  rotate_left 1
  · clear hN
    go_simp
    refine givesP_mk ?_
    with_reducible rfl
  refine rg_mem (fun u => ∃ x y, u = .agg #[.int .i64 5, .slice (some ⟨x, 0, none⟩) 1 1, .slice (some ⟨y, 0, none⟩) 1 1] : Value → Prop) (fun u w => SnAt w (u 20).v Sn.one : (Nat → GV) → World → Prop) (fun _ => Ext) rfl rfl rfl rfl (by kernel_rfl) (by kernel_rfl) (fun w hS hN R hR => ?_) ?_
  · have HR := Lib.hid hR
    clear hR
    (try clear hN)
    go_simp
    refine givesM_call ((snone_k w).mono ?_)
    rintro e w' ⟨x, y, rfl, hx, hy, hb, hc, hx'⟩
    exact ⟨_, rfl, HR.out _ _ ⟨x, y, rfl⟩ (sn_of_blks hb hc) hx'⟩
  rintro u20 s20 t20 ⟨x20, y20, rfl⟩
  refine rg_mem (fun u => u = .bool true : Value → Prop) (fun _ _ => True : (Nat → GV) → World → Prop) (fun _ => Ext) rfl rfl rfl rfl (by kernel_rfl) (by kernel_rfl) (fun w hS hN R hR => ?_) ?_
  · have HR := Lib.hid hR
    clear hR
    have h4 : SnAt w (.agg #[.int .i64 5, .slice (some ⟨x20, 0, none⟩) 1 1, .slice (some ⟨y20, 0, none⟩) 1 1]) Sn.one := hN.get 20 rfl (by kernel_rfl)
    (try clear hN)
    go_simp
    refine givesM_call ((snmay_k _ Sn.one true w Sn.one_may h4 (by decide) (by decide)).mono ?_)
    rintro e w' ⟨rfl, hx⟩
    exact ⟨_, rfl, HR.out _ _ rfl trivial hx⟩
  rintro u21 s21 t21 rfl
  refine rg_pure (v := ?_) rfl (by kernel_rfl) (by kernel_rfl) (fun w hS hN => ?_) ?_
  rotate_left 1
  · clear hN
    go_simp
    refine givesP_mk ?_
    with_reducible rfl
  refine rg_pure (v := ?_) rfl (by kernel_rfl) (by kernel_rfl) (fun w hS hN => ?_) ?_
  rotate_left 1
  · clear hN
    go_simp
    refine givesP_mk ?_
    with_reducible rfl
  refine rg_pure (v := ?_) rfl (by kernel_rfl) (by kernel_rfl) (fun w hS hN => ?_) ?_
  rotate_left 1
  · obtain ⟨k0, k1, k2⟩ := HKB.out w hS
    clear hN
    go_simp
    refine givesP_mk ?_
    with_reducible rfl
  refine rg_mem (fun u => u = .bool false : Value → Prop) (fun _ _ => True : (Nat → GV) → World → Prop) (fun _ => Ext) rfl rfl rfl rfl (by kernel_rfl) (by kernel_rfl) (fun w hS hN R hR => ?_) ?_
  · have HR := Lib.hid hR
    clear hR
    (try clear hN)
    go_simp
    refine givesM_call ((snmay_k _ Sn.bad false w Sn.bad_may (HB7.out.ext hS) (by decide) (by decide)).mono ?_)
    rintro e w' ⟨rfl, hx⟩
    exact ⟨_, rfl, HR.out _ _ rfl trivial hx⟩
  rintro u25 s25 t25 rfl
  refine rg_pure (v := ?_) rfl (by kernel_rfl) (by kernel_rfl) (fun w hS hN => ?_) ?_
  rotate_left 1
  · clear hN
    go_simp
    refine givesP_mk ?_
    with_reducible rfl
  refine rg_pure (v := ?_) rfl (by kernel_rfl) (by kernel_rfl) (fun w hS hN => ?_) ?_
  rotate_left 1
  · clear hN
    go_simp
    refine givesP_mk ?_
    with_reducible rfl
  refine rg_pure (v := ?_) rfl (by kernel_rfl) (by kernel_rfl) (fun w hS hN => ?_) ?_
  rotate_left 1
  · clear hN
    go_simp
    refine givesP_mk ?_
    with_reducible rfl
  refine rg_pure (v := ?_) rfl (by kernel_rfl) (by kernel_rfl) (fun w hS hN => ?_) ?_
  rotate_left 1
  · obtain ⟨k0, k1, k2⟩ := HKB.out w hS
    clear hN
    go_simp
    refine givesP_mk ?_
    with_reducible rfl
  refine rg_mem (fun u => u = .string ⟨#[]⟩ : Value → Prop) (fun _ _ => True : (Nat → GV) → World → Prop) (fun _ => Ext) rfl rfl rfl rfl (by kernel_rfl) (by kernel_rfl) (fun w hS hN R hR => ?_) ?_
  · have HR := Lib.hid hR
    clear hR
    (try clear hN)
    go_simp
    refine givesM_call ((snenc_any' _ Sn.bad ⟨#[]⟩ w Sn.bad_enc (HB7.out.ext hS) (by decide) (by decide)).mono ?_)
    rintro e w' ⟨rfl, hx⟩
    exact ⟨_, rfl, HR.out _ _ rfl trivial hx⟩
  rintro u30 s30 t30 rfl
  refine rg_pure (v := ?_) rfl (by kernel_rfl) (by kernel_rfl) (fun w hS hN => ?_) ?_
  rotate_left 1
  · clear hN
    go_simp
    refine givesP_mk ?_
    with_reducible rfl
  refine rg_pure (v := ?_) rfl (by kernel_rfl) (by kernel_rfl) (fun w hS hN => ?_) ?_
  rotate_left 1
  · clear hN
    go_simp
    refine givesP_mk ?_
    with_reducible rfl
  refine rg_pure (v := ?_) rfl (by kernel_rfl) (by kernel_rfl) (fun w hS hN => ?_) ?_
  rotate_left 1
  · clear hN
    go_simp
    refine givesP_mk ?_
    with_reducible rfl
  refine rg_done rfl (Nat.le_of_ble_eq_true (by kernel_rfl)) ?_
  intro w8 hS hT
  go_simp
  go_wp2
  go_ret
  exact ⟨rfl, HX7.out.trans hS⟩

end Go.Proofs.Ythkogcgdikgkaaa
