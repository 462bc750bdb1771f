/-
  Several texts in one: Jh, Ji.
-/
import Derived.Test.YtohncgikdlbogaaDoorD09
import Derived.Test.YtohncgikdlbogaaDoorD07
import Derived.Test.YtohncgikdlbogaaDoorD04
set_option linter.unusedVariables false
set_option linter.unusedSimpArgs false
namespace Go.Proofs.YtohncgikdlbogaaDoor
open Go.RowKit
theorem lookG_yes {g : Int} {x : Sn} {k : Nat} {y : Gs4} (hk : x.gs[k]? = some y) (hy : y.1 = g) (hf : ∀ (j : Nat) z, x.gs[j]? = some z → j < k → z.1 ≠ g) : Sp.lookG g x = some (y.2.1, y.2.2.1, y.2.2.2) := by
  unfold Sp.lookG
  rw [Md.fnd_at hk hy hf]
  simp only [List.getD_eq_getElem?_getD, hk, Option.getD_some]
theorem lookG_no {g : Int} {x : Sn} (h : ∀ (j : Nat) z, x.gs[j]? = some z → z.1 ≠ g) : Sp.lookG g x = none := by
  unfold Sp.lookG
  have : Md.fnd x.gs g = none := Md.fnd_none.2 fun y hy => by
    obtain ⟨j, hj⟩ := List.mem_iff_getElem?.1 hy
    exact h j y hj
  rw [this]
theorem vw_store {w w2 : World} {R : Nat} {x y z : Value} (hx : Ext w w2) (hR : w2.heap[R]? = some (.cells #[x, y, z] 46 (0, 0))) (h1 : w.heap.size ≤ R) (v : Vw) :
    w2.there R 0 [Value.int .i64 v.1, .int .i64 v.2.1, .int .i64 v.2.2].length ∧ ∃ w6, w2.setCells R 0 [.int .i64 v.1, .int .i64 v.2.1, .int .i64 v.2.2] = w6 ∧ w6.heap[R]? = some (.cells ([Value.int .i64 v.1, .int .i64 v.2.1, .int .i64 v.2.2]).toArray 46 (0, 0)) ∧ Ext w w6 := by
  have hu := setCells_upd R [Value.int .i64 v.1, .int .i64 v.2.1, .int .i64 v.2.2] w2 0
  exact ⟨there_row hR (by simp), _, rfl, setCells_at [x, y, z] _ rfl hR, Ext.upd hx hu h1⟩
theorem vw_one (a b c : Int) : ∀ x ∈ [Value.int .i64 a, .int .i64 b, .int .i64 c], x.oneCell' = true := by intro u hu; simp at hu; rcases hu with rfl | rfl | rfl <;> rfl
set_option maxRecDepth 100000 in
set_option maxHeartbeats 8000000 in
theorem lookG_any (g : Int) (G : Nat) (v : Value) (x : Sn) (w : World) (hs : SnAt w v x) (hg : x.gs.length ≤ 10000) (hG : w.cell? ⟨G, 0, none⟩ = some (.int .i64 g)) (hlt : G < w.heap.size) (o : Option Vw) (ho : Sp.lookG g x = o) :
    Calls Tryd.prog 18 #[v, .pointer (some ⟨G, 0, none⟩)] w fun e w' => e = .returned (.tuple #[.agg (vwC (o.getD (0, 0, 0))), .bool o.isSome]) ∧ Ext w w' := by
  subst ho
  obtain ⟨A, c, B, d, rfl, h2, h3⟩ := hs
  obtain ⟨time, ps, gs⟩ := x
  simp only at h2 h3 hg ⊢
  have hmf : ∀ (fn : Fn) (first cap : Array Value) (w : World), (Instr.makeFunc fn first cap).run Tryd.prog w = .ok (.func fn first cap) w := fun _ _ _ _ => rfl
  obtain ⟨wa, hwa⟩ : ∃ wa, w.alloc (.cells #[.int .i64 time, .slice A ps.length c, .slice B gs.length d] 25) = wa := ⟨_, rfl⟩
  obtain ⟨w1, hw1⟩ : ∃ w1, wa.alloc (.cells #[.int .i64 0, .int .i64 0, .int .i64 0] 46) = w1 := ⟨_, rfl⟩
  have hxa : Ext w wa := by rw [← hwa]; exact (Ext.refl w).alloc _
  have hx1 : Ext wa w1 := by rw [← hw1]; exact (Ext.refl wa).alloc _
  have hba : wa.heap[w.heap.size]? = some (.cells #[.int .i64 time, .slice A ps.length c, .slice B gs.length d] 25 (0, 0)) := by rw [← hwa]; exact blk_new w _
  obtain ⟨Rb, hR⟩ : ∃ Rb, wa.heap.size = Rb := ⟨_, rfl⟩
  have hb1 : w1.heap[Rb]? = some (.cells #[.int .i64 0, .int .i64 0, .int .i64 0] 46 (0, 0)) := by rw [← hw1, ← hR]; exact blk_new wa _
  have HRR : Hid (w.heap.size + 1 = Rb) := Lib.hid (by rw [← hR, ← hwa, World.size_alloc])
  have HRA := Lib.hid hR
  have HWA := Lib.hid hwa
  have HW1 := Lib.hid hw1
  have HXA := Lib.hid hxa
  have HX1 := Lib.hid hx1
  have HBA := Lib.hid hba
  have HB1 := Lib.hid hb1
  have H3 := Lib.hid (h3.ext (hxa.trans hx1))
  have HA3 := Lib.hid (h3.ext hxa)
  have HG : Hid (w1.cell? ⟨G, 0, none⟩ = some (.int .i64 g)) := Lib.hid ((Below.cell (p := ⟨G, 0, none⟩) (hxa.trans hx1) hlt).trans hG)
  have HGL : Hid (G < w1.heap.size) := Lib.hid (Nat.lt_of_lt_of_le hlt (hxa.trans hx1).size)
  have c2 := blk_cell (hx1.blk hba) 2 _ rfl
  have hgl : (gs.length : Int) ≤ 10000 := by omega
  clear hwa hw1 hxa hx1 hba hb1 hR hG hlt h2 h3
  go_enter Tryd.func18, Tryd.ntmps18
  go_upto_region 1 with fail
  rw [HWA.out, HW1.out, HRR.out]
  go_wp2_with fail
  refine (lidx_any B d gs g G w1 H3.out (by omega) HG.out HGL.out).mono ?_
  rintro e w3 ⟨i, rfl, hi, hx3⟩
  have HX3 := Lib.hid (HX1.out.trans hx3)
  have HB3 := Lib.hid (hx3.blk HB1.out)
  have HH3 := Lib.hid (H3.out.ext hx3)
  clear c2
  rcases hi with ⟨rfl, hno⟩ | ⟨k, rfl, ⟨y, hk, hy⟩, hf⟩
  · have HN := Lib.hid (lookG_no (x := ⟨time, ps, gs⟩) hno)
    obtain ⟨hth, w6, hw6, hb6, hx6⟩ := vw_store (HXA.out.trans HX3.out) HB3.out (by have := HRR.out; omega) (0, 0, 0)
    have HTH := Lib.hid hth
    have HW6 := Lib.hid hw6
    have HB6 := Lib.hid hb6
    have HX6 := Lib.hid hx6
    clear hth hw6 hb6 hx6 hno hx3
    go_wp2_with (refine wpList_store_rowN rfl 46 _ _ rfl Rb 0 [.int .i64 0, .int .i64 0, .int .i64 0] (.agg ([.int .i64 0, .int .i64 0, .int .i64 0]).toArray) (by go_simp) (by go_simp) rfl HTH.out (by kernel_rfl) (vw_one _ _ _) HW6.out ?_)
    refine bodyPost_cell_tmp rfl Rb _ _ _ _ rfl HB6.out Tryd.underlying46 rfl (by kernel_rfl) (.bool false) rfl rfl ?_
    rw [HN.out]
    exact ⟨rfl, HX6.out⟩
  · have HN := Lib.hid (lookG_yes (x := ⟨time, ps, gs⟩) hk hy (fun j z hz hj => hf j z hz hj))
    obtain ⟨bb, oo, hBB, hbb, hc⟩ := HA3.out.get hk
    subst hBB
    obtain ⟨yg, ys, ym, yq⟩ := y
    have hkl : (k : Int) < (gs.length : Int) := by have := (List.getElem?_eq_some_iff.1 hk).1; omega
    have e1 : decide ((k : Int) < 0) = false := decide_eq_false (by omega)
    have HCE : Hid (∀ v, Ext wa v → v.cell? ⟨bb, oo + k * 4 + 1, none⟩ = some (.int .i64 ys) ∧ v.cell? ⟨bb, oo + k * 4 + 2, none⟩ = some (.int .i64 ym) ∧ v.cell? ⟨bb, oo + k * 4 + 3, none⟩ = some (.int .i64 yq)) := Lib.hid fun v hv => ⟨(Below.cell (p := ⟨bb, oo + k * 4 + 1, none⟩) hv hbb).trans (hc 1 _ rfl), (Below.cell (p := ⟨bb, oo + k * 4 + 2, none⟩) hv hbb).trans (hc 2 _ rfl), (Below.cell (p := ⟨bb, oo + k * 4 + 3, none⟩) hv hbb).trans (hc 3 _ rfl)⟩
    simp only at HN
    have hXr : Ext wa w3 := HX3.out
    have hKr : ∃ x : Value × Value × Value, w3.heap[Rb]? = some (.cells #[x.1, x.2.1, x.2.2] 46 (0, 0)) := ⟨(_, _, _), HB3.out⟩
    have hMr : Rb + 1 ≤ w3.heap.size := blk_lt HB3.out
    have hRa : wa.heap.size ≤ Rb := Nat.le_of_eq HRA.out
    clear hk hy hf hbb hc hx3
    go_wp2_with fail
    refine region_rgz ([(19, (fun u => u = undef : Value → Prop), (fun u w => w.heap[Rb]? = some (.cells ([Value.int .i64 ys, .int .i64 ym, .int .i64 yq]).toArray 46 (0, 0)) : (Nat → GV) → World → Prop))]) (wa) (Rb + 1) (Rb) (19) (fun w => ∃ x : Value × Value × Value, w.heap[Rb]? = some (.cells #[x.1, x.2.1, x.2.2] 46 (0, 0))) ([]) (by kernel_rfl) (by kernel_rfl) ?_ ?_ (by omega) (fun w w2 hl hk => by first | (obtain ⟨x, hx⟩ := hk; exact ⟨x, (hl _ (by omega)).trans hx⟩) | exact hk.low hl (by assumption)) ?_ ?_ ?_ ?_
    · exact List.forall_mem_nil _
    · exact List.forall_mem_cons.2 ⟨⟨⟨_, rfl⟩, fun _ _ _ _ ht => ht, fun u w w2 hx ht => hx.blk ht, List.forall_mem_nil _, fun hne => absurd rfl hne⟩, List.forall_mem_nil _⟩
    · first | assumption | exact Ext.refl _
    · first | assumption | omega
    · assumption
    refine rg_pure (v := ?_) rfl (by kernel_rfl) (by kernel_rfl) (fun w hS hN => ?_) ?_
    rotate_left 1
    · obtain ⟨hS, hM, hK⟩ := hS
      clear hN
      go_simp
      refine givesP_mk ?_
      with_reducible rfl
    refine rg_pure (v := ?_) rfl (by kernel_rfl) (by kernel_rfl) (fun w hS hN => ?_) ?_
    rotate_left 1
    · obtain ⟨hS, hM, hK⟩ := hS
      have q2 := blk_cell (hS.blk HBA.out) 2 _ rfl
      clear hN
      go_simp
      refine givesP_mk ?_
      with_reducible rfl
    refine rg_pure (v := ?_) rfl (by kernel_rfl) (by kernel_rfl) (fun w hS hN => ?_) ?_
    rotate_left 1
    · obtain ⟨hS, hM, hK⟩ := hS
      clear hN
      go_simp
      refine givesP_mk ?_
      with_reducible rfl
    refine rg_pure (v := ?_) rfl (by kernel_rfl) (by kernel_rfl) (fun w hS hN => ?_) ?_
    rotate_left 1
    · obtain ⟨hS, hM, hK⟩ := hS
      clear hN
      go_simp
      refine givesP_mk ?_
      with_reducible rfl
    refine rg_pure (v := ?_) rfl (by kernel_rfl) (by kernel_rfl) (fun w hS hN => ?_) ?_
    rotate_left 1
    · obtain ⟨hS, hM, hK⟩ := hS
      clear hN
      go_simp
      refine givesP_mk ?_
      with_reducible rfl
    refine rg_pure (v := ?_) rfl (by kernel_rfl) (by kernel_rfl) (fun w hS hN => ?_) ?_
    rotate_left 1
    · obtain ⟨hS, hM, hK⟩ := hS
      obtain ⟨k1, k2, k3⟩ := HCE.out w hS
      clear hN
      go_simp
      refine givesP_mk ?_
      with_reducible rfl
    refine rg_pure (v := ?_) rfl (by kernel_rfl) (by kernel_rfl) (fun w hS hN => ?_) ?_
    rotate_left 1
    · obtain ⟨hS, hM, hK⟩ := hS
      clear hN
      go_simp
      refine givesP_mk ?_
      with_reducible rfl
    refine rg_pure (v := ?_) rfl (by kernel_rfl) (by kernel_rfl) (fun w hS hN => ?_) ?_
    rotate_left 1
    · obtain ⟨hS, hM, hK⟩ := hS
      have q2 := blk_cell (hS.blk HBA.out) 2 _ rfl
      clear hN
      go_simp
      refine givesP_mk ?_
      with_reducible rfl
    refine rg_pure (v := ?_) rfl (by kernel_rfl) (by kernel_rfl) (fun w hS hN => ?_) ?_
    rotate_left 1
    · obtain ⟨hS, hM, hK⟩ := hS
      clear hN
      go_simp
      refine givesP_mk ?_
      with_reducible rfl
    refine rg_pure (v := ?_) rfl (by kernel_rfl) (by kernel_rfl) (fun w hS hN => ?_) ?_
    rotate_left 1
    · obtain ⟨hS, hM, hK⟩ := hS
      clear hN
      go_simp
      refine givesP_mk ?_
      with_reducible rfl
    refine rg_pure (v := ?_) rfl (by kernel_rfl) (by kernel_rfl) (fun w hS hN => ?_) ?_
    rotate_left 1
    · obtain ⟨hS, hM, hK⟩ := hS
      clear hN
      go_simp
      refine givesP_mk ?_
      with_reducible rfl
    refine rg_pure (v := ?_) rfl (by kernel_rfl) (by kernel_rfl) (fun w hS hN => ?_) ?_
    rotate_left 1
    · obtain ⟨hS, hM, hK⟩ := hS
      obtain ⟨k1, k2, k3⟩ := HCE.out w hS
      clear hN
      go_simp
      refine givesP_mk ?_
      with_reducible rfl
    refine rg_pure (v := ?_) rfl (by kernel_rfl) (by kernel_rfl) (fun w hS hN => ?_) ?_
    rotate_left 1
    · obtain ⟨hS, hM, hK⟩ := hS
      clear hN
      go_simp
      refine givesP_mk ?_
      with_reducible rfl
    refine rg_pure (v := ?_) rfl (by kernel_rfl) (by kernel_rfl) (fun w hS hN => ?_) ?_
    rotate_left 1
    · obtain ⟨hS, hM, hK⟩ := hS
      have q2 := blk_cell (hS.blk HBA.out) 2 _ rfl
      clear hN
      go_simp
      refine givesP_mk ?_
      with_reducible rfl
    refine rg_pure (v := ?_) rfl (by kernel_rfl) (by kernel_rfl) (fun w hS hN => ?_) ?_
    rotate_left 1
    · obtain ⟨hS, hM, hK⟩ := hS
      clear hN
      go_simp
      refine givesP_mk ?_
      with_reducible rfl
    refine rg_pure (v := ?_) rfl (by kernel_rfl) (by kernel_rfl) (fun w hS hN => ?_) ?_
    rotate_left 1
    · obtain ⟨hS, hM, hK⟩ := hS
      clear hN
      go_simp
      refine givesP_mk ?_
      with_reducible rfl
    refine rg_pure (v := ?_) rfl (by kernel_rfl) (by kernel_rfl) (fun w hS hN => ?_) ?_
    rotate_left 1
    · obtain ⟨hS, hM, hK⟩ := hS
      clear hN
      go_simp
      refine givesP_mk ?_
      with_reducible rfl
    refine rg_pure (v := ?_) rfl (by kernel_rfl) (by kernel_rfl) (fun w hS hN => ?_) ?_
    rotate_left 1
    · obtain ⟨hS, hM, hK⟩ := hS
      obtain ⟨k1, k2, k3⟩ := HCE.out w hS
      clear hN
      go_simp
      refine givesP_mk ?_
      with_reducible rfl
    refine rg_pure (v := ?_) rfl (by kernel_rfl) (by kernel_rfl) (fun w hS hN => ?_) ?_
    rotate_left 1
    · obtain ⟨hS, hM, hK⟩ := hS
      clear hN
      go_simp
      refine givesP_mk ?_
      with_reducible rfl
    refine rg_mem (fun u => u = undef : Value → Prop) (fun u w => w.heap[Rb]? = some (.cells ([Value.int .i64 ys, .int .i64 ym, .int .i64 yq]).toArray 46 (0, 0)) : (Nat → GV) → World → Prop) (fun _ w w2 => Upd (Rb) w w2 ∧ (fun w => ∃ x : Value × Value × Value, w.heap[Rb]? = some (.cells #[x.1, x.2.1, x.2.2] 46 (0, 0)) : World → Prop) w2) rfl rfl rfl rfl (by kernel_rfl) (by kernel_rfl) (fun w hS hN R hR => ?_) ?_
    · obtain ⟨hS, hM, hK⟩ := hS
      have HR := Lib.hid hR
      clear hR
      obtain ⟨x, hx⟩ := hK
      have HXK := Lib.hid hx
      clear hx hN
      refine givesM_store 46 _ _ rfl Rb 0 (by go_simp) [.int .i64 ys, .int .i64 ym, .int .i64 yq] (by go_simp) (there_row HXK.out (by simp)) (by kernel_rfl) (vw_one _ _ _) ?_
      exact HR.out _ _ rfl (setCells_at [x.1, x.2.1, x.2.2] _ rfl HXK.out) ⟨setCells_upd _ _ _ _, ⟨(_, _, _), setCells_at [x.1, x.2.1, x.2.2] [.int .i64 ys, .int .i64 ym, .int .i64 yq] rfl HXK.out⟩⟩
    rintro u19 s19 t19 rfl
    refine rg_pure (v := ?_) rfl (by kernel_rfl) (by kernel_rfl) (fun w hS hN => ?_) ?_
    rotate_left 1
    · obtain ⟨hS, hM, hK⟩ := hS
      clear hN
      go_simp
      refine givesP_mk ?_
      with_reducible rfl
    refine rg_done rfl (Nat.le_of_ble_eq_true (by kernel_rfl)) ?_
    intro w8 hS hT
    have HB8 : Hid (w8.heap[Rb]? = some (.cells ([Value.int .i64 ys, .int .i64 ym, .int .i64 yq]).toArray 46 (0, 0))) := Lib.hid (hT (19, ⟨undef, s19, t19⟩) (by simp))
    have HX8 := Lib.hid (HXA.out.trans hS.1)
    clear hT hS
    go_simp
    go_wp2
    refine bodyPost_cell_tmp rfl Rb _ _ _ _ rfl HB8.out Tryd.underlying46 rfl (by kernel_rfl) (.bool true) rfl rfl ?_
    rw [HN.out]
    exact ⟨rfl, HX8.out⟩
theorem lookP_out {p : Int} {x : Sn} (h : ¬ (1 ≤ p ∧ p ≤ x.ps.length)) : Sp.lookP p x = none := by unfold Sp.lookP; rw [if_neg h]
theorem lookP_at {x : Sn} {k : Nat} {m q : Int} (hk : x.ps[k]? = some (m, q)) : Sp.lookP ((k : Int) + 1) x = if m = 0 then some (0, 0, 0) else some (1, m, 0) := by
  have hl := (List.getElem?_eq_some_iff.1 hk).1
  unfold Sp.lookP
  rw [if_pos (by omega), show ((k : Int) + 1 - 1).toNat = k by omega, List.getD_eq_getElem?_getD, hk]
  rfl
set_option maxRecDepth 100000 in
set_option maxHeartbeats 8000000 in
theorem lookP_any (p : Int) (G : Nat) (v : Value) (x : Sn) (w : World) (hs : SnAt w v x) (hp : x.ps.length ≤ 10000) (hG : w.cell? ⟨G, 0, none⟩ = some (.int .i64 p)) (hlt : G < w.heap.size) (o : Option Vw) (ho : Sp.lookP p x = o) :
    Calls Tryd.prog 26 #[v, .pointer (some ⟨G, 0, none⟩)] w fun e w' => e = .returned (.tuple #[.agg (vwC (o.getD (0, 0, 0))), .bool o.isSome]) ∧ Ext w w' := by
  subst ho
  obtain ⟨A, c, B, d, rfl, h2, h3⟩ := hs
  obtain ⟨time, ps, gs⟩ := x
  simp only at h2 h3 hp ⊢
  obtain ⟨wa, hwa⟩ : ∃ wa, w.alloc (.cells #[.int .i64 time, .slice A ps.length c, .slice B gs.length d] 25) = wa := ⟨_, rfl⟩
  obtain ⟨w1, hw1⟩ : ∃ w1, wa.alloc (.cells #[.int .i64 0, .int .i64 0, .int .i64 0] 46) = w1 := ⟨_, rfl⟩
  have hxa : Ext w wa := by rw [← hwa]; exact (Ext.refl w).alloc _
  have hx1 : Ext wa w1 := by rw [← hw1]; exact (Ext.refl wa).alloc _
  have hba : wa.heap[w.heap.size]? = some (.cells #[.int .i64 time, .slice A ps.length c, .slice B gs.length d] 25 (0, 0)) := by rw [← hwa]; exact blk_new w _
  obtain ⟨Rb, hR⟩ : ∃ Rb, wa.heap.size = Rb := ⟨_, rfl⟩
  have hb1 : w1.heap[Rb]? = some (.cells #[.int .i64 0, .int .i64 0, .int .i64 0] 46 (0, 0)) := by rw [← hw1, ← hR]; exact blk_new wa _
  have HRR : Hid (w.heap.size + 1 = Rb) := Lib.hid (by rw [← hR, ← hwa, World.size_alloc])
  have HWA := Lib.hid hwa
  have HW1 := Lib.hid hw1
  have HXA := Lib.hid hxa
  have HX1 := Lib.hid hx1
  have HB1 := Lib.hid hb1
  have H2 := Lib.hid (h2.ext (hxa.trans hx1))
  have hg1 : w1.cell? ⟨G, 0, none⟩ = some (.int .i64 p) := (Below.cell (p := ⟨G, 0, none⟩) (hxa.trans hx1) hlt).trans hG
  have c1 := blk_cell (hx1.blk hba) 1 _ rfl
  have hpl : (ps.length : Int) ≤ 10000 := by omega
  clear hwa hw1 hxa hx1 hba hb1 hR hG hlt h2 h3
  go_enter Tryd.func26, Tryd.ntmps26
  go_upto_region 1 with fail
  rw [HWA.out, HW1.out, HRR.out]
  by_cases a1 : p < 1
  · have e1 : decide (p < 1) = true := decide_eq_true a1
    have HN := Lib.hid (lookP_out (x := ⟨time, ps, gs⟩) (p := p) (by omega))
    clear a1
    obtain ⟨hth, w6, hw6, hb6, hx6⟩ := vw_store (HXA.out.trans HX1.out) HB1.out (by have := HRR.out; omega) (0, 0, 0)
    have HTH := Lib.hid hth
    have HW6 := Lib.hid hw6
    have HB6 := Lib.hid hb6
    have HX6 := Lib.hid hx6
    clear hth hw6 hb6 hx6
    go_wp2_with (refine wpList_store_rowN rfl 46 _ _ rfl Rb 0 [.int .i64 0, .int .i64 0, .int .i64 0] (.agg ([.int .i64 0, .int .i64 0, .int .i64 0]).toArray) (by go_simp) (by go_simp) rfl HTH.out (by kernel_rfl) (vw_one _ _ _) HW6.out ?_)
    refine bodyPost_cell_tmp rfl Rb _ _ _ _ rfl HB6.out Tryd.underlying46 rfl (by kernel_rfl) (.bool false) rfl rfl ?_
    rw [HN.out]
    exact ⟨rfl, HX6.out⟩
  have e1 : decide (p < 1) = false := decide_eq_false a1
  by_cases a2 : (ps.length : Int) < p
  · have e2 : decide ((ps.length : Int) < p) = true := decide_eq_true a2
    have HN := Lib.hid (lookP_out (x := ⟨time, ps, gs⟩) (p := p) (by simp only; omega))
    clear a1 a2
    obtain ⟨hth, w6, hw6, hb6, hx6⟩ := vw_store (HXA.out.trans HX1.out) HB1.out (by have := HRR.out; omega) (0, 0, 0)
    have HTH := Lib.hid hth
    have HW6 := Lib.hid hw6
    have HB6 := Lib.hid hb6
    have HX6 := Lib.hid hx6
    clear hth hw6 hb6 hx6
    go_wp2_with (refine wpList_store_rowN rfl 46 _ _ rfl Rb 0 [.int .i64 0, .int .i64 0, .int .i64 0] (.agg ([.int .i64 0, .int .i64 0, .int .i64 0]).toArray) (by go_simp) (by go_simp) rfl HTH.out (by kernel_rfl) (vw_one _ _ _) HW6.out ?_)
    refine bodyPost_cell_tmp rfl Rb _ _ _ _ rfl HB6.out Tryd.underlying46 rfl (by kernel_rfl) (.bool false) rfl rfl ?_
    rw [HN.out]
    exact ⟨rfl, HX6.out⟩
  obtain ⟨k, rfl⟩ : ∃ k : Nat, p = (k : Int) + 1 := ⟨(p - 1).toNat, by omega⟩
  have e2 : decide ((ps.length : Int) < (k : Int) + 1) = false := decide_eq_false a2
  obtain ⟨⟨m, q⟩, hk⟩ : ∃ y, ps[k]? = some y := ⟨_, List.getElem?_eq_getElem (by omega)⟩
  have HN := Lib.hid (lookP_at (x := ⟨time, ps, gs⟩) hk)
  obtain ⟨bb, oo, hBB, hbb, hc⟩ := H2.out.get hk
  subst hBB
  have k0 := hc 0 _ rfl
  rw [Nat.add_zero] at k0
  have e3 : (k : Int) + 1 - 1 = (k : Int) := by omega
  have e4 : (k : Int) < (ps.length : Int) := by omega
  clear hk hbb hc a1 a2
  by_cases a3 : m = 0
  · have e5 : (m == 0) = true := by simpa using a3
    have HM : Hid (Sp.lookP ((k : Int) + 1) ⟨time, ps, gs⟩ = some (0, 0, 0)) := Lib.hid (by rw [HN.out, if_pos a3])
    clear a3
    obtain ⟨hth, w6, hw6, hb6, hx6⟩ := vw_store (HXA.out.trans HX1.out) HB1.out (by have := HRR.out; omega) (0, 0, 0)
    have HTH := Lib.hid hth
    have HW6 := Lib.hid hw6
    have HB6 := Lib.hid hb6
    have HX6 := Lib.hid hx6
    clear hth hw6 hb6 hx6
    go_wp2_with (refine wpList_store_rowN rfl 46 _ _ rfl Rb 0 [.int .i64 0, .int .i64 0, .int .i64 0] (.agg ([.int .i64 0, .int .i64 0, .int .i64 0]).toArray) (by go_simp) (by go_simp) rfl HTH.out (by kernel_rfl) (vw_one _ _ _) HW6.out ?_)
    refine bodyPost_cell_tmp rfl Rb _ _ _ _ rfl HB6.out Tryd.underlying46 rfl (by kernel_rfl) (.bool true) rfl rfl ?_
    rw [HM.out]
    exact ⟨rfl, HX6.out⟩
  · have e5 : (m == 0) = false := by simpa using a3
    have HM : Hid (Sp.lookP ((k : Int) + 1) ⟨time, ps, gs⟩ = some (1, m, 0)) := Lib.hid (by rw [HN.out, if_neg a3])
    clear a3
    obtain ⟨hth, w6, hw6, hb6, hx6⟩ := vw_store (HXA.out.trans HX1.out) HB1.out (by have := HRR.out; omega) (1, m, 0)
    have HTH := Lib.hid hth
    have HW6 := Lib.hid hw6
    have HB6 := Lib.hid hb6
    have HX6 := Lib.hid hx6
    clear hth hw6 hb6 hx6
    go_wp2_with (refine wpList_store_rowN rfl 46 _ _ rfl Rb 0 [.int .i64 1, .int .i64 m, .int .i64 0] (.agg ([.int .i64 1, .int .i64 m, .int .i64 0]).toArray) (by go_simp) (by go_simp) rfl HTH.out (by kernel_rfl) (vw_one _ _ _) HW6.out ?_)
    refine bodyPost_cell_tmp rfl Rb _ _ _ _ rfl HB6.out Tryd.underlying46 rfl (by kernel_rfl) (.bool true) rfl rfl ?_
    rw [HM.out]
    exact ⟨rfl, HX6.out⟩
set_option maxRecDepth 100000 in
set_option maxHeartbeats 4000000 in
theorem whyP_any (e : Le) (w : World) : Calls Tryd.prog 27 #[.agg (leL e).toArray] w fun e' w' => e' = .returned (.string ByteArray.empty) ∧ Ext w w' := by
  obtain ⟨⟨et, em, ek, eg, ep, eq⟩, ew, ev⟩ := e
  unfold leL
  go_enter Tryd.func27, Tryd.ntmps27
  go_wp2
  go_ret
  exact ⟨rfl, (Ext.refl w).alloc _⟩
set_option maxRecDepth 100000 in
set_option maxHeartbeats 4000000 in
theorem whyG_any (g : Int) (G : Nat) (e : Le) (w : World) (hG : w.cell? ⟨G, 0, none⟩ = some (.int .i64 g)) (hlt : G < w.heap.size) (o : ByteArray) (ho : Sp.whyG g e = o) : Calls Tryd.prog 21 #[.agg (leL e).toArray, .pointer (some ⟨G, 0, none⟩)] w fun e' w' => e' = .returned (.string o) ∧ Ext w w' := by
  subst ho
  obtain ⟨⟨et, em, ek, eg, ep, eq⟩, ew, ev⟩ := e
  unfold leL
  simp only
  obtain ⟨w1, hw1⟩ : ∃ w1, w.alloc (.cells #[.int .i64 et, .int .i64 em, .int .i64 ek, .int .i64 eg, .int .i64 ep, .int .i64 eq, .string ew, ev] 34) = w1 := ⟨_, rfl⟩
  have hx1 : Ext w w1 := by rw [← hw1]; exact (Ext.refl w).alloc _
  have hb1 : w1.heap[w.heap.size]? = some (.cells #[.int .i64 et, .int .i64 em, .int .i64 ek, .int .i64 eg, .int .i64 ep, .int .i64 eq, .string ew, ev] 34 (0, 0)) := by rw [← hw1]; exact blk_new w _
  have hg1 : w1.cell? ⟨G, 0, none⟩ = some (.int .i64 g) := (Below.cell (p := ⟨G, 0, none⟩) hx1 hlt).trans hG
  have q2 := blk_cell hb1 2 _ rfl
  have q3 := blk_cell hb1 3 _ rfl
  have q6 := blk_cell hb1 6 _ rfl
  have HW1 := Lib.hid hw1
  have HX1 := Lib.hid hx1
  clear hw1 hx1 hb1 hG hlt
  go_enter Tryd.func21, Tryd.ntmps21
  go_upto_region 1 with fail
  rw [HW1.out]
  by_cases a1 : eg = g
  rotate_left 1
  · have e1 : (eg == g) = false := by simpa using a1
    have HN : Hid (Sp.whyG g ⟨⟨et, em, ek, eg, ep, eq⟩, ew, ev⟩ = ByteArray.empty) := Lib.hid (by unfold Sp.whyG; rw [if_neg (fun h => a1 h.1)])
    clear a1
    go_wp2
    go_ret
    exact ⟨by rw [HN.out] <;> rfl, HX1.out⟩
  have e1 : (eg == g) = true := by simpa using a1
  by_cases a2 : ek = 5
  · have e2 : (ek == 5) = true := by simpa using a2
    have HN : Hid (Sp.whyG g ⟨⟨et, em, ek, eg, ep, eq⟩, ew, ev⟩ = ew) := Lib.hid (by unfold Sp.whyG; rw [if_pos ⟨a1, .inl a2⟩])
    clear a1 a2
    go_wp2
    go_ret
    exact ⟨by rw [HN.out] <;> rfl, HX1.out⟩
  have e2 : (ek == 5) = false := by simpa using a2
  by_cases a3 : ek = 6
  · have e3 : (ek == 6) = true := by simpa using a3
    have HN : Hid (Sp.whyG g ⟨⟨et, em, ek, eg, ep, eq⟩, ew, ev⟩ = ew) := Lib.hid (by unfold Sp.whyG; rw [if_pos ⟨a1, .inr a3⟩])
    clear a1 a2 a3
    go_wp2
    go_ret
    exact ⟨by rw [HN.out] <;> rfl, HX1.out⟩
  · have e3 : (ek == 6) = false := by simpa using a3
    have HN : Hid (Sp.whyG g ⟨⟨et, em, ek, eg, ep, eq⟩, ew, ev⟩ = ByteArray.empty) := Lib.hid (by unfold Sp.whyG; rw [if_neg (fun h => h.2.elim a2 a3)])
    clear a1 a2 a3
    go_wp2
    go_ret
    exact ⟨by rw [HN.out] <;> rfl, HX1.out⟩
theorem snmay_every (v : Value) (x : Sn) (w : World) (hs : SnAt w v x) : Calls Tryd.prog 31 #[v] w fun e w' => e = .returned (.bool x.may) ∧ Ext w w' := by
  by_cases h : 64 < x.ps.length ∨ 1000 < x.gs.length
  · obtain ⟨time, ps, gs⟩ := x
    have hm := sn_big (time := time) h
    rw [hm]
    exact snmay_big v ⟨time, ps, gs⟩ w hs h
  · exact snmay_any v x w hs (by omega) (by omega)
theorem vw_box (wa : World) (v : Vw) : ∃ wb, wa.alloc (.cells #[.int .i64 v.1, .int .i64 v.2.1, .int .i64 v.2.2] 46) = wb ∧ wb.heap[wa.heap.size]? = some (.cells (vwC v) 46 (0, 0)) ∧ Ext wa wb :=
  ⟨_, rfl, blk_new wa _, (Ext.refl wa).alloc _⟩
theorem run_eqV (a b c a' b' c' : Int) (w : World) : (Op.equalIn 10000 46 (.agg #[.int .i64 a, .int .i64 b, .int .i64 c]) (.agg #[.int .i64 a', .int .i64 b', .int .i64 c'])).run Tryd.prog w = .ok (decide ([a, b, c] = [a', b', c'])) w :=
  run_eqInts (ti := 3) Tryd.underlying3 (by kernel_rfl) (by kernel_rfl) 3 (by kernel_rfl) [a, b, c] [a', b', c'] rfl rfl w
theorem opt_same {a b : Option Vw} (h : a.getD (0, 0, 0) = b.getD (0, 0, 0)) (hs : a.isSome = b.isSome) : a = b := by
  cases a <;> cases b <;> simp_all
end Go.Proofs.YtohncgikdlbogaaDoor
