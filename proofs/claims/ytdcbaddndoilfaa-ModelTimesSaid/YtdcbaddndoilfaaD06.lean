/-
  Several texts in one: Hf, Hg, Hh, Rv, Rw, Hi, Hl.
-/
import Derived.Test.YtdcbaddndoilfaaD05
import Derived.Test.YtdcbaddndoilfaaD02
import Derived.Test.YtdcbaddndoilfaaD04
set_option linter.unusedVariables false
set_option linter.unusedSimpArgs false
namespace Go.Proofs.Ytdcbaddndoilfaa
open Go.RowKit
namespace Md
def stp (g : Int) (a : List Gs4 × Bool) (y : Gs4) : List Gs4 × Bool := if g < y.1 ∧ a.2 = false then (a.1 ++ [(g, 1, 0, 0)] ++ [y], true) else (a.1 ++ [y], a.2)
def withF (l : List Gs4) (g : Int) : List Gs4 := if (l.foldl (stp g) ([], false)).2 = true then (l.foldl (stp g) ([], false)).1 else (l.foldl (stp g) ([], false)).1 ++ [(g, 1, 0, 0)]
theorem stp_true (g : Int) : ∀ (l a : List Gs4), l.foldl (stp g) (a, true) = (a ++ l, true)
  | [], a => by simp
  | y :: l, a => by
    rw [List.foldl_cons]
    have : stp g (a, true) y = (a ++ [y], true) := by unfold stp; rw [if_neg (by simp)]
    rw [this, stp_true g l]
    simp
theorem withF_from (g : Int) : ∀ (l a : List Gs4), rises l → (∀ y ∈ l, y.1 ≠ g) → (if (l.foldl (stp g) (a, false)).2 = true then (l.foldl (stp g) (a, false)).1 else (l.foldl (stp g) (a, false)).1 ++ [(g, 1, 0, 0)]) = a ++ l.insertIdx (gpos l g) (g, 1, 0, 0)
  | [], a, _, _ => by simp [gpos]
  | y :: l, a, hr, hn => by
    have hr2 : rises l := by unfold rises at hr ⊢; rw [List.map_cons, List.pairwise_cons] at hr; exact hr.2
    rw [List.foldl_cons]
    by_cases h : g < y.1
    · have e : stp g (a, false) y = (a ++ [(g, 1, 0, 0)] ++ [y], true) := by unfold stp; rw [if_pos ⟨h, rfl⟩]
      rw [e, stp_true]
      have : gpos (y :: l) g = 0 := by unfold gpos; rw [List.takeWhile_cons_of_neg (by simp; omega)]; rfl
      rw [this]
      simp
    · have hy := hn y (by simp)
      have e : stp g (a, false) y = (a ++ [y], false) := by unfold stp; rw [if_neg (fun hh => h hh.1)]
      rw [e, withF_from g l (a ++ [y]) hr2 fun z hz => hn z (List.mem_cons_of_mem _ hz)]
      have : gpos (y :: l) g = gpos l g + 1 := by unfold gpos; rw [List.takeWhile_cons_of_pos (by simp; omega)]; rfl
      rw [this]
      simp
theorem withF_eq {l : List Gs4} {g : Int} (hr : rises l) (hn : fnd l g = none) : withF l g = l.insertIdx (gpos l g) (g, 1, 0, 0) := by
  unfold withF
  rw [withF_from g l [] hr (fnd_none.1 hn), List.nil_append]
theorem stp_len (g : Int) : ∀ (l : List Gs4) (a : List Gs4 × Bool), (l.foldl (stp g) a).1.length ≤ a.1.length + 2 * l.length
  | [], a => by simp
  | y :: l, a => by
    rw [List.foldl_cons]
    have := stp_len g l (stp g a y)
    have h2 : (stp g a y).1.length ≤ a.1.length + 2 := by unfold stp; split <;> simp
    simp only [List.length_cons]
    omega
theorem wo_eq {l : List Gs4} (hr : rises l) {g : Int} {k : Nat} (hk : fnd l g = some k) : l.filter (fun y => y.1 != g) = l.eraseIdx (gpos l g) := by
  rw [gpos_fnd hr hk]
  induction l generalizing k with
  | nil => simp [fnd] at hk
  | cons y l ih =>
    have hr2 : rises l := by unfold rises at hr ⊢; rw [List.map_cons, List.pairwise_cons] at hr; exact hr.2
    have hlt : ∀ z ∈ l, y.1 < z.1 := by
      unfold rises at hr
      rw [List.map_cons, List.pairwise_cons] at hr
      exact fun z hz => hr.1 z.1 (List.mem_map_of_mem hz)
    unfold fnd at hk
    by_cases hy : y.1 = g
    · rw [if_pos hy] at hk
      obtain rfl := Option.some.inj hk
      rw [List.filter_cons_of_neg (by simp [hy]), List.eraseIdx_cons_zero]
      exact List.filter_eq_self.2 fun z hz => by have := hlt z hz; simp; omega
    · rw [if_neg hy, Option.map_eq_some_iff] at hk
      obtain ⟨j, hj, rfl⟩ := hk
      rw [List.filter_cons_of_pos (by simp [hy]), List.eraseIdx_cons_succ, ih hr2 hj]
end Md
theorem rows_one {α : Type} {m : Nat} {f : α → List Value} (w : World) (T : TypeId) (y : α) : RowsAt m f (w.alloc (.cells (f y).toArray T)) (.slice (some ⟨w.heap.size, 0, none⟩) 1 1) [y] := by
  refine ⟨_, 1, rfl, by simp, fun _ => ⟨w.heap.size, 0, rfl, by simp, fun j x hj i u hu => ?_⟩⟩
  match j, hj with
  | 0, hj =>
    simp only [List.getElem?_cons_zero, Option.some.injEq] at hj
    subst hj
    rw [show 0 + 0 * m + i = i by omega]
    refine blk_cell (blk_new w _) _ _ ?_
    rw [List.getElem?_toArray]
    exact hu
theorem gs_push {W w : World} {u : Value} {l : List Gs4} (h : OwnRows 51 4 snGCells w W.heap.size u l) (hx : Ext W w) (y : Gs4) (hl : l.length ≤ 1000000) :
    ∃ u' w', (Builtin.append_ #[23, 23] 23 #[u, .slice (some ⟨w.heap.size, 0, none⟩) 1 1]).run Try.prog (w.alloc (.cells (snGCells y).toArray 51)) = .ok u' w' ∧ OwnRows 51 4 snGCells w' W.heap.size u' (l ++ [y]) ∧ Ext W w' := by
  obtain ⟨i0, I0, I1, I2, I3⟩ := info_parts Try.infoGS
  obtain ⟨u', w', hr, ho, hg⟩ := OwnRows.append (P := Try.prog) (e := 51) (m := 4) (f := snGCells) (xs := l) (ys := [y]) 23 Try.underlying23 I0 I1 I2 I3 rfl (by decide) snGCells_len snGCells_one (h.alloc (.cells (snGCells y).toArray 51)) (rows_one w 51 y) (by simp [maxLen]; omega) (by simp; omega) (by have := hx.size; simp; omega)
  exact ⟨u', w', hr, ho, OwnRows.grown (W := W) (h.alloc _) (hx.alloc _) hg⟩
theorem sn_fin {w w1 wq : World} {S0 : Nat} {time : Int} {ps : List (Int × Int)} {gs gl : List Gs4} {A B Au : Option Addr} {c d cu : Nat} (hx1 : Ext w w1) (hS0 : w.heap.size = S0) (hb1 : w1.heap[S0]? = some (.cells #[.int .i64 time, .slice A ps.length c, .slice B gs.length d] 25 (0, 0))) (hz1 : w1.heap[S0 + 1]? = some (.cells #[.int .i64 0, .slice none 0 0, .slice none 0 0] 25 (0, 0))) (hsz1 : w1.heap.size = S0 + 1 + 1)
    (h2 : RowsAt 2 snPCells w (.slice A ps.length c) ps) (hx : Ext w1 wq) (ho : OwnRows 51 4 snGCells wq w1.heap.size (.slice Au gl.length cu) gl) :
    wq.cell? ⟨S0, 2, none⟩ = some (.slice B gs.length d) ∧ wq.frozen? ⟨S0, 2, none⟩ = false ∧ ∃ w6, (wq.setCell ⟨S0, 2, none⟩ (.slice Au gl.length cu)).setCells (S0 + 1) 0 [.int .i64 time, .slice A ps.length c, .slice Au gl.length cu] = w6 ∧ (wq.setCell ⟨S0, 2, none⟩ (.slice Au gl.length cu)).heap[S0]? = some (.cells ([.int .i64 time, .slice A ps.length c, .slice Au gl.length cu]).toArray 25 (0, 0)) ∧ (wq.setCell ⟨S0, 2, none⟩ (.slice Au gl.length cu)).there (S0 + 1) 0 ([.int .i64 time, .slice A ps.length c, .slice Au gl.length cu] : List Value).length ∧ w6.heap[S0 + 1]? = some (.cells ([.int .i64 time, .slice A ps.length c, .slice Au gl.length cu]).toArray 25 (0, 0)) ∧ SnRet w ⟨time, ps, gl⟩ (.returned (.agg ([.int .i64 time, .slice A ps.length c, .slice Au gl.length cu]).toArray)) w6 := by
  have htw := sn_two hx (cs := [.int .i64 time, .slice A ps.length c, .slice B gs.length d]) hb1 (zs := [.int .i64 0, .slice none 0 0, .slice none 0 0]) hz1 (by omega) 2 (.slice Au gl.length cu) (ls := [.int .i64 time, .slice A ps.length c, .slice Au gl.length cu]) rfl rfl
  refine ⟨blk_cell (hx.blk hb1) 2 _ rfl, frozen_of_row _ _ 2 _ _ (hx.blk hb1), _, rfl, htw.1, htw.2.1, htw.2.2.1, ?_⟩
  have hbut := htw.2.2.2
  have hx6 := But.after (S := fun b => b = S0 ∨ b = S0 + 1) (hx1.trans hx) hbut (fun i hi => by omega)
  exact ⟨_, rfl, ⟨A, c, Au, cu, rfl, h2.ext hx6, ((ho.rowsIn snGCells_len).but hbut (fun b hb _ hs => by omega)).rows⟩, hx6⟩
set_option maxRecDepth 100000 in
set_option maxHeartbeats 8000000 in
theorem rwithout_any (v : Value) (x : Sn) (g : Int) (w : World) (hs : SnAt w v x) (hp : x.ps.length ≤ 10000) (hg : x.gs.length ≤ 10000) (ys : List Gs4) (hys : x.gs.filter (fun y => y.1 != g) = ys) :
    Calls Try.prog 61 #[v, .int .i64 g] w (SnRet w { x with gs := ys }) := by
  obtain ⟨A, c, B, d, rfl, h2, h3⟩ := hs
  obtain ⟨time, ps, gs⟩ := x
  simp only at h2 h3 hp hg ⊢
  obtain ⟨w1, hw1⟩ : ∃ w1, (w.alloc (.cells #[.int .i64 time, .slice A ps.length c, .slice B gs.length d] 25)).alloc (.cells #[.int .i64 0, .slice none 0 0, .slice none 0 0] 25) = w1 := ⟨_, rfl⟩
  have hx1 : Ext w w1 := by rw [← hw1]; exact ((Ext.refl w).alloc _).alloc _
  have hb1 : w1.heap[w.heap.size]? = some (.cells #[.int .i64 time, .slice A ps.length c, .slice B gs.length d] 25 (0, 0)) := by rw [← hw1]; exact blk_alloc (blk_new w _) _
  have hz1 : w1.heap[w.heap.size + 1]? = some (.cells #[.int .i64 0, .slice none 0 0, .slice none 0 0] 25 (0, 0)) := by rw [← hw1, ← World.size_alloc w (.cells #[.int .i64 time, .slice A ps.length c, .slice B gs.length d] 25)]; exact blk_new _ _
  have hsz1 : w1.heap.size = w.heap.size + 1 + 1 := by rw [← hw1, World.size_alloc, World.size_alloc]
  obtain ⟨S0, hS0⟩ : ∃ S0, w.heap.size = S0 := ⟨_, rfl⟩
  rw [hS0] at hb1 hz1 hsz1
  have hmade : OwnRows 51 4 snGCells (w1.alloc (.cells #[] 51)) w1.heap.size (.slice (some ⟨w1.heap.size, 0, none⟩) 0 0) [] := World.ownsRow_made (base := w1.heap.size) (e := 51) (size := 4) w1 #[] 0 (Nat.le_refl _) (by decide) rfl
  obtain ⟨wm, hwm⟩ : ∃ wm, w1.alloc (.cells #[] 51) = wm := ⟨_, rfl⟩
  rw [hwm] at hmade
  have hxm : Ext w1 wm := by rw [← hwm]; exact (Ext.refl w1).alloc _
  have HMADE := Lib.hid hmade
  have HWM := Lib.hid hwm
  have HXM := Lib.hid hxm
  have HS0 := Lib.hid hS0
  have HW1 := Lib.hid hw1
  have HX1 := Lib.hid hx1
  have HB1 := Lib.hid hb1
  have HZ1 := Lib.hid hz1
  have HSZ := Lib.hid hsz1
  have H20 := Lib.hid h2
  have H3 := Lib.hid (h3.ext hx1)
  have hg' : (gs.length : Int) ≤ 10000 := by omega
  clear hmade hwm hxm hS0 hw1 hx1 hb1 hz1 hsz1 h2 h3
  simp only at hys
  have HYS := Lib.hid hys
  clear hys
  go_enter Try.func61, Try.ntmps61
  go_upto_region 1 with fail
  rw [HW1.out, HS0.out]
  go_wp2_with (first | rw [HWM.out])
  go_loopw [5, 6] (fun uv iv wr => ∃ (k : Nat) (l : List Gs4), k ≤ gs.length ∧ iv = .int .i64 k ∧ l = (gs.take k).filter (fun y => y.1 != g) ∧ OwnRows 51 4 snGCells wr w1.heap.size uv l ∧ Ext w1 wr) (fun _ iv _ => gs.length - (intOf iv).toNat)
  case atStart => exact ⟨0, [], by omega, rfl, rfl, HMADE.out, HXM.out⟩
  case round =>
    obtain ⟨k, l, hk, rfl, hl, ho, hx⟩ := hrel
    have HL := Lib.hid hl
    have HO := Lib.hid ho
    have HX := Lib.hid hx
    have HLL : Hid (l.length ≤ 10000) := Lib.hid (by rw [hl]; exact Nat.le_trans (List.length_filter_le _ _) (by rw [List.length_take]; omega))
    have c2 := blk_cell (hx.blk HB1.out) 2 _ rfl
    clear hl ho hx
    by_cases hlt : k < gs.length
    · obtain ⟨y, hy⟩ : ∃ y, gs[k]? = some y := ⟨_, List.getElem?_eq_getElem hlt⟩
      obtain ⟨b, o, hB, hb, hc⟩ := (H3.out.ext HX.out).get hy
      subst hB
      have k0 := hc 0 _ rfl
      have k1 := hc 1 _ rfl
      have k2 := hc 2 _ rfl
      have k3 := hc 3 _ rfl
      rw [Nat.add_zero] at k0
      have HY : Hid ((gs.take (k + 1)) = gs.take k ++ [y]) := Lib.hid (by rw [List.take_add_one, hy]; rfl)
      clear hc hb hy
      by_cases hm : y.1 = g
      · have h1 : (y.1 != g) = false := by simpa using hm
        have HN := Lib.hid hm
        clear hm
        go_wp2
        go_roundw
        case rel => exact ⟨k + 1, l, by omega, by go_num, by rw [HY.out, List.filter_append, HL.out]; simp [HN.out], HO.out, HX.out⟩
        case measure => simp [intOf]; omega
      · have h1 : (y.1 != g) = true := by simpa using hm
        have HN := Lib.hid hm
        obtain ⟨un, wn, hr1, ho1, hx1⟩ := gs_push (W := w1) HO.out HX.out y (by have := HLL.out; omega)
        have HR1 := Lib.hid hr1
        have HO1 := Lib.hid ho1
        have HXN1 := Lib.hid hx1
        clear hr1 ho1 hx1
        clear hm
        go_wp2_with (at_builtin; refine wpList_append_run rfl _ _ 23 rfl _ _ rfl rfl HR1.out ?_)
        go_roundw
        case rel => exact ⟨k + 1, l ++ [y], by omega, by go_num, by rw [HY.out, List.filter_append, HL.out]; simp [HN.out], HO1.out, HXN1.out⟩
        case measure => simp [intOf]; omega
    · obtain rfl : k = gs.length := by omega
      have HLY : Hid (l = ys) := Lib.hid (by rw [HL.out, List.take_length, HYS.out])
      obtain rfl := HLY.out
      clear hk hlt c2
      obtain ⟨Au, cu, hu, -⟩ := (OwnRows.rows snGCells_len HO.out).form
      have HO9 := Lib.hid HO.out
      subst hu
      obtain ⟨q4b, z4b, w6, hw6, hb5, hth6, hb6, hret⟩ := sn_fin HX1.out HS0.out HB1.out HZ1.out HSZ.out H20.out HX.out HO9.out
      have HW6 := Lib.hid hw6
      have HB5 := Lib.hid hb5
      have HTH6 := Lib.hid hth6
      have HB6 := Lib.hid hb6
      have HRET := Lib.hid hret
      clear hw6 hb5 hth6 hb6 hret
      go_upto_region 8 with fail
      clear q4b z4b
      go_wp2_with (first | (refine wpList_load_rowW (by rfl) 25 _ rfl S0 (by go_simp) [.int .i64 time, .slice A ps.length c, .slice Au l.length cu] (.agg ([.int .i64 time, .slice A ps.length c, .slice Au l.length cu]).toArray) rfl _ (range_row HB5.out) Try.underlying25 rfl (by kernel_rfl) ?_) | (refine wpList_store_rowN rfl 25 _ _ rfl (S0 + 1) 0 [.int .i64 time, .slice A ps.length c, .slice Au l.length cu] (.agg ([.int .i64 time, .slice A ps.length c, .slice Au l.length cu]).toArray) (by go_simp) (by go_simp) rfl HTH6.out (by kernel_rfl) (sn3_one _ _ _ rfl rfl) HW6.out ?_))
      refine bodyPost_ret (v := .agg ([.int .i64 time, .slice A ps.length c, .slice Au l.length cu]).toArray) (results_cell_row rfl _ _ (S0 + 1) _ _ _ _ rfl HB6.out Try.underlying25 rfl (by kernel_rfl)) rfl ?_
      exact HRET.out
set_option maxRecDepth 100000 in
set_option maxHeartbeats 12000000 in
theorem rwith_any (v : Value) (x : Sn) (g : Int) (w : World) (hs : SnAt w v x) (hp : x.ps.length ≤ 10000) (hg : x.gs.length ≤ 10000) (ys : List Gs4) (hys : Md.withF x.gs g = ys) :
    Calls Try.prog 59 #[v, .int .i64 g] w (SnRet w { x with gs := ys }) := by
  obtain ⟨A, c, B, d, rfl, h2, h3⟩ := hs
  obtain ⟨time, ps, gs⟩ := x
  simp only at h2 h3 hp hg ⊢
  obtain ⟨w1, hw1⟩ : ∃ w1, (w.alloc (.cells #[.int .i64 time, .slice A ps.length c, .slice B gs.length d] 25)).alloc (.cells #[.int .i64 0, .slice none 0 0, .slice none 0 0] 25) = w1 := ⟨_, rfl⟩
  have hx1 : Ext w w1 := by rw [← hw1]; exact ((Ext.refl w).alloc _).alloc _
  have hb1 : w1.heap[w.heap.size]? = some (.cells #[.int .i64 time, .slice A ps.length c, .slice B gs.length d] 25 (0, 0)) := by rw [← hw1]; exact blk_alloc (blk_new w _) _
  have hz1 : w1.heap[w.heap.size + 1]? = some (.cells #[.int .i64 0, .slice none 0 0, .slice none 0 0] 25 (0, 0)) := by rw [← hw1, ← World.size_alloc w (.cells #[.int .i64 time, .slice A ps.length c, .slice B gs.length d] 25)]; exact blk_new _ _
  have hsz1 : w1.heap.size = w.heap.size + 1 + 1 := by rw [← hw1, World.size_alloc, World.size_alloc]
  obtain ⟨S0, hS0⟩ : ∃ S0, w.heap.size = S0 := ⟨_, rfl⟩
  rw [hS0] at hb1 hz1 hsz1
  have hmade : OwnRows 51 4 snGCells (w1.alloc (.cells #[] 51)) w1.heap.size (.slice (some ⟨w1.heap.size, 0, none⟩) 0 0) [] := World.ownsRow_made (base := w1.heap.size) (e := 51) (size := 4) w1 #[] 0 (Nat.le_refl _) (by decide) rfl
  obtain ⟨wm, hwm⟩ : ∃ wm, w1.alloc (.cells #[] 51) = wm := ⟨_, rfl⟩
  rw [hwm] at hmade
  have hxm : Ext w1 wm := by rw [← hwm]; exact (Ext.refl w1).alloc _
  have HMADE := Lib.hid hmade
  have HWM := Lib.hid hwm
  have HXM := Lib.hid hxm
  have HS0 := Lib.hid hS0
  have HW1 := Lib.hid hw1
  have HX1 := Lib.hid hx1
  have HB1 := Lib.hid hb1
  have HZ1 := Lib.hid hz1
  have HSZ := Lib.hid hsz1
  have H20 := Lib.hid h2
  have H3 := Lib.hid (h3.ext hx1)
  have hg' : (gs.length : Int) ≤ 10000 := by omega
  clear hmade hwm hxm hS0 hw1 hx1 hb1 hz1 hsz1 h2 h3
  simp only at hys
  have HYS := Lib.hid hys
  clear hys
  go_enter Try.func59, Try.ntmps59
  go_upto_region 1 with fail
  rw [HW1.out, HS0.out]
  go_wp2_with (first | rw [HWM.out])
  go_loopw [5, 6, 7] (fun uv bv iv wr => ∃ (k : Nat) (l : List Gs4) (bb : Bool), k ≤ gs.length ∧ iv = .int .i64 k ∧ bv = .bool bb ∧ (l, bb) = (gs.take k).foldl (Md.stp g) ([], false) ∧ OwnRows 51 4 snGCells wr w1.heap.size uv l ∧ Ext w1 wr) (fun _ _ iv _ => gs.length - (intOf iv).toNat)
  case atStart => exact ⟨0, [], false, by omega, rfl, rfl, rfl, HMADE.out, HXM.out⟩
  case round =>
    obtain ⟨k, l, bb, hk, rfl, rfl, hl, ho, hx⟩ := hrel
    have HL := Lib.hid hl
    have HO := Lib.hid ho
    have HX := Lib.hid hx
    have HLL : Hid (l.length ≤ 20000) := Lib.hid (by
      have h1 := Md.stp_len g (gs.take k) ([], false)
      rw [← hl, List.length_take] at h1
      simp only [List.length_nil] at h1
      omega)
    have c2 := blk_cell (hx.blk HB1.out) 2 _ rfl
    clear hl ho hx
    by_cases hlt : k < gs.length
    · obtain ⟨y, hy⟩ : ∃ y, gs[k]? = some y := ⟨_, List.getElem?_eq_getElem hlt⟩
      obtain ⟨b, o, hB, hb, hc⟩ := H3.out.get hy
      have HCK : Hid (∀ wx, Ext w1 wx → ∀ i u, (snGCells y)[i]? = some u → wx.cell? ⟨b, o + k * 4 + i, none⟩ = some u) := Lib.hid fun wx hx i u hu => (bcell hx _ _ hb).trans (hc i u hu)
      subst hB
      have k0 := HCK.out wr HX.out 0 _ rfl
      have k1 := HCK.out wr HX.out 1 _ rfl
      have k2 := HCK.out wr HX.out 2 _ rfl
      have k3 := HCK.out wr HX.out 3 _ rfl
      rw [Nat.add_zero] at k0
      have HY : Hid ((gs.take (k + 1)).foldl (Md.stp g) ([], false) = Md.stp g (l, bb) y) := Lib.hid (by rw [List.take_add_one, hy, List.foldl_append, ← HL.out]; rfl)
      clear hc hb hy
      by_cases hm : g < y.1 ∧ bb = false
      · obtain ⟨hm1, rfl⟩ := hm
        have h1 : decide (g < y.1) = true := decide_eq_true hm1
        have HN : Hid (Md.stp g (l, false) y = (l ++ [(g, 1, 0, 0)] ++ [y], true)) := Lib.hid (by unfold Md.stp; rw [if_pos ⟨hm1, rfl⟩])
        obtain ⟨un, wn, hr1, ho1, hx1⟩ := gs_push (W := w1) HO.out HX.out (g, 1, 0, 0) (by have := HLL.out; omega)
        have HR1 := Lib.hid hr1
        have HO1 := Lib.hid ho1
        have HXN1 := Lib.hid hx1
        clear hr1 ho1 hx1
        obtain ⟨uo, wo, hr2, ho2, hx2⟩ := gs_push (W := w1) HO1.out HXN1.out y (by have := HLL.out; simp; omega)
        have HR2 := Lib.hid hr2
        have HO2 := Lib.hid ho2
        have HXN2 := Lib.hid hx2
        clear hr2 ho2 hx2
        obtain ⟨wp, hwp⟩ : ∃ wp, wr.alloc (.cells (snGCells (g, 1, 0, 0)).toArray 51) = wp := ⟨_, rfl⟩
        have hrp := HR1.out
        rw [hwp] at hrp
        have HWP : Hid (wr.alloc (.cells #[.int .i64 g, .int .i64 1, .int .i64 0, .int .i64 0] 51) = wp) := Lib.hid hwp
        have HRP := Lib.hid hrp
        clear hwp hrp
        clear hm1
        go_upto_region 9 with (first | rw [HWP.out] | (at_builtin; refine wpList_append_run rfl _ _ 23 rfl _ _ rfl rfl HRP.out ?_))
        clear k0 k1 k2 k3 c2
        have c2 := blk_cell (HXN1.out.blk HB1.out) 2 _ rfl
        have k0 := HCK.out wn HXN1.out 0 _ rfl
        have k1 := HCK.out wn HXN1.out 1 _ rfl
        have k2 := HCK.out wn HXN1.out 2 _ rfl
        have k3 := HCK.out wn HXN1.out 3 _ rfl
        rw [Nat.add_zero] at k0
        go_wp2_with (at_builtin; refine wpList_append_run rfl _ _ 23 rfl _ _ rfl rfl HR2.out ?_)
        go_roundw
        case rel => exact ⟨k + 1, l ++ [(g, 1, 0, 0)] ++ [y], true, by omega, by go_num, rfl, by rw [HY.out, HN.out], HO2.out, HXN2.out⟩
        case measure => simp [intOf]; omega
      · have HN : Hid (Md.stp g (l, bb) y = (l ++ [y], bb)) := Lib.hid (by unfold Md.stp; rw [if_neg hm])
        obtain ⟨un, wn, hr1, ho1, hx1⟩ := gs_push (W := w1) HO.out HX.out y (by have := HLL.out; omega)
        have HR1 := Lib.hid hr1
        have HO1 := Lib.hid ho1
        have HXN1 := Lib.hid hx1
        clear hr1 ho1 hx1
        by_cases hm1 : g < y.1
        · have h1 : decide (g < y.1) = true := decide_eq_true hm1
          obtain rfl : bb = true := by cases bb with | true => rfl | false => exact absurd ⟨hm1, rfl⟩ hm
          clear hm hm1
          go_wp2_with (at_builtin; refine wpList_append_run rfl _ _ 23 rfl _ _ rfl rfl HR1.out ?_)
          go_roundw
          case rel => exact ⟨k + 1, l ++ [y], true, by omega, by go_num, rfl, by rw [HY.out, HN.out], HO1.out, HXN1.out⟩
          case measure => simp [intOf]; omega
        · have h1 : decide (g < y.1) = false := decide_eq_false hm1
          clear hm hm1
          go_wp2_with (at_builtin; refine wpList_append_run rfl _ _ 23 rfl _ _ rfl rfl HR1.out ?_)
          go_roundw
          case rel => exact ⟨k + 1, l ++ [y], bb, by omega, by go_num, rfl, by rw [HY.out, HN.out], HO1.out, HXN1.out⟩
          case measure => simp [intOf]; omega
    · obtain rfl : k = gs.length := by omega
      have HLY : Hid ((if bb = true then l else l ++ [(g, 1, 0, 0)]) = ys) := Lib.hid (by
        rw [← HYS.out]
        have h1 := HL.out
        rw [List.take_length] at h1
        unfold Md.withF
        rw [← h1])
      clear hk hlt c2
      cases bb with
      | true =>
        have hly := HLY.out
        rw [if_pos rfl] at hly
        subst hly
        obtain ⟨Au, cu, hu, -⟩ := (OwnRows.rows snGCells_len HO.out).form
        have HO9 := Lib.hid HO.out
        subst hu
        obtain ⟨q4b, z4b, w6, hw6, hb5, hth6, hb6, hret⟩ := sn_fin HX1.out HS0.out HB1.out HZ1.out HSZ.out H20.out HX.out HO9.out
        have HW6 := Lib.hid hw6
        have HB5 := Lib.hid hb5
        have HTH6 := Lib.hid hth6
        have HB6 := Lib.hid hb6
        have HRET := Lib.hid hret
        clear hw6 hb5 hth6 hb6 hret
        go_upto_region 13 with fail
        clear q4b z4b
        go_wp2_with (first | (refine wpList_load_rowW (by rfl) 25 _ rfl S0 (by go_simp) [.int .i64 time, .slice A ps.length c, .slice Au l.length cu] (.agg ([.int .i64 time, .slice A ps.length c, .slice Au l.length cu]).toArray) rfl _ (range_row HB5.out) Try.underlying25 rfl (by kernel_rfl) ?_) | (refine wpList_store_rowN rfl 25 _ _ rfl (S0 + 1) 0 [.int .i64 time, .slice A ps.length c, .slice Au l.length cu] (.agg ([.int .i64 time, .slice A ps.length c, .slice Au l.length cu]).toArray) (by go_simp) (by go_simp) rfl HTH6.out (by kernel_rfl) (sn3_one _ _ _ rfl rfl) HW6.out ?_))
        refine bodyPost_ret (v := .agg ([.int .i64 time, .slice A ps.length c, .slice Au l.length cu]).toArray) (results_cell_row rfl _ _ (S0 + 1) _ _ _ _ rfl HB6.out Try.underlying25 rfl (by kernel_rfl)) rfl ?_
        exact HRET.out
      | false =>
        have hly := HLY.out
        rw [if_neg (by simp)] at hly
        have c2 := blk_cell (HX.out.blk HB1.out) 2 _ rfl
        obtain ⟨un, wn, hr1, ho1, hx1⟩ := gs_push (W := w1) HO.out HX.out (g, 1, 0, 0) (by have := HLL.out; omega)
        have HR1 := Lib.hid hr1
        have HO1 := Lib.hid ho1
        have HXN1 := Lib.hid hx1
        clear hr1 ho1 hx1
        obtain ⟨wp, hwp⟩ : ∃ wp, wr.alloc (.cells (snGCells (g, 1, 0, 0)).toArray 51) = wp := ⟨_, rfl⟩
        have hrp := HR1.out
        rw [hwp] at hrp
        have HWP : Hid (wr.alloc (.cells #[.int .i64 g, .int .i64 1, .int .i64 0, .int .i64 0] 51) = wp) := Lib.hid hwp
        have HRP := Lib.hid hrp
        have ho5 := HO1.out
        rw [hly] at ho5
        have HO5 := Lib.hid ho5
        clear hwp hrp ho5
        obtain ⟨Au, cu, hu, -⟩ := (OwnRows.rows snGCells_len HO5.out).form
        have HO9 := Lib.hid HO5.out
        subst hu
        obtain ⟨q4b, z4b, w6, hw6, hb5, hth6, hb6, hret⟩ := sn_fin HX1.out HS0.out HB1.out HZ1.out HSZ.out H20.out HXN1.out HO9.out
        have HW6 := Lib.hid hw6
        have HB5 := Lib.hid hb5
        have HTH6 := Lib.hid hth6
        have HB6 := Lib.hid hb6
        have HRET := Lib.hid hret
        clear hw6 hb5 hth6 hb6 hret
        go_wp2_with (first | rw [HWP.out] | (at_builtin; refine wpList_append_run rfl _ _ 23 rfl _ _ rfl rfl HRP.out ?_) | (refine wpList_load_rowW (by rfl) 25 _ rfl S0 (by go_simp) [.int .i64 time, .slice A ps.length c, .slice Au ys.length cu] (.agg ([.int .i64 time, .slice A ps.length c, .slice Au ys.length cu]).toArray) rfl _ (range_row HB5.out) Try.underlying25 rfl (by kernel_rfl) ?_) | (refine wpList_store_rowN rfl 25 _ _ rfl (S0 + 1) 0 [.int .i64 time, .slice A ps.length c, .slice Au ys.length cu] (.agg ([.int .i64 time, .slice A ps.length c, .slice Au ys.length cu]).toArray) (by go_simp) (by go_simp) rfl HTH6.out (by kernel_rfl) (sn3_one _ _ _ rfl rfl) HW6.out ?_))
        refine bodyPost_ret (v := .agg ([.int .i64 time, .slice A ps.length c, .slice Au ys.length cu]).toArray) (results_cell_row rfl _ _ (S0 + 1) _ _ _ _ rfl HB6.out Try.underlying25 rfl (by kernel_rfl)) rfl ?_
        exact HRET.out
def lgV (l : Lg) (wy st : Value) : Value := .agg #[.int .i64 l.time, .int .i64 l.m, .int .i64 l.kind, .int .i64 l.g, .int .i64 l.p, .int .i64 l.seq, wy, st]
namespace Md
def askB (kd P G g p sq st ss : Int) (fr : Bool) : Bool :=
  if kd = 1 then fr && decide (P = 0) && decide (G = 0)
  else if kd = 2 then decide (P ≠ 0) && decide (p = P) && decide (G = 0)
  else if kd = 3 then decide (P ≠ 0) && decide (G ≠ 0) && decide (0 < g) && decide (st = 0)
  else if kd = 4 then decide (P ≠ 0) && decide (G = 0) && decide (st = 1) && decide (ss = sq)
  else if kd = 5 ∨ kd = 6 ∨ kd = 8 then decide (P ≠ 0) && decide (G ≠ 0) && decide (g = G)
  else if kd = 7 then decide (P ≠ 0) && decide (st = 3) && decide (ss = sq)
  else if kd = 9 then decide (P ≠ 0) && decide (G ≠ 0) && decide (g = G) && decide (p = P)
  else if kd = 10 then decide (P = 0) && decide (G ≠ 0) && decide (g = G) && (decide (p = 0 ∧ sq = 0) || fr)
  else false
theorem stat_zero {x : Sn} (h : x.may = true) (g : Int) : (stat x.gs g).1 = 0 ↔ fnd x.gs g = none := by
  unfold stat
  cases hf : fnd x.gs g with
  | none => simp
  | some k =>
    obtain ⟨y, hy, -, -⟩ := fnd_some hf
    simp only [List.getD, hy, Option.getD_some, reduceCtorEq, iff_false]
    have h8 := ((Sn.may_iff x).1 h).2.2.2.2.2.2.2.1 y (List.mem_of_getElem? hy)
    unfold snGFit at h8
    intro h0
    rw [h0] at h8
    simp at h8
theorem ask_eq {x : Sn} (h : x.may = true) (l : Lg) : ask x l = askB l.kind (hasP x.ps l.m 1) (hasG x.gs l.m) l.g l.p l.seq (stat x.gs l.g).1 (stat x.gs l.g).2 (free x.ps l.p l.seq) := by
  unfold ask askB
  have h3 : decide (fnd x.gs l.g = none) = decide ((stat x.gs l.g).1 = 0) := by rw [decide_eq_decide]; exact (stat_zero h l.g).symm
  have h4 : ∀ a : Int, decide (stat x.gs l.g = (a, l.seq)) = (decide ((stat x.gs l.g).1 = a) && decide ((stat x.gs l.g).2 = l.seq)) := fun a => by
    rw [← Bool.decide_and, decide_eq_decide]
    constructor
    · intro e; rw [e]; exact ⟨rfl, rfl⟩
    · rintro ⟨e1, e2⟩; exact Prod.ext e1 e2
  rw [h3, h4, h4]
  simp only [Bool.and_assoc]
end Md
set_option maxRecDepth 100000 in
set_option maxHeartbeats 16000000 in
theorem rasked_any (v : Value) (x : Sn) (l : Lg) (wy st : Value) (w : World) (hs : SnAt w v x) (hm : x.may = true) (hlm : 1 ≤ l.m) (r : Bool) (hr : Md.ask x l = r) :
    Calls Try.prog 29 #[v, lgV l wy st] w fun e w' => e = .returned (.bool r) ∧ Ext w w' := by
  rw [Md.ask_eq hm l] at hr
  obtain ⟨A, c, B, d, rfl, h2, h3⟩ := hs
  obtain ⟨time, ps, gs⟩ := x
  obtain ⟨lt, lm, kd, lg, lp, ls⟩ := l
  simp only at h2 h3 hlm hr ⊢
  have hmi := (Sn.may_iff _).1 hm
  have hp : ps.length ≤ 64 := hmi.2.1
  have hg : gs.length ≤ 1000 := hmi.2.2.1
  have HU := Lib.hid (Md.uniq_may hm (m := lm) (by omega))
  have HMAY := Lib.hid hm
  obtain ⟨w1, hw1⟩ : ∃ w1, (w.alloc (.cells #[.int .i64 time, .slice A ps.length c, .slice B gs.length d] 25)).alloc (.cells #[.int .i64 lt, .int .i64 lm, .int .i64 kd, .int .i64 lg, .int .i64 lp, .int .i64 ls, wy, st] 28) = w1 := ⟨_, rfl⟩
  have hx1 : Ext w w1 := by rw [← hw1]; exact ((Ext.refl w).alloc _).alloc _
  have hb1 : w1.heap[w.heap.size]? = some (.cells #[.int .i64 time, .slice A ps.length c, .slice B gs.length d] 25 (0, 0)) := by rw [← hw1]; exact blk_alloc (blk_new w _) _
  have hl1 : w1.heap[w.heap.size + 1]? = some (.cells #[.int .i64 lt, .int .i64 lm, .int .i64 kd, .int .i64 lg, .int .i64 lp, .int .i64 ls, wy, st] 28 (0, 0)) := by rw [← hw1, ← World.size_alloc w (.cells #[.int .i64 time, .slice A ps.length c, .slice B gs.length d] 25)]; exact blk_new _ _
  obtain ⟨S0, hS0⟩ : ∃ S0, w.heap.size = S0 := ⟨_, rfl⟩
  rw [hS0] at hb1 hl1
  have HS0 := Lib.hid hS0
  have HW1 := Lib.hid hw1
  have HX1 := Lib.hid hx1
  have HB1 := Lib.hid hb1
  have HL1 := Lib.hid hl1
  have H2 := Lib.hid (h2.ext hx1)
  have H3 := Lib.hid (h3.ext hx1)
  have HP : Hid (ps.length ≤ 10000) := Lib.hid (by omega)
  have HG : Hid (gs.length ≤ 10000) := Lib.hid (by omega)
  have HR := Lib.hid hr
  clear hmi hp hg hw1 hx1 hb1 hl1 hS0 h2 h3 hm hlm hr
  obtain ⟨P, hP⟩ : ∃ P, Md.hasP ps lm 1 = P := ⟨_, rfl⟩
  obtain ⟨G, hG⟩ : ∃ G, Md.hasG gs lm = G := ⟨_, rfl⟩
  obtain ⟨⟨s1, s2⟩, hS⟩ : ∃ q, Md.stat gs lg = q := ⟨_, rfl⟩
  obtain ⟨fr, hfr⟩ : ∃ fr, Md.free ps lp ls = fr := ⟨_, rfl⟩
  have hrb := HR.out
  rw [hP, hG, hS, hfr] at hrb
  simp only at hrb
  have HRB := Lib.hid hrb
  have HPP := Lib.hid hP
  have HGG := Lib.hid hG
  have HSS := Lib.hid hS
  have HFR := Lib.hid hfr
  clear hrb hP hG hS hfr HR
  have c0 := blk_cell ((Ext.refl w1).blk HB1.out) 0 _ rfl
  have c1 := blk_cell ((Ext.refl w1).blk HB1.out) 1 _ rfl
  have c2 := blk_cell ((Ext.refl w1).blk HB1.out) 2 _ rfl
  have m1 := blk_cell ((Ext.refl w1).blk HL1.out) 1 _ rfl
  have m2 := blk_cell ((Ext.refl w1).blk HL1.out) 2 _ rfl
  have m3 := blk_cell ((Ext.refl w1).blk HL1.out) 3 _ rfl
  have m4 := blk_cell ((Ext.refl w1).blk HL1.out) 4 _ rfl
  have m5 := blk_cell ((Ext.refl w1).blk HL1.out) 5 _ rfl
  unfold lgV
  go_enter Try.func29, Try.ntmps29
  go_upto_region 1 with fail
  rw [HW1.out, HS0.out]
  go_wp2_with fail
  refine (rhave_any _ ⟨time, ps, gs⟩ lm w1 ⟨A, c, B, d, rfl, H2.out.ext (Ext.refl w1), H3.out.ext (Ext.refl w1)⟩ HP.out HG.out HU.out P G HPP.out HGG.out).mono ?_
  rintro e w2 ⟨rfl, hx2⟩
  have X2 := Lib.hid hx2
  clear hx2
  clear c0 c1 c2 m1 m2 m3 m4 m5
  have c0 := blk_cell (X2.out.blk HB1.out) 0 _ rfl
  have c1 := blk_cell (X2.out.blk HB1.out) 1 _ rfl
  have c2 := blk_cell (X2.out.blk HB1.out) 2 _ rfl
  have m1 := blk_cell (X2.out.blk HL1.out) 1 _ rfl
  have m2 := blk_cell (X2.out.blk HL1.out) 2 _ rfl
  have m3 := blk_cell (X2.out.blk HL1.out) 3 _ rfl
  have m4 := blk_cell (X2.out.blk HL1.out) 4 _ rfl
  have m5 := blk_cell (X2.out.blk HL1.out) 5 _ rfl
  go_wp2_with fail
  refine (rstatus_any _ ⟨time, ps, gs⟩ lg w2 ⟨A, c, B, d, rfl, H2.out.ext X2.out, H3.out.ext X2.out⟩ HP.out HG.out s1 s2 HSS.out).mono ?_
  rintro e w3 ⟨rfl, hx3⟩
  have X3 := Lib.hid (X2.out.trans hx3)
  have HX3 := Lib.hid (HX1.out.trans X3.out)
  clear hx3
  clear c0 c1 c2 m1 m2 m3 m4 m5
  have c0 := blk_cell (X3.out.blk HB1.out) 0 _ rfl
  have c1 := blk_cell (X3.out.blk HB1.out) 1 _ rfl
  have c2 := blk_cell (X3.out.blk HB1.out) 2 _ rfl
  have m1 := blk_cell (X3.out.blk HL1.out) 1 _ rfl
  have m2 := blk_cell (X3.out.blk HL1.out) 2 _ rfl
  have m3 := blk_cell (X3.out.blk HL1.out) 3 _ rfl
  have m4 := blk_cell (X3.out.blk HL1.out) 4 _ rfl
  have m5 := blk_cell (X3.out.blk HL1.out) 5 _ rfl
  by_cases kd1 : kd = 1
  · subst kd1
    as_aux_lemma =>
      go_wp2_with fail
      refine (rfree_any _ ⟨time, ps, gs⟩ lp ls w3 ⟨A, c, B, d, rfl, H2.out.ext X3.out, H3.out.ext X3.out⟩ HP.out HG.out fr HFR.out).mono ?_
      rintro e w4 ⟨rfl, hx4⟩
      have XF := Lib.hid (HX1.out.trans (X3.out.trans hx4))
      have XG := Lib.hid (X3.out.trans hx4)
      clear hx4
      clear c0 c1 c2 m1 m2 m3 m4 m5
      have c0 := blk_cell (XG.out.blk HB1.out) 0 _ rfl
      have c1 := blk_cell (XG.out.blk HB1.out) 1 _ rfl
      have c2 := blk_cell (XG.out.blk HB1.out) 2 _ rfl
      have m1 := blk_cell (XG.out.blk HL1.out) 1 _ rfl
      have m2 := blk_cell (XG.out.blk HL1.out) 2 _ rfl
      have m3 := blk_cell (XG.out.blk HL1.out) 3 _ rfl
      have m4 := blk_cell (XG.out.blk HL1.out) 4 _ rfl
      have m5 := blk_cell (XG.out.blk HL1.out) 5 _ rfl
      cases fr with
      | false =>
        have HF : Hid (r = false) := Lib.hid (by rw [← HRB.out]; unfold Md.askB; simp [])
        obtain rfl := HF.out
        go_wp2
        go_ret
        exact ⟨rfl, XF.out⟩
      | true =>
        by_cases k1 : P = 0
        · skip
          have e1 : (P == 0) = true := by simpa using k1
          have f1 : (P != 0) = false := by simp [k1]
          have K1 := Lib.hid k1
          clear k1
          by_cases k2 : G = 0
          · skip
            have e2 : (G == 0) = true := by simpa using k2
            have f2 : (G != 0) = false := by simp [k2]
            have K2 := Lib.hid k2
            clear k2
            have HF : Hid (r = true) := Lib.hid (by rw [← HRB.out]; unfold Md.askB; simp [K1.out, K2.out])
            obtain rfl := HF.out
            go_wp2
            go_ret
            exact ⟨rfl, XF.out⟩
          · skip
            have e2 : (G == 0) = false := by simpa using k2
            have f2 : (G != 0) = true := by simpa using k2
            have K2 := Lib.hid k2
            clear k2
            have HF : Hid (r = false) := Lib.hid (by rw [← HRB.out]; unfold Md.askB; simp [K1.out, K2.out])
            obtain rfl := HF.out
            go_wp2
            go_ret
            exact ⟨rfl, XF.out⟩
        · skip
          have e1 : (P == 0) = false := by simpa using k1
          have f1 : (P != 0) = true := by simpa using k1
          have K1 := Lib.hid k1
          clear k1
          have HF : Hid (r = false) := Lib.hid (by rw [← HRB.out]; unfold Md.askB; simp [K1.out])
          obtain rfl := HF.out
          go_wp2
          go_ret
          exact ⟨rfl, XF.out⟩
  have nk1 : (kd == 1) = false := by simpa using kd1
  have HN1 := Lib.hid kd1
  clear kd1
  by_cases kd2 : kd = 2
  · subst kd2
    as_aux_lemma =>
      by_cases k1 : P = 0
      · skip
        have e1 : (P == 0) = true := by simpa using k1
        have f1 : (P != 0) = false := by simp [k1]
        have K1 := Lib.hid k1
        clear k1
        have HF : Hid (r = false) := Lib.hid (by rw [← HRB.out]; unfold Md.askB; simp [K1.out])
        obtain rfl := HF.out
        go_wp2
        go_ret
        exact ⟨rfl, HX3.out⟩
      · skip
        have e1 : (P == 0) = false := by simpa using k1
        have f1 : (P != 0) = true := by simpa using k1
        have K1 := Lib.hid k1
        clear k1
        by_cases k2 : lp = P
        · skip
          have e2 : (lp == P) = true := by simpa using k2
          have f2 : (lp != P) = false := by simp [k2]
          have K2 := Lib.hid k2
          clear k2
          by_cases k3 : G = 0
          · skip
            have e3 : (G == 0) = true := by simpa using k3
            have f3 : (G != 0) = false := by simp [k3]
            have K3 := Lib.hid k3
            clear k3
            have HF : Hid (r = true) := Lib.hid (by rw [← HRB.out]; unfold Md.askB; simp [K1.out, K2.out, K3.out])
            obtain rfl := HF.out
            go_wp2
            go_ret
            exact ⟨rfl, HX3.out⟩
          · skip
            have e3 : (G == 0) = false := by simpa using k3
            have f3 : (G != 0) = true := by simpa using k3
            have K3 := Lib.hid k3
            clear k3
            have HF : Hid (r = false) := Lib.hid (by rw [← HRB.out]; unfold Md.askB; simp [K1.out, K2.out, K3.out])
            obtain rfl := HF.out
            go_wp2
            go_ret
            exact ⟨rfl, HX3.out⟩
        · skip
          have e2 : (lp == P) = false := by simpa using k2
          have f2 : (lp != P) = true := by simpa using k2
          have K2 := Lib.hid k2
          clear k2
          have HF : Hid (r = false) := Lib.hid (by rw [← HRB.out]; unfold Md.askB; simp [K1.out, K2.out])
          obtain rfl := HF.out
          go_wp2
          go_ret
          exact ⟨rfl, HX3.out⟩
  have nk2 : (kd == 2) = false := by simpa using kd2
  have HN2 := Lib.hid kd2
  clear kd2
  by_cases kd3 : kd = 3
  · subst kd3
    as_aux_lemma =>
      by_cases k1 : P = 0
      · skip
        have e1 : (P == 0) = true := by simpa using k1
        have f1 : (P != 0) = false := by simp [k1]
        have K1 := Lib.hid k1
        clear k1
        have HF : Hid (r = false) := Lib.hid (by rw [← HRB.out]; unfold Md.askB; simp [K1.out])
        obtain rfl := HF.out
        go_wp2
        go_ret
        exact ⟨rfl, HX3.out⟩
      · skip
        have e1 : (P == 0) = false := by simpa using k1
        have f1 : (P != 0) = true := by simpa using k1
        have K1 := Lib.hid k1
        clear k1
        by_cases k2 : G = 0
        · skip
          have e2 : (G == 0) = true := by simpa using k2
          have f2 : (G != 0) = false := by simp [k2]
          have K2 := Lib.hid k2
          clear k2
          have HF : Hid (r = false) := Lib.hid (by rw [← HRB.out]; unfold Md.askB; simp [K1.out, K2.out])
          obtain rfl := HF.out
          go_wp2
          go_ret
          exact ⟨rfl, HX3.out⟩
        · skip
          have e2 : (G == 0) = false := by simpa using k2
          have f2 : (G != 0) = true := by simpa using k2
          have K2 := Lib.hid k2
          clear k2
          by_cases k3 : 0 < lg
          · have e3 : decide (0 < lg) = true := decide_eq_true k3
            have K3 := Lib.hid k3
            clear k3
            by_cases k4 : s1 = 0
            · skip
              have e4 : (s1 == 0) = true := by simpa using k4
              have f4 : (s1 != 0) = false := by simp [k4]
              have K4 := Lib.hid k4
              clear k4
              have HF : Hid (r = true) := Lib.hid (by rw [← HRB.out]; unfold Md.askB; simp [K1.out, K2.out, K3.out, K4.out])
              obtain rfl := HF.out
              go_wp2
              go_ret
              exact ⟨rfl, HX3.out⟩
            · skip
              have e4 : (s1 == 0) = false := by simpa using k4
              have f4 : (s1 != 0) = true := by simpa using k4
              have K4 := Lib.hid k4
              clear k4
              have HF : Hid (r = false) := Lib.hid (by rw [← HRB.out]; unfold Md.askB; simp [K1.out, K2.out, K3.out, K4.out])
              obtain rfl := HF.out
              go_wp2
              go_ret
              exact ⟨rfl, HX3.out⟩
          · have e3 : decide (0 < lg) = false := decide_eq_false k3
            have K3 := Lib.hid k3
            clear k3
            have HF : Hid (r = false) := Lib.hid (by rw [← HRB.out]; unfold Md.askB; simp [K1.out, K2.out, K3.out])
            obtain rfl := HF.out
            go_wp2
            go_ret
            exact ⟨rfl, HX3.out⟩
  have nk3 : (kd == 3) = false := by simpa using kd3
  have HN3 := Lib.hid kd3
  clear kd3
  by_cases kd4 : kd = 4
  · subst kd4
    as_aux_lemma =>
      by_cases k1 : P = 0
      · skip
        have e1 : (P == 0) = true := by simpa using k1
        have f1 : (P != 0) = false := by simp [k1]
        have K1 := Lib.hid k1
        clear k1
        have HF : Hid (r = false) := Lib.hid (by rw [← HRB.out]; unfold Md.askB; simp [K1.out])
        obtain rfl := HF.out
        go_wp2
        go_ret
        exact ⟨rfl, HX3.out⟩
      · skip
        have e1 : (P == 0) = false := by simpa using k1
        have f1 : (P != 0) = true := by simpa using k1
        have K1 := Lib.hid k1
        clear k1
        by_cases k2 : G = 0
        · skip
          have e2 : (G == 0) = true := by simpa using k2
          have f2 : (G != 0) = false := by simp [k2]
          have K2 := Lib.hid k2
          clear k2
          by_cases k3 : s1 = 1
          · skip
            have e3 : (s1 == 1) = true := by simpa using k3
            have f3 : (s1 != 1) = false := by simp [k3]
            have K3 := Lib.hid k3
            clear k3
            by_cases k4 : s2 = ls
            · skip
              have e4 : (s2 == ls) = true := by simpa using k4
              have f4 : (s2 != ls) = false := by simp [k4]
              have K4 := Lib.hid k4
              clear k4
              have HF : Hid (r = true) := Lib.hid (by rw [← HRB.out]; unfold Md.askB; simp [K1.out, K2.out, K3.out, K4.out])
              obtain rfl := HF.out
              go_wp2
              go_ret
              exact ⟨rfl, HX3.out⟩
            · skip
              have e4 : (s2 == ls) = false := by simpa using k4
              have f4 : (s2 != ls) = true := by simpa using k4
              have K4 := Lib.hid k4
              clear k4
              have HF : Hid (r = false) := Lib.hid (by rw [← HRB.out]; unfold Md.askB; simp [K1.out, K2.out, K3.out, K4.out])
              obtain rfl := HF.out
              go_wp2
              go_ret
              exact ⟨rfl, HX3.out⟩
          · skip
            have e3 : (s1 == 1) = false := by simpa using k3
            have f3 : (s1 != 1) = true := by simpa using k3
            have K3 := Lib.hid k3
            clear k3
            have HF : Hid (r = false) := Lib.hid (by rw [← HRB.out]; unfold Md.askB; simp [K1.out, K2.out, K3.out])
            obtain rfl := HF.out
            go_wp2
            go_ret
            exact ⟨rfl, HX3.out⟩
        · skip
          have e2 : (G == 0) = false := by simpa using k2
          have f2 : (G != 0) = true := by simpa using k2
          have K2 := Lib.hid k2
          clear k2
          have HF : Hid (r = false) := Lib.hid (by rw [← HRB.out]; unfold Md.askB; simp [K1.out, K2.out])
          obtain rfl := HF.out
          go_wp2
          go_ret
          exact ⟨rfl, HX3.out⟩
  have nk4 : (kd == 4) = false := by simpa using kd4
  have HN4 := Lib.hid kd4
  clear kd4
  by_cases kd5 : kd = 5
  · subst kd5
    as_aux_lemma =>
      by_cases k1 : P = 0
      · skip
        have e1 : (P == 0) = true := by simpa using k1
        have f1 : (P != 0) = false := by simp [k1]
        have K1 := Lib.hid k1
        clear k1
        have HF : Hid (r = false) := Lib.hid (by rw [← HRB.out]; unfold Md.askB; simp [K1.out])
        obtain rfl := HF.out
        go_wp2
        go_ret
        exact ⟨rfl, HX3.out⟩
      · skip
        have e1 : (P == 0) = false := by simpa using k1
        have f1 : (P != 0) = true := by simpa using k1
        have K1 := Lib.hid k1
        clear k1
        by_cases k2 : G = 0
        · skip
          have e2 : (G == 0) = true := by simpa using k2
          have f2 : (G != 0) = false := by simp [k2]
          have K2 := Lib.hid k2
          clear k2
          have HF : Hid (r = false) := Lib.hid (by rw [← HRB.out]; unfold Md.askB; simp [K1.out, K2.out])
          obtain rfl := HF.out
          go_wp2
          go_ret
          exact ⟨rfl, HX3.out⟩
        · skip
          have e2 : (G == 0) = false := by simpa using k2
          have f2 : (G != 0) = true := by simpa using k2
          have K2 := Lib.hid k2
          clear k2
          by_cases k3 : lg = G
          · skip
            have e3 : (lg == G) = true := by simpa using k3
            have f3 : (lg != G) = false := by simp [k3]
            have K3 := Lib.hid k3
            clear k3
            have HF : Hid (r = true) := Lib.hid (by rw [← HRB.out]; unfold Md.askB; simp [K1.out, K2.out, K3.out])
            obtain rfl := HF.out
            go_wp2
            go_ret
            exact ⟨rfl, HX3.out⟩
          · skip
            have e3 : (lg == G) = false := by simpa using k3
            have f3 : (lg != G) = true := by simpa using k3
            have K3 := Lib.hid k3
            clear k3
            have HF : Hid (r = false) := Lib.hid (by rw [← HRB.out]; unfold Md.askB; simp [K1.out, K2.out, K3.out])
            obtain rfl := HF.out
            go_wp2
            go_ret
            exact ⟨rfl, HX3.out⟩
  have nk5 : (kd == 5) = false := by simpa using kd5
  have HN5 := Lib.hid kd5
  clear kd5
  by_cases kd6 : kd = 6
  · subst kd6
    as_aux_lemma =>
      by_cases k1 : P = 0
      · skip
        have e1 : (P == 0) = true := by simpa using k1
        have f1 : (P != 0) = false := by simp [k1]
        have K1 := Lib.hid k1
        clear k1
        have HF : Hid (r = false) := Lib.hid (by rw [← HRB.out]; unfold Md.askB; simp [K1.out])
        obtain rfl := HF.out
        go_wp2
        go_ret
        exact ⟨rfl, HX3.out⟩
      · skip
        have e1 : (P == 0) = false := by simpa using k1
        have f1 : (P != 0) = true := by simpa using k1
        have K1 := Lib.hid k1
        clear k1
        by_cases k2 : G = 0
        · skip
          have e2 : (G == 0) = true := by simpa using k2
          have f2 : (G != 0) = false := by simp [k2]
          have K2 := Lib.hid k2
          clear k2
          have HF : Hid (r = false) := Lib.hid (by rw [← HRB.out]; unfold Md.askB; simp [K1.out, K2.out])
          obtain rfl := HF.out
          go_wp2
          go_ret
          exact ⟨rfl, HX3.out⟩
        · skip
          have e2 : (G == 0) = false := by simpa using k2
          have f2 : (G != 0) = true := by simpa using k2
          have K2 := Lib.hid k2
          clear k2
          by_cases k3 : lg = G
          · skip
            have e3 : (lg == G) = true := by simpa using k3
            have f3 : (lg != G) = false := by simp [k3]
            have K3 := Lib.hid k3
            clear k3
            have HF : Hid (r = true) := Lib.hid (by rw [← HRB.out]; unfold Md.askB; simp [K1.out, K2.out, K3.out])
            obtain rfl := HF.out
            go_wp2
            go_ret
            exact ⟨rfl, HX3.out⟩
          · skip
            have e3 : (lg == G) = false := by simpa using k3
            have f3 : (lg != G) = true := by simpa using k3
            have K3 := Lib.hid k3
            clear k3
            have HF : Hid (r = false) := Lib.hid (by rw [← HRB.out]; unfold Md.askB; simp [K1.out, K2.out, K3.out])
            obtain rfl := HF.out
            go_wp2
            go_ret
            exact ⟨rfl, HX3.out⟩
  have nk6 : (kd == 6) = false := by simpa using kd6
  have HN6 := Lib.hid kd6
  clear kd6
  by_cases kd7 : kd = 7
  · subst kd7
    as_aux_lemma =>
      by_cases k1 : P = 0
      · skip
        have e1 : (P == 0) = true := by simpa using k1
        have f1 : (P != 0) = false := by simp [k1]
        have K1 := Lib.hid k1
        clear k1
        have HF : Hid (r = false) := Lib.hid (by rw [← HRB.out]; unfold Md.askB; simp [K1.out])
        obtain rfl := HF.out
        go_wp2
        go_ret
        exact ⟨rfl, HX3.out⟩
      · skip
        have e1 : (P == 0) = false := by simpa using k1
        have f1 : (P != 0) = true := by simpa using k1
        have K1 := Lib.hid k1
        clear k1
        by_cases k2 : s1 = 3
        · skip
          have e2 : (s1 == 3) = true := by simpa using k2
          have f2 : (s1 != 3) = false := by simp [k2]
          have K2 := Lib.hid k2
          clear k2
          by_cases k3 : s2 = ls
          · skip
            have e3 : (s2 == ls) = true := by simpa using k3
            have f3 : (s2 != ls) = false := by simp [k3]
            have K3 := Lib.hid k3
            clear k3
            have HF : Hid (r = true) := Lib.hid (by rw [← HRB.out]; unfold Md.askB; simp [K1.out, K2.out, K3.out])
            obtain rfl := HF.out
            go_wp2
            go_ret
            exact ⟨rfl, HX3.out⟩
          · skip
            have e3 : (s2 == ls) = false := by simpa using k3
            have f3 : (s2 != ls) = true := by simpa using k3
            have K3 := Lib.hid k3
            clear k3
            have HF : Hid (r = false) := Lib.hid (by rw [← HRB.out]; unfold Md.askB; simp [K1.out, K2.out, K3.out])
            obtain rfl := HF.out
            go_wp2
            go_ret
            exact ⟨rfl, HX3.out⟩
        · skip
          have e2 : (s1 == 3) = false := by simpa using k2
          have f2 : (s1 != 3) = true := by simpa using k2
          have K2 := Lib.hid k2
          clear k2
          have HF : Hid (r = false) := Lib.hid (by rw [← HRB.out]; unfold Md.askB; simp [K1.out, K2.out])
          obtain rfl := HF.out
          go_wp2
          go_ret
          exact ⟨rfl, HX3.out⟩
  have nk7 : (kd == 7) = false := by simpa using kd7
  have HN7 := Lib.hid kd7
  clear kd7
  by_cases kd8 : kd = 8
  · subst kd8
    as_aux_lemma =>
      by_cases k1 : P = 0
      · skip
        have e1 : (P == 0) = true := by simpa using k1
        have f1 : (P != 0) = false := by simp [k1]
        have K1 := Lib.hid k1
        clear k1
        have HF : Hid (r = false) := Lib.hid (by rw [← HRB.out]; unfold Md.askB; simp [K1.out])
        obtain rfl := HF.out
        go_wp2
        go_ret
        exact ⟨rfl, HX3.out⟩
      · skip
        have e1 : (P == 0) = false := by simpa using k1
        have f1 : (P != 0) = true := by simpa using k1
        have K1 := Lib.hid k1
        clear k1
        by_cases k2 : G = 0
        · skip
          have e2 : (G == 0) = true := by simpa using k2
          have f2 : (G != 0) = false := by simp [k2]
          have K2 := Lib.hid k2
          clear k2
          have HF : Hid (r = false) := Lib.hid (by rw [← HRB.out]; unfold Md.askB; simp [K1.out, K2.out])
          obtain rfl := HF.out
          go_wp2
          go_ret
          exact ⟨rfl, HX3.out⟩
        · skip
          have e2 : (G == 0) = false := by simpa using k2
          have f2 : (G != 0) = true := by simpa using k2
          have K2 := Lib.hid k2
          clear k2
          by_cases k3 : lg = G
          · skip
            have e3 : (lg == G) = true := by simpa using k3
            have f3 : (lg != G) = false := by simp [k3]
            have K3 := Lib.hid k3
            clear k3
            have HF : Hid (r = true) := Lib.hid (by rw [← HRB.out]; unfold Md.askB; simp [K1.out, K2.out, K3.out])
            obtain rfl := HF.out
            go_wp2
            go_ret
            exact ⟨rfl, HX3.out⟩
          · skip
            have e3 : (lg == G) = false := by simpa using k3
            have f3 : (lg != G) = true := by simpa using k3
            have K3 := Lib.hid k3
            clear k3
            have HF : Hid (r = false) := Lib.hid (by rw [← HRB.out]; unfold Md.askB; simp [K1.out, K2.out, K3.out])
            obtain rfl := HF.out
            go_wp2
            go_ret
            exact ⟨rfl, HX3.out⟩
  have nk8 : (kd == 8) = false := by simpa using kd8
  have HN8 := Lib.hid kd8
  clear kd8
  by_cases kd9 : kd = 9
  · subst kd9
    as_aux_lemma =>
      by_cases k1 : P = 0
      · skip
        have e1 : (P == 0) = true := by simpa using k1
        have f1 : (P != 0) = false := by simp [k1]
        have K1 := Lib.hid k1
        clear k1
        have HF : Hid (r = false) := Lib.hid (by rw [← HRB.out]; unfold Md.askB; simp [K1.out])
        obtain rfl := HF.out
        go_wp2
        go_ret
        exact ⟨rfl, HX3.out⟩
      · skip
        have e1 : (P == 0) = false := by simpa using k1
        have f1 : (P != 0) = true := by simpa using k1
        have K1 := Lib.hid k1
        clear k1
        by_cases k2 : G = 0
        · skip
          have e2 : (G == 0) = true := by simpa using k2
          have f2 : (G != 0) = false := by simp [k2]
          have K2 := Lib.hid k2
          clear k2
          have HF : Hid (r = false) := Lib.hid (by rw [← HRB.out]; unfold Md.askB; simp [K1.out, K2.out])
          obtain rfl := HF.out
          go_wp2
          go_ret
          exact ⟨rfl, HX3.out⟩
        · skip
          have e2 : (G == 0) = false := by simpa using k2
          have f2 : (G != 0) = true := by simpa using k2
          have K2 := Lib.hid k2
          clear k2
          by_cases k3 : lg = G
          · skip
            have e3 : (lg == G) = true := by simpa using k3
            have f3 : (lg != G) = false := by simp [k3]
            have K3 := Lib.hid k3
            clear k3
            by_cases k4 : lp = P
            · skip
              have e4 : (lp == P) = true := by simpa using k4
              have f4 : (lp != P) = false := by simp [k4]
              have K4 := Lib.hid k4
              clear k4
              have HF : Hid (r = true) := Lib.hid (by rw [← HRB.out]; unfold Md.askB; simp [K1.out, K2.out, K3.out, K4.out])
              obtain rfl := HF.out
              go_wp2
              go_ret
              exact ⟨rfl, HX3.out⟩
            · skip
              have e4 : (lp == P) = false := by simpa using k4
              have f4 : (lp != P) = true := by simpa using k4
              have K4 := Lib.hid k4
              clear k4
              have HF : Hid (r = false) := Lib.hid (by rw [← HRB.out]; unfold Md.askB; simp [K1.out, K2.out, K3.out, K4.out])
              obtain rfl := HF.out
              go_wp2
              go_ret
              exact ⟨rfl, HX3.out⟩
          · skip
            have e3 : (lg == G) = false := by simpa using k3
            have f3 : (lg != G) = true := by simpa using k3
            have K3 := Lib.hid k3
            clear k3
            have HF : Hid (r = false) := Lib.hid (by rw [← HRB.out]; unfold Md.askB; simp [K1.out, K2.out, K3.out])
            obtain rfl := HF.out
            go_wp2
            go_ret
            exact ⟨rfl, HX3.out⟩
  have nk9 : (kd == 9) = false := by simpa using kd9
  have HN9 := Lib.hid kd9
  clear kd9
  by_cases kd10 : kd = 10
  · subst kd10
    as_aux_lemma =>
      by_cases k1 : P = 0
      · skip
        have e1 : (P == 0) = true := by simpa using k1
        have f1 : (P != 0) = false := by simp [k1]
        have K1 := Lib.hid k1
        clear k1
        by_cases k2 : G = 0
        · skip
          have e2 : (G == 0) = true := by simpa using k2
          have f2 : (G != 0) = false := by simp [k2]
          have K2 := Lib.hid k2
          clear k2
          have HF : Hid (r = false) := Lib.hid (by rw [← HRB.out]; unfold Md.askB; simp [K1.out, K2.out])
          obtain rfl := HF.out
          go_wp2
          go_ret
          exact ⟨rfl, HX3.out⟩
        · skip
          have e2 : (G == 0) = false := by simpa using k2
          have f2 : (G != 0) = true := by simpa using k2
          have K2 := Lib.hid k2
          clear k2
          by_cases k3 : lg = G
          · skip
            have e3 : (lg == G) = true := by simpa using k3
            have f3 : (lg != G) = false := by simp [k3]
            have K3 := Lib.hid k3
            clear k3
            by_cases k4 : lp = 0
            · skip
              have e4 : (lp == 0) = true := by simpa using k4
              have f4 : (lp != 0) = false := by simp [k4]
              have K4 := Lib.hid k4
              clear k4
              by_cases k5 : ls = 0
              · skip
                have e5 : (ls == 0) = true := by simpa using k5
                have f5 : (ls != 0) = false := by simp [k5]
                have K5 := Lib.hid k5
                clear k5
                have HF : Hid (r = true) := Lib.hid (by rw [← HRB.out]; unfold Md.askB; simp [K1.out, K2.out, K3.out, K4.out, K5.out])
                obtain rfl := HF.out
                go_wp2
                go_ret
                exact ⟨rfl, HX3.out⟩
              · skip
                have e5 : (ls == 0) = false := by simpa using k5
                have f5 : (ls != 0) = true := by simpa using k5
                have K5 := Lib.hid k5
                clear k5
                go_wp2_with fail
                refine (rfree_any _ ⟨time, ps, gs⟩ lp ls w3 ⟨A, c, B, d, rfl, H2.out.ext X3.out, H3.out.ext X3.out⟩ HP.out HG.out fr HFR.out).mono ?_
                rintro e w4 ⟨rfl, hx4⟩
                have XF := Lib.hid (HX1.out.trans (X3.out.trans hx4))
                have XG := Lib.hid (X3.out.trans hx4)
                clear hx4
                clear c0 c1 c2 m1 m2 m3 m4 m5
                have c0 := blk_cell (XG.out.blk HB1.out) 0 _ rfl
                have c1 := blk_cell (XG.out.blk HB1.out) 1 _ rfl
                have c2 := blk_cell (XG.out.blk HB1.out) 2 _ rfl
                have m1 := blk_cell (XG.out.blk HL1.out) 1 _ rfl
                have m2 := blk_cell (XG.out.blk HL1.out) 2 _ rfl
                have m3 := blk_cell (XG.out.blk HL1.out) 3 _ rfl
                have m4 := blk_cell (XG.out.blk HL1.out) 4 _ rfl
                have m5 := blk_cell (XG.out.blk HL1.out) 5 _ rfl
                cases fr with
                | false =>
                  have HF : Hid (r = false) := Lib.hid (by rw [← HRB.out]; unfold Md.askB; simp [K1.out, K2.out, K3.out, K4.out, K5.out])
                  obtain rfl := HF.out
                  go_wp2
                  go_ret
                  exact ⟨rfl, XF.out⟩
                | true =>
                  have HF : Hid (r = true) := Lib.hid (by rw [← HRB.out]; unfold Md.askB; simp [K1.out, K2.out, K3.out, K4.out, K5.out])
                  obtain rfl := HF.out
                  go_wp2
                  go_ret
                  exact ⟨rfl, XF.out⟩
            · skip
              have e4 : (lp == 0) = false := by simpa using k4
              have f4 : (lp != 0) = true := by simpa using k4
              have K4 := Lib.hid k4
              clear k4
              go_wp2_with fail
              refine (rfree_any _ ⟨time, ps, gs⟩ lp ls w3 ⟨A, c, B, d, rfl, H2.out.ext X3.out, H3.out.ext X3.out⟩ HP.out HG.out fr HFR.out).mono ?_
              rintro e w4 ⟨rfl, hx4⟩
              have XF := Lib.hid (HX1.out.trans (X3.out.trans hx4))
              have XG := Lib.hid (X3.out.trans hx4)
              clear hx4
              clear c0 c1 c2 m1 m2 m3 m4 m5
              have c0 := blk_cell (XG.out.blk HB1.out) 0 _ rfl
              have c1 := blk_cell (XG.out.blk HB1.out) 1 _ rfl
              have c2 := blk_cell (XG.out.blk HB1.out) 2 _ rfl
              have m1 := blk_cell (XG.out.blk HL1.out) 1 _ rfl
              have m2 := blk_cell (XG.out.blk HL1.out) 2 _ rfl
              have m3 := blk_cell (XG.out.blk HL1.out) 3 _ rfl
              have m4 := blk_cell (XG.out.blk HL1.out) 4 _ rfl
              have m5 := blk_cell (XG.out.blk HL1.out) 5 _ rfl
              cases fr with
              | false =>
                have HF : Hid (r = false) := Lib.hid (by rw [← HRB.out]; unfold Md.askB; simp [K1.out, K2.out, K3.out, K4.out])
                obtain rfl := HF.out
                go_wp2
                go_ret
                exact ⟨rfl, XF.out⟩
              | true =>
                have HF : Hid (r = true) := Lib.hid (by rw [← HRB.out]; unfold Md.askB; simp [K1.out, K2.out, K3.out, K4.out])
                obtain rfl := HF.out
                go_wp2
                go_ret
                exact ⟨rfl, XF.out⟩
          · skip
            have e3 : (lg == G) = false := by simpa using k3
            have f3 : (lg != G) = true := by simpa using k3
            have K3 := Lib.hid k3
            clear k3
            have HF : Hid (r = false) := Lib.hid (by rw [← HRB.out]; unfold Md.askB; simp [K1.out, K2.out, K3.out])
            obtain rfl := HF.out
            go_wp2
            go_ret
            exact ⟨rfl, HX3.out⟩
      · skip
        have e1 : (P == 0) = false := by simpa using k1
        have f1 : (P != 0) = true := by simpa using k1
        have K1 := Lib.hid k1
        clear k1
        have HF : Hid (r = false) := Lib.hid (by rw [← HRB.out]; unfold Md.askB; simp [K1.out])
        obtain rfl := HF.out
        go_wp2
        go_ret
        exact ⟨rfl, HX3.out⟩
  have nk10 : (kd == 10) = false := by simpa using kd10
  have HN10 := Lib.hid kd10
  clear kd10
  have HF : Hid (r = false) := Lib.hid (by rw [← HRB.out]; unfold Md.askB; simp [HN1.out, HN2.out, HN3.out, HN4.out, HN5.out, HN6.out, HN7.out, HN8.out, HN9.out, HN10.out])
  obtain rfl := HF.out
  go_wp2
  go_ret
  exact ⟨rfl, HX3.out⟩
section
variable {P : Program} {ops : Array Oper} {Q : Exit → Act → World → Prop} {md : Region.Mode} {z : Nat} {C : World → Prop}
def EntersM' (P : Program) (R : Ending → World → Prop) : Result Next → Prop
  | .ok (.enter f args) w' => Calls P f args w' R
  | _ => False
structure EntersM (P : Program) (R : Ending → World → Prop) (r : Result Next) : Prop where
  out : EntersM' P R r
theorem entersM_call {R : Ending → World → Prop} {fid : FuncId} {args : Array Value} {w : World} (h : Calls P fid args w R) : EntersM P R (.ok (.enter fid args) w) := ⟨h⟩
theorem region_gq (z : Nat) (C S : World → Prop) {id : Nat} {a : Act} {w : World} (hm : P.follows .mixedOrders = true) (hS : S w.drew) (hQ : ∀ c a d v w, Q (.panic c) (a.put d v) w → Q (.panic c) a w)
    (h : ∀ Q', Hid (Q' = Q) → (∀ c a d v w, Q' (.panic c) (a.put d v) w → Q' (.panic c) a w) → wpG P .any ops Q' z C ops.size S (Array.replicate ops.size false) a) : (Code.region id ops true).wp P Q a w :=
  region_g z C S hm hS (h Q (Lib.hid rfl) hQ)
theorem g_last {S : World → Prop} {k f : Nat} {o : Oper} {listed : Array Bool} {a : Act} (hr : Region.ready md ops listed = [k]) (hr2 : Region.ready md ops (listed.setIfInBounds k true) = []) (hz : (listed.setIfInBounds k true).getD z false = true)
    (hk : ops[k]? = some o) (hw : Region.wanted o (yielded ops a.tmps) = true)
    (hc : ∀ w, S w → ∀ R : Ending → World → Prop, (∀ v w', Q .normal (a.put o.dst v) w' → R (.returned v) w') → (∀ c w', Q (.panic c) a w' → R (.panicked c) w') → EntersM P R ((execOp a.eval o).run P w)) : wpG P md ops Q z C (f + 1) S listed a :=
  g_turn (fun v w' => Q .normal (a.put o.dst v) w') hr (fun v w _ h0 => by rw [hz] at h0; cases h0) fun w hS => by
    unfold wpOp
    simp only [hk, hw, if_true]
    left
    have h := (hc w hS (fun e w' => match e with | .returned v => Q .normal (a.put o.dst v) w' | .panicked c => Q (.panic c) a w' | .outgrown => False) (fun v w' h => h) (fun c w' h => h)).out
    unfold Oper.wp
    generalize (execOp a.eval o).run P w = r at *
    cases r with
    | halt x w' => exact h.elim
    | ok n w' =>
      cases n with
      | enter f args =>
        refine Calls.mono h fun e w'' he => ?_
        cases e with
        | returned v => exact ⟨v, he, g_done hr2 (fun _ h => h) _⟩
        | panicked c => exact he
        | outgrown => exact he.elim
      | _ => exact h.elim
end
section
variable {P : Program} {ops : Array Oper} {Q : Exit → Act → World → Prop} {md : Region.Mode} {z : Nat} {C : World → Prop}
theorem g_mid (T : Value → World → Prop) {S : World → Prop} {k f : Nat} {o : Oper} {listed : Array Bool} {a : Act} (hr : Region.ready md ops listed = [k]) (hT : ∀ v w, T v w → (listed.setIfInBounds k true).getD z false = false → C w)
    (hk : ops[k]? = some o) (hw : Region.wanted o (yielded ops a.tmps) = true) (hc : ∀ w, S w → ∀ R : Value → World → Prop, (∀ v w', T v w' → R v w') → GivesM P R ((execOp a.eval o).run P w))
    (h : ∀ v, (∃ w, T v w) → wpG P md ops Q z C f (T v) (listed.setIfInBounds k true) (a.put o.dst v)) : wpG P md ops Q z C (f + 1) S listed a :=
  g_turn T hr hT fun w hS => by
    unfold wpOp
    simp only [hk, hw, if_true]
    left
    have h2 := (hc w hS T fun _ _ h => h).out
    unfold Oper.wp
    generalize (execOp a.eval o).run P w = r at *
    cases r with
    | halt x w' => exact h2.elim
    | ok n w' =>
      cases n with
      | value u => exact ⟨u, h2, h u ⟨_, h2⟩⟩
      | skip => exact ⟨undef, h2, h undef ⟨_, h2⟩⟩
      | enter f args =>
        refine Calls.mono h2 fun e w'' he => ?_
        obtain ⟨v, rfl, h3⟩ := he
        exact ⟨v, h3, h v ⟨_, h3⟩⟩
      | _ => exact h2.elim
theorem g_end {S : World → Prop} {k f : Nat} {o : Oper} {listed : Array Bool} {a : Act} (hr : Region.ready md ops listed = [k]) (hr2 : Region.ready md ops (listed.setIfInBounds k true) = []) (hz : (listed.setIfInBounds k true).getD z false = true)
    (hk : ops[k]? = some o) (hw : Region.wanted o (yielded ops a.tmps) = true) (hc : ∀ w, S w → ∀ R : Value → World → Prop, (∀ v w', Q .normal (a.put o.dst v) w' → R v w') → GivesM P R ((execOp a.eval o).run P w)) : wpG P md ops Q z C (f + 1) S listed a :=
  g_mid (fun v w' => Q .normal (a.put o.dst v) w') hr (fun v w _ h0 => by rw [hz] at h0; cases h0) hk hw hc fun v _ => g_done hr2 (fun _ h => h) _
end
theorem rows_off {α : Type} {m : Nat} {f : α → List Value} {w w' : World} {v : Value} {xs : List α} {R : Nat} {t : Int} {s1 s2 : Value} {T : TypeId} {fr : Nat × Nat} (h : RowsAt m f w v xs) (hf : ∀ x, ∃ (a b : Int) (r : List Value), f x = .int .i64 a :: .int .i64 b :: r)
    (hb : w.heap[R]? = some (.cells #[.int .i64 t, s1, s2] T fr)) (h1 : ∀ a, s1 ≠ .int .i64 a) (h2 : ∀ a, s2 ≠ .int .i64 a) (hu : Upd R w w') : RowsAt m f w' v xs := by
  obtain ⟨A, c, hv, hc, hA⟩ := h
  refine ⟨A, c, hv, hc, fun h0 => ?_⟩
  obtain ⟨b, o, hAe, hlt, hcell⟩ := hA h0
  have hne : b ≠ R := fun e => by
    subst e
    obtain ⟨x, hx⟩ : ∃ x, xs[0]? = some x := ⟨_, List.getElem?_eq_getElem h0⟩
    obtain ⟨p, q, r, hfx⟩ := hf x
    have k0 := hcell 0 x hx 0 (.int .i64 p) (by rw [hfx]; rfl)
    have k1 := hcell 0 x hx 1 (.int .i64 q) (by rw [hfx]; rfl)
    rw [show o + 0 * m + 0 = o by omega] at k0
    rw [show o + 0 * m + 1 = o + 1 by omega] at k1
    have c1 := blk_cell hb 1 s1 rfl
    have c2 := blk_cell hb 2 s2 rfl
    rcases Nat.lt_or_ge o 3 with ho | ho
    · have : o = 0 ∨ o = 1 ∨ o = 2 := by omega
      rcases this with rfl | rfl | rfl
      · rw [c1] at k1; exact h1 q (Option.some.inj k1)
      · rw [c1] at k0; exact h1 p (Option.some.inj k0)
      · rw [c2] at k0; exact h2 p (Option.some.inj k0)
    · rw [cell_of_row w b o _ _ _ hb, Array.getElem?_eq_none (by simpa using ho)] at k0
      cases k0
  refine ⟨b, o, hAe, Nat.lt_of_lt_of_le hlt hu.size, fun j x hx i u hui => ?_⟩
  rw [World.cell?_of_block (hu.block b hlt (fun e => by injection e with e; exact hne e))]
  exact hcell j x hx i u hui
theorem snP_two (x : Int × Int) : ∃ (a b : Int) (r : List Value), snPCells x = .int .i64 a :: .int .i64 b :: r := ⟨_, _, _, rfl⟩
theorem snG_two (x : Gs4) : ∃ (a b : Int) (r : List Value), snGCells x = .int .i64 a :: .int .i64 b :: r := ⟨_, _, _, rfl⟩
theorem sn_lay {w w2 : World} {R : Nat} {t0 time : Int} {A B A0 B0 : Option Addr} {c d n0 c0 n1 c1 : Nat} {y : Sn} (hx : Ext w w2) (hR : w.heap.size ≤ R) (hb : w2.heap[R]? = some (.cells #[.int .i64 t0, .slice A0 n0 c0, .slice B0 n1 c1] 25 (0, 0))) (hs : SnAt w2 (.agg #[.int .i64 time, .slice A y.ps.length c, .slice B y.gs.length d]) y) :
    w2.there R 0 [Value.int .i64 time, .slice A y.ps.length c, .slice B y.gs.length d].length ∧ ∃ w6, w2.setCells R 0 [.int .i64 time, .slice A y.ps.length c, .slice B y.gs.length d] = w6 ∧ w6.heap[R]? = some (.cells #[.int .i64 time, .slice A y.ps.length c, .slice B y.gs.length d] 25 (0, 0)) ∧ SnRet w y (.returned (.agg #[.int .i64 time, .slice A y.ps.length c, .slice B y.gs.length d])) w6 := by
  have hu := setCells_upd R [Value.int .i64 time, .slice A y.ps.length c, .slice B y.gs.length d] w2 0
  refine ⟨there_row hb (by simp), _, rfl, setCells_at [.int .i64 t0, .slice A0 n0 c0, .slice B0 n1 c1] _ rfl hb, _, rfl, ?_, Ext.upd hx hu hR⟩
  obtain ⟨A', c', B', d', hv, h2, h3⟩ := hs
  simp only [Value.agg.injEq] at hv
  have e2 : Value.slice A y.ps.length c = .slice A' y.ps.length c' := by have := congrArg (fun a : Array Value => a[1]?) hv; simpa using this
  have e3 : Value.slice B y.gs.length d = .slice B' y.gs.length d' := by have := congrArg (fun a : Array Value => a[2]?) hv; simpa using this
  have e1 : Value.int .i64 time = .int .i64 y.time := by have := congrArg (fun a : Array Value => a[0]?) hv; simpa using this
  rw [e1, e2, e3] at hu ⊢
  exact ⟨A', c', B', d', rfl, rows_off h2 snP_two hb (by simp) (by simp) hu, rows_off h3 snG_two hb (by simp) (by simp) hu⟩
namespace Md
theorem hasP_range {m : Int} : ∀ {l : List (Int × Int)} {i : Int}, 0 < i → hasP l m i ≠ 0 → ∃ k : Nat, k < l.length ∧ hasP l m i = i + (k : Int)
  | [], _, _, h => absurd rfl h
  | p :: l, i, hi, h => by
    unfold hasP at h ⊢
    by_cases hp : p.1 = m
    · rw [if_pos hp]; exact ⟨0, by simp, by simp⟩
    · rw [if_neg hp] at h ⊢
      obtain ⟨k, hk, e⟩ := hasP_range (by omega) h
      exact ⟨k + 1, by simpa using hk, by rw [e]; omega⟩
theorem hasG_mem {m : Int} : ∀ {l : List Gs4}, hasG l m ≠ 0 → ∃ y ∈ l, y.1 = hasG l m ∧ y.2.2.1 = m
  | [], h => absurd rfl h
  | y :: l, h => by
    unfold hasG at h ⊢
    by_cases hy : y.2.2.1 = m
    · rw [if_pos hy]; exact ⟨y, by simp, rfl, hy⟩
    · rw [if_neg hy] at h ⊢
      obtain ⟨z, hz, e⟩ := hasG_mem h
      exact ⟨z, List.mem_cons_of_mem _ hz, e⟩
theorem fnd_mem {l : List Gs4} {y : Gs4} {g : Int} (h : y ∈ l) (hy : y.1 = g) : ∃ k, fnd l g = some k := by
  cases hf : fnd l g with
  | some k => exact ⟨k, rfl⟩
  | none => exact absurd hy (fnd_none.1 hf y h)
theorem stat_some {l : List Gs4} {g : Int} (h : (stat l g).1 ≠ 0) : ∃ k, fnd l g = some k := by
  cases hf : fnd l g with
  | some k => exact ⟨k, rfl⟩
  | none => unfold stat at h; rw [hf] at h; exact absurd rfl h
theorem free_range {l : List (Int × Int)} {p s : Int} (h : free l p s = true) : ∃ k : Nat, p = (k : Int) + 1 ∧ k < l.length := by
  unfold free at h
  simp only [Bool.and_eq_true, decide_eq_true_eq] at h
  exact ⟨(p - 1).toNat, by omega, by omega⟩
theorem setP_at {l : List (Int × Int)} {k : Nat} {m a b : Int} (h : l[k]? = some (a, b)) : setP l ((k : Int) + 1) m = l.set k (m, b + 1) := by
  unfold setP
  rw [show ((k : Int) + 1 - 1).toNat = k by omega, List.getD, h]
  rfl
theorem setG_at {l : List Gs4} {g st m : Int} {k : Nat} {y : Gs4} (hf : fnd l g = some k) (hy : l[k]? = some y) : setG l g st m = l.set k (g, st, m, y.2.2.2 + 1) := by
  unfold setG
  rw [hf]
  simp only [List.getD, hy, Option.getD_some]
structure Finds (x : Sn) (l : Lg) : Prop where
  p1 : l.kind = 1 ∨ l.kind = 2 ∨ l.kind = 9 ∨ (l.kind = 10 ∧ l.p ≠ 0) → ∃ k : Nat, l.p = (k : Int) + 1 ∧ k < x.ps.length
  g1 : l.kind = 4 ∨ l.kind = 5 ∨ l.kind = 6 ∨ l.kind = 7 ∨ l.kind = 8 ∨ l.kind = 9 ∨ l.kind = 10 → ∃ k, fnd x.gs l.g = some k
  n3 : l.kind = 3 → fnd x.gs l.g = none
  kinds : 1 ≤ l.kind ∧ l.kind ≤ 10
theorem finds {x : Sn} (h : x.may = true) {l : Lg} (ha : ask x l = true) : Finds x l := by
  have ha2 := ha
  unfold ask at ha
  have hP : ∀ p : Int, p = hasP x.ps l.m 1 → hasP x.ps l.m 1 ≠ 0 → ∃ k : Nat, p = (k : Int) + 1 ∧ k < x.ps.length := fun p hp h0 => by
    obtain ⟨k, h1, h2⟩ := hasP_range (by omega) h0
    exact ⟨k, by rw [hp, h2]; omega, h1⟩
  have hG : ∀ g : Int, g = hasG x.gs l.m → hasG x.gs l.m ≠ 0 → ∃ k, fnd x.gs g = some k := fun g hg h0 => by
    obtain ⟨y, h1, h2, _⟩ := hasG_mem h0
    exact fnd_mem h1 (by rw [h2, hg])
  by_cases k1 : l.kind = 1
  · simp only [k1, if_true, Bool.and_eq_true, decide_eq_true_eq] at ha
    exact ⟨fun _ => free_range ha.1.1, fun h => by omega, fun h => by omega, by omega⟩
  by_cases k2 : l.kind = 2
  · simp only [k2, Int.reduceEq, if_false, if_true, Bool.and_eq_true, decide_eq_true_eq] at ha
    exact ⟨fun _ => hP _ ha.1.2 ha.1.1, fun h => by omega, fun h => by omega, by omega⟩
  by_cases k3 : l.kind = 3
  · simp only [k3, Int.reduceEq, if_false, if_true, Bool.and_eq_true, decide_eq_true_eq] at ha
    exact ⟨fun h => by omega, fun h => by omega, fun _ => ha.2, by omega⟩
  by_cases k4 : l.kind = 4
  · simp only [k4, Int.reduceEq, if_false, if_true, Bool.and_eq_true, decide_eq_true_eq] at ha
    exact ⟨fun h => by omega, fun _ => stat_some (by rw [ha.2]; simp), fun h => by omega, by omega⟩
  by_cases k5 : l.kind = 5 ∨ l.kind = 6 ∨ l.kind = 8
  · rw [if_neg k1, if_neg k2, if_neg k3, if_neg k4, if_pos k5] at ha
    simp only [Bool.and_eq_true, decide_eq_true_eq] at ha
    exact ⟨fun h => by omega, fun _ => hG _ ha.2 ha.1.2, fun h => by omega, by omega⟩
  by_cases k7 : l.kind = 7
  · simp only [k7, Int.reduceEq, if_false, if_true, or_self, Bool.and_eq_true, decide_eq_true_eq] at ha
    exact ⟨fun h => by omega, fun _ => stat_some (by rw [ha.2]; simp), fun h => by omega, by omega⟩
  by_cases k9 : l.kind = 9
  · simp only [k9, Int.reduceEq, if_false, if_true, or_self, Bool.and_eq_true, decide_eq_true_eq] at ha
    exact ⟨fun _ => hP _ ha.2 ha.1.1.1, fun _ => hG _ ha.1.2 ha.1.1.2, fun h => by omega, by omega⟩
  by_cases k10 : l.kind = 10
  · simp only [k10, Int.reduceEq, if_false, if_true, or_self, Bool.and_eq_true, Bool.or_eq_true, decide_eq_true_eq] at ha
    refine ⟨fun h => ?_, fun _ => hG _ ha.1.2 ha.1.1.2, fun h => by omega, by omega⟩
    rcases ha.2 with h2 | h2
    · rcases h with h | h | h | h
      · omega
      · omega
      · omega
      · exact absurd h2.1 h.2
    · exact free_range h2
  · rw [if_neg k1, if_neg k2, if_neg k3, if_neg k4, if_neg k5, if_neg k7, if_neg k9, if_neg k10] at ha
    cases ha
end Md
namespace Md
def cmpI (a b : Int) : Int := if a < b then -1 else if b < a then 1 else 0
theorem gpos_some {l : List Gs4} (hr : rises l) {g : Int} {k : Nat} (h1 : ∀ (j : Nat) z, l[j]? = some z → j < k → z.1 < g) (h2 : ∀ (j : Nat) z, l[j]? = some z → k ≤ j → g ≤ z.1) (hk : k ≤ l.length) :
    gpos l g = k ∧ ((fnd l g).isSome = true ↔ ∃ y, l[k]? = some y ∧ y.1 = g) := by
  have e := gpos_of (g := g) hk (fun j hj z hz => h1 j z hz hj) (fun z hz => h2 k z hz (Nat.le_refl _))
  refine ⟨e, ?_⟩
  constructor
  · intro h
    obtain ⟨j, hj⟩ := Option.isSome_iff_exists.1 h
    have := gpos_fnd hr hj
    obtain ⟨y, hy, hyg, _⟩ := fnd_some hj
    exact ⟨y, by rw [← e, this]; exact hy, hyg⟩
  · rintro ⟨y, hy, hyg⟩
    rw [fnd_of hr hy hyg]; rfl
end Md
theorem misnan_any (a : Int) (w : World) : Calls Try.prog 99 #[.int .i64 a] w fun e w' => e = .returned (.bool false) ∧ w' = w := by
  have h : (a != a) = false := by simp
  go_enter Try.func99, Try.ntmps99
  go_wp2
  go_ret
  exact ⟨rfl, rfl⟩
theorem mcmp_any (a b : Int) (w : World) : Calls Try.prog 84 #[.int .i64 a, .int .i64 b] w fun e w' => e = .returned (.int .i64 (Md.cmpI a b)) ∧ w' = w := by
  go_enter Try.func84, Try.ntmps84
  go_wp2_with fail
  refine (misnan_any a w).mono ?_
  rintro e w1 ⟨rfl, rfl⟩
  go_wp2_with fail
  refine (misnan_any b _).mono ?_
  rintro e w2 ⟨rfl, rfl⟩
  by_cases h : a < b
  · have HE : Hid (Md.cmpI a b = -1) := Lib.hid (by unfold Md.cmpI; rw [if_pos h])
    go_wp2
    go_ret
    exact ⟨by rw [HE.out] <;> rfl, rfl⟩
  · by_cases h2 : b < a
    · have HE : Hid (Md.cmpI a b = 1) := Lib.hid (by unfold Md.cmpI; rw [if_neg h, if_pos h2])
      go_wp2
      go_ret
      exact ⟨by rw [HE.out] <;> rfl, rfl⟩
    · have HE : Hid (Md.cmpI a b = 0) := Lib.hid (by unfold Md.cmpI; rw [if_neg h, if_neg h2])
      go_wp2
      go_ret
      exact ⟨by rw [HE.out] <;> rfl, rfl⟩
theorem mclo_any (x : Gs4) (g : Int) (w : World) : Calls Try.prog 83 #[.agg #[.int .i64 x.1, .int .i64 x.2.1, .int .i64 x.2.2.1, .int .i64 x.2.2.2], .int .i64 g] w fun e w' => e = .returned (.int .i64 (Md.cmpI x.1 g)) ∧ Ext w w' := by
  obtain ⟨w1, hw1⟩ : ∃ w1, w.alloc (.cells #[.int .i64 x.1, .int .i64 x.2.1, .int .i64 x.2.2.1, .int .i64 x.2.2.2] 51) = w1 := ⟨_, rfl⟩
  have hx : Ext w w1 := by rw [← hw1]; exact (Ext.refl w).alloc _
  have hb : w1.heap[w.heap.size]? = some (.cells #[.int .i64 x.1, .int .i64 x.2.1, .int .i64 x.2.2.1, .int .i64 x.2.2.2] 51 (0, 0)) := by rw [← hw1]; exact blk_new w _
  have h1 := blk_cell hb 0 _ rfl
  have HX := Lib.hid hx
  have HW := Lib.hid hw1
  clear hx hb hw1
  go_enter Try.func83, Try.ntmps83
  go_upto_region 1 with fail
  rw [HW.out]
  go_wp2_with fail
  refine (mcmp_any x.1 g w1).mono ?_
  rintro e w2 ⟨rfl, rfl⟩
  go_wp2
  go_ret
  exact ⟨rfl, HX.out⟩
set_option maxRecDepth 100000 in
set_option maxHeartbeats 4000000 in
theorem mbs_any (A : Option Addr) (c : Nat) (gs : List Gs4) (g : Int) (w : World) (h : RowsAt 4 snGCells w (.slice A gs.length c) gs) (hr : Md.rises gs) (hl : gs.length ≤ 10000) (r : Bool) (hrr : (Md.fnd gs g).isSome = r) (q : Nat) (hq : Md.gpos gs g = q) :
    Calls Try.prog 82 #[.slice A gs.length c, .int .i64 g, .func (.func 83) #[] #[]] w fun e w' => e = .returned (.tuple #[.int .i64 q, .bool r]) ∧ Ext w w' := by
  have H := Lib.hid h
  have HRI := Lib.hid hr
  have HRR := Lib.hid hrr
  have HQ := Lib.hid hq
  have hl' : (gs.length : Int) ≤ 10000 := by omega
  clear h hr hrr hq
  go_enter Try.func82, Try.ntmps82
  go_wp2_with fail
  go_loopw [9, 10] (fun iv jv wr => ∃ i j : Nat, i ≤ j ∧ j ≤ gs.length ∧ iv = .int .i64 i ∧ jv = .int .i64 j ∧ (∀ (a : Nat) z, gs[a]? = some z → a < i → z.1 < g) ∧ (∀ (a : Nat) z, gs[a]? = some z → j ≤ a → g ≤ z.1) ∧ Ext w wr) (fun iv jv _ => (intOf jv).toNat - (intOf iv).toNat)
  case atStart => exact ⟨0, gs.length, by omega, by omega, rfl, rfl, fun a z _ h => by omega, fun a z hz h => by have := (List.getElem?_eq_some_iff.1 hz).1; omega, Ext.refl _⟩
  case round =>
    obtain ⟨i, j, hij, hjl, rfl, rfl, h1, h2, hx⟩ := hrel
    have H1 := Lib.hid h1
    have H2 := Lib.hid h2
    have HX := Lib.hid hx
    clear h1 h2 hx
    by_cases hlt : i < j
    · obtain ⟨m, hm⟩ : ∃ m : Nat, (i + j) / 2 = m := ⟨_, rfl⟩
      have hmi : i ≤ m ∧ m < j := by omega
      have hmm : ((i : Int) + (j : Int)) / 2 = (m : Int) := by omega
      go_upto_region 5 with fail
      try rw [hmm]
      have HMI := Lib.hid hmi
      clear hm hmm hmi
      obtain ⟨y, hy⟩ : ∃ y, gs[m]? = some y := ⟨_, List.getElem?_eq_getElem (by have := HMI.out; omega)⟩
      obtain ⟨b, o, hA, hb, hc⟩ := (H.out.ext HX.out).get hy
      subst hA
      have k0 := hc 0 _ rfl
      have k1 := hc 1 _ rfl
      have k2 := hc 2 _ rfl
      have k3 := hc 3 _ rfl
      rw [Nat.add_zero] at k0
      have l1 : (m : Int) < (gs.length : Int) := by have := HMI.out; omega
      have l2 : (m : Int) < 100000 := by have := HMI.out; omega
      have HY := Lib.hid hy
      clear hc hb hy
      go_wp2_with fail
      refine (mclo_any y g wr).mono ?_
      rintro e wa ⟨rfl, hxa⟩
      have HXA := Lib.hid (HX.out.trans hxa)
      clear hxa k0 k1 k2 k3 l1 l2
      obtain ⟨ci, hci⟩ : ∃ ci, Md.cmpI y.1 g = ci := ⟨_, rfl⟩
      rw [hci]
      by_cases hyg : y.1 < g
      · have d1 : decide (ci < 0) = true := decide_eq_true (by rw [← hci]; unfold Md.cmpI; rw [if_pos hyg]; decide)
        have HYG := Lib.hid hyg
        clear hyg hci
        go_simp
        have l2 : (m : Int) < 100000 := by have := HMI.out; omega
        go_wp2
        go_roundw
        case rel =>
          have hmi := HMI.out
          refine ⟨m + 1, j, by omega, by omega, by go_num, rfl, fun a z hz ha => ?_, H2.out, HXA.out⟩
          by_cases ham : a < m
          · have := Md.rises_lt HRI.out hz HY.out ham; have := HYG.out; omega
          · obtain rfl : a = m := by omega
            rw [HY.out] at hz
            obtain rfl := Option.some.inj hz
            exact HYG.out
        case measure => have hmi := HMI.out; simp [intOf]; omega
      · have d1 : decide (ci < 0) = false := decide_eq_false (by rw [← hci]; unfold Md.cmpI; rw [if_neg hyg]; split <;> decide)
        have HYG := Lib.hid hyg
        clear hyg hci
        go_wp2
        go_roundw
        case rel =>
          have hmi := HMI.out
          refine ⟨i, m, by omega, by omega, rfl, by go_num, H1.out, fun a z hz ha => ?_, HXA.out⟩
          by_cases ham : m < a
          · have := Md.rises_lt HRI.out HY.out hz ham; have := HYG.out; omega
          · obtain rfl : a = m := by omega
            rw [HY.out] at hz
            obtain rfl := Option.some.inj hz
            have := HYG.out
            omega
        case measure => have hmi := HMI.out; simp [intOf]; omega
    · obtain rfl : i = j := by omega
      have hgp := Md.gpos_some HRI.out H1.out H2.out hjl
      have HQI : Hid (i = q) := Lib.hid (hgp.1.symm.trans HQ.out)
      have HSO := Lib.hid hgp.2
      clear hgp hlt hij
      by_cases hin : i < gs.length
      · obtain ⟨y, hy⟩ : ∃ y, gs[i]? = some y := ⟨_, List.getElem?_eq_getElem hin⟩
        obtain ⟨b, o, hA, hb, hc⟩ := (H.out.ext HX.out).get hy
        subst hA
        have k0 := hc 0 _ rfl
        have k1 := hc 1 _ rfl
        have k2 := hc 2 _ rfl
        have k3 := hc 3 _ rfl
        rw [Nat.add_zero] at k0
        have l1 : (i : Int) < (gs.length : Int) := by omega
        have l2 : (i : Int) < 100000 := by omega
        have HY := Lib.hid hy
        clear hc hb hy
        go_wp2_with fail
        refine (mclo_any y g wr).mono ?_
        rintro e wa ⟨rfl, hxa⟩
        have HXA := Lib.hid (HX.out.trans hxa)
        clear hxa k0 k1 k2 k3 l1 l2
        obtain ⟨ci, hci⟩ : ∃ ci, Md.cmpI y.1 g = ci := ⟨_, rfl⟩
        rw [hci]
        have hge := H2.out i y HY.out (Nat.le_refl _)
        by_cases hyg : y.1 = g
        · have d1 : (ci == 0) = true := by rw [← hci]; unfold Md.cmpI; rw [if_neg (by omega), if_neg (by omega)]; rfl
          have HRT : Hid (r = true) := Lib.hid (by rw [← HRR.out]; exact HSO.out.2 ⟨y, HY.out, hyg⟩)
          clear hyg hci hge
          go_wp2
          go_ret2
          exact ⟨by rw [HRT.out, HQI.out] <;> rfl, HXA.out⟩
        · have d1 : (ci == 0) = false := by rw [← hci]; unfold Md.cmpI; rw [if_neg (by omega), if_pos (by omega)]; rfl
          have HRT : Hid (r = false) := Lib.hid (by
            rw [← HRR.out]
            cases h : (Md.fnd gs g).isSome with
            | false => rfl
            | true =>
              obtain ⟨z, hz, hzg⟩ := HSO.out.1 h
              rw [HY.out] at hz
              obtain rfl := Option.some.inj hz
              exact absurd hzg hyg)
          clear hyg hci hge
          go_wp2
          go_ret2
          exact ⟨by rw [HRT.out, HQI.out] <;> rfl, HXA.out⟩
      · have HRT : Hid (r = false) := Lib.hid (by
          rw [← HRR.out]
          cases h : (Md.fnd gs g).isSome with
          | false => rfl
          | true =>
            obtain ⟨z, hz, hzg⟩ := HSO.out.1 h
            have := (List.getElem?_eq_some_iff.1 hz).1
            omega)
        go_wp2
        go_ret2
        exact ⟨by rw [HRT.out, HQI.out] <;> rfl, HX.out⟩
end Go.Proofs.Ytdcbaddndoilfaa
