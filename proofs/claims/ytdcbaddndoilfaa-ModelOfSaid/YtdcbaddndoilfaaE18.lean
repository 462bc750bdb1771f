/-
  Several texts in one: Hzm, Hzn, Lr, Lf, Lq, Hzo, Hzs, Ld, Li.
-/
import Derived.Test.YtdcbaddndoilfaaE11
import Derived.Test.YtdcbaddndoilfaaE17
import Derived.Test.YtdcbaddndoilfaaE09
import Derived.Test.YtdcbaddndoilfaaE05
import Derived.Test.YtdcbaddndoilfaaE14
import Derived.Test.YtdcbaddndoilfaaE01
import Derived.Lib.SmallJoins
import Derived.SizedLaws
set_option linter.unusedVariables false
set_option linter.unusedSimpArgs false
namespace Go.Proofs.Ytdcbaddndoilfaa
open Go.RowKit
def snTwo : Sn := ⟨5, [(0, 0), (2, 4)], [(1, 2, 2, 0), (3, 3, 0, 7)]⟩
def snA : Sn := ⟨6, [(0, 0), (2, 4)], [(1, 2, 2, 0), (3, 1, 0, 8)]⟩
def snD : Sn := ⟨5, [(0, 0), (2, 4)], [(3, 3, 0, 7)]⟩
theorem fa_a : Md.app snTwo ⟨6, 2, 7, 3, 0, 7⟩ = some snA := by kernel_rfl
theorem fa_b : Md.app snTwo ⟨6, 2, 7, 3, 0, 6⟩ = none := by kernel_rfl
theorem fa_c : Md.app snTwo ⟨4, 2, 8, 1, 0, 0⟩ = none := by kernel_rfl
theorem fa_d : Md.app snTwo ⟨5, 2, 8, 1, 0, 0⟩ = some snD := by kernel_rfl
theorem fa_e : Md.app snTwo ⟨5, 1, 4, 3, 0, 7⟩ = none := by kernel_rfl
theorem fa_h : Md.has snTwo 2 = (2, 1) := by kernel_rfl
def fyS : St := St.made [[]] 1
def snF : Sn := ⟨0, List.replicate 8 (0, 0), [(1, 1, 0, 0)]⟩
theorem fy_new : St.new [[]] 1 = (fyS, 0) := St.new_yes (by decide +kernel)
theorem fy_of : Md.of fyS = snF := by unfold Md.of; rw [if_pos (by decide +kernel)]; rfl
theorem fy_few : StFew fyS := by
  refine ⟨?_, ?_, ?_, ?_, ?_, ?_, ?_, ?_⟩
  all_goals first | decide | (simp [fyS, St.made])
theorem SnApp.form {w w' : World} {o : Option Sn} {e : Ending} (h : SnApp w o e w') : ∃ A c B d, e = .returned (.tuple #[.agg #[.int .i64 (o.getD Md.zero).time, .slice A (o.getD Md.zero).ps.length c, .slice B (o.getD Md.zero).gs.length d], .bool o.isSome]) ∧ RowsAt 2 snPCells w' (.slice A (o.getD Md.zero).ps.length c) (o.getD Md.zero).ps ∧ RowsAt 4 snGCells w' (.slice B (o.getD Md.zero).gs.length d) (o.getD Md.zero).gs ∧ Ext w w' := by
  obtain ⟨u, he, ⟨A, c, B, d, rfl, h2, h3⟩, hx⟩ := h
  exact ⟨A, c, B, d, he, h2, h3, hx⟩
theorem sn_box (wa : World) (y : Sn) (A B : Option Addr) (c d : Nat) : ∃ wb wc, wa.alloc (.cells #[.int .i64 0, .slice none 0 0, .slice none 0 0] 25) = wb ∧ wb.there wa.heap.size 0 [Value.int .i64 y.time, .slice A y.ps.length c, .slice B y.gs.length d].length ∧ wb.setCells wa.heap.size 0 [.int .i64 y.time, .slice A y.ps.length c, .slice B y.gs.length d] = wc ∧ wc.heap[wa.heap.size]? = some (.cells #[.int .i64 y.time, .slice A y.ps.length c, .slice B y.gs.length d] 25 (0, 0)) ∧ Ext wa wc := by
  have hb := blk_new wa (.cells #[.int .i64 0, .slice none 0 0, .slice none 0 0] 25)
  refine ⟨_, _, rfl, there_row hb (by simp), rfl, setCells_at [.int .i64 0, .slice none 0 0, .slice none 0 0] _ rfl hb, ?_⟩
  exact ((Ext.refl wa).alloc _).upd (setCells_upd _ _ _ _) (Nat.le_refl _)
theorem made2 (n i f : Nat) (hi : i < n) (hf : f < 2) : (madeCells #[.int .i64 0, .int .i64 0] (n * 2))[i * 2 + f]? = some (.int .i64 0) := by
  have h1 : i * 2 + f < n * 2 := by omega
  simp only [madeCells, Array.getElem?_map, Array.getElem?_range, h1]
  have h2 : (i * 2 + f) % 2 = f := by omega
  match f, hf with
  | 0, _ => simp
  | 1, _ => simp
theorem rows_made8 (w : World) : RowsAt 2 snPCells (w.alloc (.cells (madeCells #[.int .i64 0, .int .i64 0] 16) 66)) (.slice (some ⟨w.heap.size, 0, none⟩) 8 8) (List.replicate 8 (0, 0)) := by
  refine ⟨_, _, rfl, Nat.le_refl 8, fun _ => ⟨w.heap.size, 0, rfl, by simp, fun j x hj i u hu => ?_⟩⟩
  have hj8 : j < 8 := by have := (List.getElem?_eq_some_iff.1 hj).1; simpa using this
  obtain rfl : x = (0, 0) := by rw [List.getElem?_replicate, if_pos hj8] at hj; exact (Option.some.inj hj).symm
  refine blk_cell (blk_new w _) _ _ ?_
  match i with
  | 0 => simp [snPCells] at hu; subst hu; rw [show 0 + j * 2 + 0 = j * 2 + 0 by omega]; exact made2 8 j 0 hj8 (by omega)
  | 1 => simp [snPCells] at hu; subst hu; rw [show 0 + j * 2 + 1 = j * 2 + 1 by omega]; exact made2 8 j 1 hj8 (by omega)
  | i + 2 => simp [snPCells] at hu
set_option maxRecDepth 100000 in
set_option maxHeartbeats 8000000 in
theorem two_any (w : World) : Calls Try.prog 20 #[] w fun e w' => ∃ u, e = .returned u ∧ SnAt w' u snTwo ∧ Ext w w' := by
  obtain ⟨w1, hw1⟩ : ∃ w1, w.alloc (.cells #[.int .i64 0, .slice none 0 0, .slice none 0 0] 25) = w1 := ⟨_, rfl⟩
  obtain ⟨w2, hw2⟩ : ∃ w2, w1.alloc (.cells #[.int .i64 0, .int .i64 0, .int .i64 2, .int .i64 4] 66) = w2 := ⟨_, rfl⟩
  obtain ⟨w3, hw3⟩ : ∃ w3, w2.alloc (.cells #[.int .i64 1, .int .i64 2, .int .i64 2, .int .i64 0, .int .i64 3, .int .i64 3, .int .i64 0, .int .i64 7] 51) = w3 := ⟨_, rfl⟩
  have hx1 : Ext w w1 := by rw [← hw1]; exact (Ext.refl w).alloc _
  have hx2 : Ext w1 w2 := by rw [← hw2]; exact (Ext.refl w1).alloc _
  have hx3 : Ext w2 w3 := by rw [← hw3]; exact (Ext.refl w2).alloc _
  have hb1 : w3.heap[w.heap.size]? = some (.cells #[.int .i64 0, .slice none 0 0, .slice none 0 0] 25 (0, 0)) := hx3.blk (hx2.blk (by rw [← hw1]; exact blk_new w _))
  have hb2 : w3.heap[w1.heap.size]? = some (.cells #[.int .i64 0, .int .i64 0, .int .i64 2, .int .i64 4] 66 (0, 0)) := hx3.blk (by rw [← hw2]; exact blk_new w1 _)
  have hb3 : w3.heap[w2.heap.size]? = some (.cells #[.int .i64 1, .int .i64 2, .int .i64 2, .int .i64 0, .int .i64 3, .int .i64 3, .int .i64 0, .int .i64 7] 51 (0, 0)) := by rw [← hw3]; exact blk_new w2 _
  have hr2 : RowsAt 2 snPCells w3 (.slice (some ⟨w1.heap.size, 0, none⟩) 2 2) [(0, 0), (2, 4)] := ⟨_, _, rfl, Nat.le_refl 2, fun _ => ⟨w1.heap.size, 0, rfl, blk_lt hb2, fun j x hj i u hu => by
    match j, i with
    | 0, 0 | 0, 1 | 1, 0 | 1, 1 => simp at hj; subst hj; simp [snPCells] at hu; subst hu; exact blk_cell hb2 _ _ rfl
    | 0, i + 2 | 1, i + 2 => simp at hj; subst hj; simp [snPCells] at hu
    | j + 2, _ => simp at hj⟩⟩
  have hr3 : RowsAt 4 snGCells w3 (.slice (some ⟨w2.heap.size, 0, none⟩) 2 2) [(1, 2, 2, 0), (3, 3, 0, 7)] := ⟨_, _, rfl, Nat.le_refl 2, fun _ => ⟨w2.heap.size, 0, rfl, blk_lt hb3, fun j x hj i u hu => by
    match j, i with
    | 0, 0 | 0, 1 | 0, 2 | 0, 3 | 1, 0 | 1, 1 | 1, 2 | 1, 3 => simp at hj; subst hj; simp [snGCells] at hu; subst hu; exact blk_cell hb3 _ _ rfl
    | 0, i + 4 | 1, i + 4 => simp at hj; subst hj; simp [snGCells] at hu
    | j + 2, _ => simp at hj⟩⟩
  obtain ⟨hth, w6, hw6, hb6, hret⟩ := sn_lay (y := snTwo) (A := some ⟨w1.heap.size, 0, none⟩) (B := some ⟨w2.heap.size, 0, none⟩) (c := 2) (d := 2) (time := 5) (hx1.trans (hx2.trans hx3)) (Nat.le_refl _) hb1 ⟨_, _, _, _, rfl, hr2, hr3⟩
  simp only [snTwo, List.length_cons, List.length_nil, Nat.zero_add, Nat.reduceAdd] at hth hw6 hb6 hret
  have HW1 := Lib.hid hw1
  have HW2 := Lib.hid hw2
  have HW3 := Lib.hid hw3
  have HTH := Lib.hid hth
  have HW6 := Lib.hid hw6
  have HB6 := Lib.hid hb6
  have HRET := Lib.hid hret
  clear hw1 hw2 hw3 hx1 hx2 hx3 hb1 hb2 hb3 hr2 hr3 hth hw6 hb6 hret
  go_enter Try.func20, Try.ntmps20
  go_wp2_with (first | rw [HW1.out] | rw [HW2.out] | rw [HW3.out] | (refine wpList_store_rowN rfl 25 _ _ rfl w.heap.size 0 [.int .i64 5, .slice (some ⟨w1.heap.size, 0, none⟩) 2 2, .slice (some ⟨w2.heap.size, 0, none⟩) 2 2] (.agg ([.int .i64 5, .slice (some ⟨w1.heap.size, 0, none⟩) 2 2, .slice (some ⟨w2.heap.size, 0, none⟩) 2 2]).toArray) (by go_simp) (by go_simp) rfl HTH.out (by kernel_rfl) (sn3_one _ _ _ rfl rfl) HW6.out ?_))
  refine bodyPost_ret (v := .agg ([.int .i64 5, .slice (some ⟨w1.heap.size, 0, none⟩) 2 2, .slice (some ⟨w2.heap.size, 0, none⟩) 2 2]).toArray) (results_cell_row rfl _ _ w.heap.size _ _ _ _ rfl HB6.out Try.underlying25 rfl (by kernel_rfl)) rfl ?_
  exact HRET.out
set_option maxRecDepth 100000 in
set_option maxHeartbeats 16000000 in
theorem mdfixed_yes (w : World) : Calls Try.prog 9 #[] w fun e w' => e = .returned (.bool true) ∧ Ext w w' := by
  go_enter Try.func9, Try.ntmps9
  go_wp2_with fail
  refine (two_any _).mono ?_
  rintro e wa1 ⟨u1, rfl, hs, hx⟩
  have HS1 := Lib.hid hs
  have X1 := Lib.hid ((Ext.refl w).trans hx)
  clear hs hx
  go_wp2_with fail
  refine (mApply_all u1 snTwo ⟨6, 2, 7, 3, 0, 7⟩ (.string ByteArray.empty) (.slice none 0 0) wa1 HS1.out _ fa_a).mono ?_
  rintro e wb1 hh
  obtain ⟨A1, c1, B1, d1, rfl, hr2, hr3, hx⟩ := hh.form
  obtain ⟨wz1, wc1, hwz, hth, hwc, hb, hxc⟩ := sn_box wb1 (snA) A1 B1 c1 d1
  have HWZ1 := Lib.hid hwz
  have HTH1 := Lib.hid hth
  have HWC1 := Lib.hid hwc
  have HB1 := Lib.hid hb
  have HP1 := Lib.hid (hr2.ext hxc)
  have HG1 := Lib.hid (hr3.ext hxc)
  have Y1 := Lib.hid (X1.out.trans (hx.trans hxc))
  clear hh hwz hth hwc hb hr2 hr3 hx hxc HS1 X1
  obtain ⟨n1, hn1⟩ : ∃ n, wb1.heap.size = n := ⟨_, rfl⟩
  rw [hn1] at HTH1 HWC1 HB1
  have HN1 := Lib.hid hn1
  clear hn1
  simp only [Option.isSome, Option.getD, Md.zero, snA, snD, List.length_cons, List.length_nil, Nat.zero_add, Nat.reduceAdd] at HWZ1 HTH1 HWC1 HB1 HP1 HG1 ⊢
  go_wp2_with (first | rw [HWZ1.out, HN1.out] | (refine wpList_store_rowN rfl 25 _ _ rfl n1 0 [.int .i64 6, .slice A1 2 c1, .slice B1 2 d1] (.agg ([.int .i64 6, .slice A1 2 c1, .slice B1 2 d1]).toArray) (by go_simp) (by go_simp) rfl HTH1.out (by kernel_rfl) (sn3_one _ _ _ rfl rfl) HWC1.out ?_))
  refine (two_any _).mono ?_
  rintro e wa2 ⟨u2, rfl, hs, hx⟩
  have HS2 := Lib.hid hs
  have X2 := Lib.hid ((Ext.refl wc1).trans hx)
  clear hs hx
  go_wp2_with fail
  refine (mApply_all u2 snTwo ⟨6, 2, 7, 3, 0, 6⟩ (.string ByteArray.empty) (.slice none 0 0) wa2 HS2.out _ fa_b).mono ?_
  rintro e wb2 hh
  obtain ⟨A2, c2, B2, d2, rfl, hr2, hr3, hx⟩ := hh.form
  obtain ⟨wz2, wc2, hwz, hth, hwc, hb, hxc⟩ := sn_box wb2 (Md.zero) A2 B2 c2 d2
  have HWZ2 := Lib.hid hwz
  have HTH2 := Lib.hid hth
  have HWC2 := Lib.hid hwc
  have HB2 := Lib.hid hb
  have HP2 := Lib.hid (hr2.ext hxc)
  have HG2 := Lib.hid (hr3.ext hxc)
  have Y2 := Lib.hid (X2.out.trans (hx.trans hxc))
  clear hh hwz hth hwc hb hr2 hr3 hx hxc HS2 X2
  obtain ⟨n2, hn2⟩ : ∃ n, wb2.heap.size = n := ⟨_, rfl⟩
  rw [hn2] at HTH2 HWC2 HB2
  have HN2 := Lib.hid hn2
  clear hn2
  simp only [Option.isSome, Option.getD, Md.zero, snA, snD, List.length_cons, List.length_nil, Nat.zero_add, Nat.reduceAdd] at HWZ2 HTH2 HWC2 HB2 HP2 HG2 ⊢
  go_wp2_with (first | rw [HWZ2.out, HN2.out] | (refine wpList_store_rowN rfl 25 _ _ rfl n2 0 [.int .i64 0, .slice A2 0 c2, .slice B2 0 d2] (.agg ([.int .i64 0, .slice A2 0 c2, .slice B2 0 d2]).toArray) (by go_simp) (by go_simp) rfl HTH2.out (by kernel_rfl) (sn3_one _ _ _ rfl rfl) HWC2.out ?_))
  refine (two_any _).mono ?_
  rintro e wa3 ⟨u3, rfl, hs, hx⟩
  have HS3 := Lib.hid hs
  have X3 := Lib.hid (Y2.out.trans hx)
  clear hs hx
  go_wp2_with fail
  refine (mApply_all u3 snTwo ⟨4, 2, 8, 1, 0, 0⟩ (.string ByteArray.empty) (.slice none 0 0) wa3 HS3.out _ fa_c).mono ?_
  rintro e wb3 hh
  obtain ⟨A3, c3, B3, d3, rfl, hr2, hr3, hx⟩ := hh.form
  obtain ⟨wz3, wc3, hwz, hth, hwc, hb, hxc⟩ := sn_box wb3 (Md.zero) A3 B3 c3 d3
  have HWZ3 := Lib.hid hwz
  have HTH3 := Lib.hid hth
  have HWC3 := Lib.hid hwc
  have HB3 := Lib.hid hb
  have HP3 := Lib.hid (hr2.ext hxc)
  have HG3 := Lib.hid (hr3.ext hxc)
  have Y3 := Lib.hid (X3.out.trans (hx.trans hxc))
  clear hh hwz hth hwc hb hr2 hr3 hx hxc HS3 X3
  obtain ⟨n3, hn3⟩ : ∃ n, wb3.heap.size = n := ⟨_, rfl⟩
  rw [hn3] at HTH3 HWC3 HB3
  have HN3 := Lib.hid hn3
  clear hn3
  simp only [Option.isSome, Option.getD, Md.zero, snA, snD, List.length_cons, List.length_nil, Nat.zero_add, Nat.reduceAdd] at HWZ3 HTH3 HWC3 HB3 HP3 HG3 ⊢
  go_wp2_with (first | rw [HWZ3.out, HN3.out] | (refine wpList_store_rowN rfl 25 _ _ rfl n3 0 [.int .i64 0, .slice A3 0 c3, .slice B3 0 d3] (.agg ([.int .i64 0, .slice A3 0 c3, .slice B3 0 d3]).toArray) (by go_simp) (by go_simp) rfl HTH3.out (by kernel_rfl) (sn3_one _ _ _ rfl rfl) HWC3.out ?_))
  refine (two_any _).mono ?_
  rintro e wa4 ⟨u4, rfl, hs, hx⟩
  have HS4 := Lib.hid hs
  have X4 := Lib.hid (Y3.out.trans hx)
  clear hs hx
  go_wp2_with fail
  refine (mApply_all u4 snTwo ⟨5, 2, 8, 1, 0, 0⟩ (.string ByteArray.empty) (.slice none 0 0) wa4 HS4.out _ fa_d).mono ?_
  rintro e wb4 hh
  obtain ⟨A4, c4, B4, d4, rfl, hr2, hr3, hx⟩ := hh.form
  obtain ⟨wz4, wc4, hwz, hth, hwc, hb, hxc⟩ := sn_box wb4 (snD) A4 B4 c4 d4
  have HWZ4 := Lib.hid hwz
  have HTH4 := Lib.hid hth
  have HWC4 := Lib.hid hwc
  have HB4 := Lib.hid hb
  have HP4 := Lib.hid (hr2.ext hxc)
  have HG4 := Lib.hid (hr3.ext hxc)
  have Y4 := Lib.hid (X4.out.trans (hx.trans hxc))
  clear hh hwz hth hwc hb hr2 hr3 hx hxc HS4 X4
  obtain ⟨n4, hn4⟩ : ∃ n, wb4.heap.size = n := ⟨_, rfl⟩
  rw [hn4] at HTH4 HWC4 HB4
  have HN4 := Lib.hid hn4
  clear hn4
  simp only [Option.isSome, Option.getD, Md.zero, snA, snD, List.length_cons, List.length_nil, Nat.zero_add, Nat.reduceAdd] at HWZ4 HTH4 HWC4 HB4 HP4 HG4 ⊢
  go_wp2_with (first | rw [HWZ4.out, HN4.out] | (refine wpList_store_rowN rfl 25 _ _ rfl n4 0 [.int .i64 5, .slice A4 2 c4, .slice B4 1 d4] (.agg ([.int .i64 5, .slice A4 2 c4, .slice B4 1 d4]).toArray) (by go_simp) (by go_simp) rfl HTH4.out (by kernel_rfl) (sn3_one _ _ _ rfl rfl) HWC4.out ?_))
  refine (two_any _).mono ?_
  rintro e wa5 ⟨u5, rfl, hs, hx⟩
  have HS5 := Lib.hid hs
  have X5 := Lib.hid ((Ext.refl wc4).trans hx)
  clear hs hx
  go_wp2_with fail
  refine (mApply_all u5 snTwo ⟨5, 1, 4, 3, 0, 7⟩ (.string ByteArray.empty) (.slice none 0 0) wa5 HS5.out _ fa_e).mono ?_
  rintro e wb5 hh
  obtain ⟨A5, c5, B5, d5, rfl, hr2, hr3, hx⟩ := hh.form
  obtain ⟨wz5, wc5, hwz, hth, hwc, hb, hxc⟩ := sn_box wb5 (Md.zero) A5 B5 c5 d5
  have HWZ5 := Lib.hid hwz
  have HTH5 := Lib.hid hth
  have HWC5 := Lib.hid hwc
  have HB5 := Lib.hid hb
  have HP5 := Lib.hid (hr2.ext hxc)
  have HG5 := Lib.hid (hr3.ext hxc)
  have Y5 := Lib.hid (X5.out.trans (hx.trans hxc))
  clear hh hwz hth hwc hb hr2 hr3 hx hxc HS5 X5
  obtain ⟨n5, hn5⟩ : ∃ n, wb5.heap.size = n := ⟨_, rfl⟩
  rw [hn5] at HTH5 HWC5 HB5
  have HN5 := Lib.hid hn5
  clear hn5
  simp only [Option.isSome, Option.getD, Md.zero, snA, snD, List.length_cons, List.length_nil, Nat.zero_add, Nat.reduceAdd] at HWZ5 HTH5 HWC5 HB5 HP5 HG5 ⊢
  go_wp2_with (first | rw [HWZ5.out, HN5.out] | (refine wpList_store_rowN rfl 25 _ _ rfl n5 0 [.int .i64 0, .slice A5 0 c5, .slice B5 0 d5] (.agg ([.int .i64 0, .slice A5 0 c5, .slice B5 0 d5]).toArray) (by go_simp) (by go_simp) rfl HTH5.out (by kernel_rfl) (sn3_one _ _ _ rfl rfl) HWC5.out ?_))
  refine (two_any _).mono ?_
  rintro e wa ⟨u6, rfl, hs, hx⟩
  have HS6 := Lib.hid hs
  have X6 := Lib.hid (Y5.out.trans hx)
  clear hs hx
  go_wp2_with fail
  refine (mHas_any u6 snTwo 2 wa HS6.out (by decide) (by decide) 2 1 fa_h).mono ?_
  rintro e wb ⟨rfl, hx⟩
  have X7 := Lib.hid (X6.out.trans hx)
  clear hx HS6 X6
  obtain ⟨wd, hwd⟩ : ∃ wd, wb.alloc (.cells #[] 106) = wd := ⟨_, rfl⟩
  obtain ⟨we, hwe⟩ : ∃ we, wd.alloc (.cells #[.slice (some ⟨wb.heap.size, 0, none⟩) 0 0] 58) = we := ⟨_, rfl⟩
  have hxd : Ext wb wd := by rw [← hwd]; exact (Ext.refl _).alloc _
  have hxe : Ext wd we := by rw [← hwe]; exact (Ext.refl _).alloc _
  have hbe : we.heap[wd.heap.size]? = some (.cells #[.slice (some ⟨wb.heap.size, 0, none⟩) 0 0] 58 (0, 0)) := by rw [← hwe]; exact blk_new wd _
  have HNW := Lib.hid (rNew_any _ [[]] 1 _ fy_new we (nest_one hbe ⟨_, _, rfl, Nat.le_refl 0, fun h => by simp at h⟩) (by decide) (by decide))
  have X8 := Lib.hid (X7.out.trans (hxd.trans hxe))
  have HWD := Lib.hid hwd
  have HWE := Lib.hid hwe
  clear hwd hwe hxd hxe hbe X7
  go_wp2_with (first | rw [HWD.out] | rw [HWE.out])
  refine HNW.out.mono ?_
  rintro e wf ⟨h7, rfl, hk7, hx7⟩
  simp only
  obtain ⟨wg, wh, hwg, hwh, hth, hbh, hxh⟩ := st_box wf h7 fyS
  have HWG := Lib.hid hwg
  have HWH := Lib.hid hwh
  have HTH := Lib.hid hth
  have HBS := Lib.hid hbh
  have X9 := Lib.hid (X8.out.trans (hx7.trans hxh))
  have HK7 := Lib.hid (hk7.ext hxh)
  clear hwg hwh hth hbh hxh hk7 hx7 X8 HNW
  go_wp2_with (first | rw [HWG.out] | (refine wpList_store_row rfl 47 _ _ rfl wf.heap.size (stL h7 fyS) (stV h7 fyS) rfl rfl rfl HTH.out (by kernel_rfl) (stL_one _ _) HWH.out ?_))
  have k1 := HG1.out.get (k := 1) rfl
  obtain ⟨b1, o1, hB1, hb1, hc1⟩ := k1
  have HC1 : Hid (∀ v, Ext wh v → v.rangeAt b1 (o1 + 1 * 4) (snGCells (3, 1, 0, 8))) := Lib.hid fun v hv j u hu => (Below.cell (p := ⟨b1, o1 + 1 * 4 + j, none⟩) (Y4.out.trans (X9.out.trans hv)) hb1).trans (hc1 j u hu)
  clear hb1 hc1
  subst hB1
  have hq : ∀ w, (Op.equalIn 10000 51 (.agg #[.int .i64 3, .int .i64 1, .int .i64 0, .int .i64 8]) (.agg #[.int .i64 3, .int .i64 1, .int .i64 0, .int .i64 8])).run Try.prog w = .ok true w := fun w => by have := run_eqG 3 1 0 8 3 1 0 8 w; rw [decide_eq_true rfl] at this; exact this
  refine region_rgx ([(51, (fun u => ∃ A c B d, u = .agg #[.int .i64 0, .slice A 8 c, .slice B 1 d] : Value → Prop), (fun u w => SnAt w (u 51).v snF : (Nat → GV) → World → Prop)), (52, (fun u => ∃ g, u = .slice (some ⟨g, 0, none⟩) 8 8 : Value → Prop), (fun u w => RowsAt 2 snPCells w (u 52).v (List.replicate 8 (0, 0)) : (Nat → GV) → World → Prop)), (54, (fun u => ∃ g, u = .slice (some ⟨g, 0, none⟩) 1 1 : Value → Prop), (fun u w => RowsAt 4 snGCells w (u 54).v [(1, 1, 0, 0)] : (Nat → GV) → World → Prop)), (56, (fun u => u = .bool true : Value → Prop), (fun _ _ => True : (Nat → GV) → World → Prop))]) (wh) (by kernel_rfl) (by kernel_rfl) ?_ ?_ ?_
  · exact List.forall_mem_cons.2 ⟨⟨⟨_, none, 0, none, 0, rfl⟩, fun u v w h ht => by show (fun u w => SnAt w (u 51).v snF : (Nat → GV) → World → Prop) v w; dsimp only; rw [← h 51 (.inl rfl) (by kernel_rfl)]; exact ht, fun u w w2 hx ht => ht.ext hx⟩, List.forall_mem_cons.2 ⟨⟨⟨_, 0, rfl⟩, fun u v w h ht => by show (fun u w => RowsAt 2 snPCells w (u 52).v (List.replicate 8 (0, 0)) : (Nat → GV) → World → Prop) v w; dsimp only; rw [← h 52 (.inl rfl) (by kernel_rfl)]; exact ht, fun u w w2 hx ht => ht.ext hx⟩, List.forall_mem_cons.2 ⟨⟨⟨_, 0, rfl⟩, fun u v w h ht => by show (fun u w => RowsAt 4 snGCells w (u 54).v [(1, 1, 0, 0)] : (Nat → GV) → World → Prop) v w; dsimp only; rw [← h 54 (.inl rfl) (by kernel_rfl)]; exact ht, fun u w w2 hx ht => ht.ext hx⟩, List.forall_mem_cons.2 ⟨⟨⟨_, rfl⟩, fun _ _ _ _ _ => trivial, fun _ _ _ _ _ => trivial⟩, List.forall_mem_nil _⟩⟩⟩⟩
  · first | assumption | exact Ext.refl _
  refine rg_pure (v := ?_) rfl (by kernel_rfl) (by kernel_rfl) (fun w hS hN => ?_) ?_
  rotate_left 1
  · clear hN
    go_simp
    refine givesP_mk ?_
    with_reducible rfl
  refine rg_pure (v := ?_) rfl (by kernel_rfl) (by kernel_rfl) (fun w hS hN => ?_) ?_
  rotate_left 1
  · clear hN
    go_simp
    refine givesP_mk ?_
    with_reducible rfl
  refine rg_pure (v := ?_) rfl (by kernel_rfl) (by kernel_rfl) (fun w hS hN => ?_) ?_
  rotate_left 1
  · clear hN
    go_simp
    refine givesP_mk ?_
    with_reducible rfl
  refine rg_pure (v := ?_) rfl (by kernel_rfl) (by kernel_rfl) (fun w hS hN => ?_) ?_
  rotate_left 1
  · have k1 := blk_cell (hS.blk (X9.out.blk (Y4.out.blk HB1.out))) 0 _ rfl
    clear hN
    go_simp
    refine givesP_mk ?_
    with_reducible rfl
  refine rg_pure (v := ?_) rfl (by kernel_rfl) (by kernel_rfl) (fun w hS hN => ?_) ?_
  rotate_left 1
  · clear hN
    go_simp
    refine givesP_mk ?_
    with_reducible rfl
  refine rg_pure (v := ?_) rfl (by kernel_rfl) (by kernel_rfl) (fun w hS hN => ?_) ?_
  rotate_left 1
  · clear hN
    go_simp
    refine givesP_mk ?_
    with_reducible rfl
  refine rg_pure (v := ?_) rfl (by kernel_rfl) (by kernel_rfl) (fun w hS hN => ?_) ?_
  rotate_left 1
  · clear hN
    go_simp
    refine givesP_mk ?_
    with_reducible rfl
  refine rg_pure (v := ?_) rfl (by kernel_rfl) (by kernel_rfl) (fun w hS hN => ?_) ?_
  rotate_left 1
  · clear hN
    go_simp
    refine givesP_mk ?_
    with_reducible rfl
  refine rg_pure (v := ?_) rfl (by kernel_rfl) (by kernel_rfl) (fun w hS hN => ?_) ?_
  rotate_left 1
  · have k1 := blk_cell (hS.blk (X9.out.blk (Y4.out.blk HB1.out))) 2 _ rfl
    clear hN
    go_simp
    refine givesP_mk ?_
    with_reducible rfl
  refine rg_pure (v := ?_) rfl (by kernel_rfl) (by kernel_rfl) (fun w hS hN => ?_) ?_
  rotate_left 1
  · clear hN
    go_simp
    refine givesP_mk ?_
    with_reducible rfl
  refine rg_pure (v := ?_) rfl (by kernel_rfl) (by kernel_rfl) (fun w hS hN => ?_) ?_
  rotate_left 1
  · clear hN
    go_simp
    refine givesP_mk ?_
    with_reducible rfl
  refine rg_pure (v := ?_) rfl (by kernel_rfl) (by kernel_rfl) (fun w hS hN => ?_) ?_
  rotate_left 1
  · clear hN
    go_simp
    refine givesP_mk ?_
    with_reducible rfl
  refine rg_pure (v := ?_) rfl (by kernel_rfl) (by kernel_rfl) (fun w hS hN => ?_) ?_
  rotate_left 1
  · clear hN
    go_simp
    refine givesP_mk ?_
    with_reducible rfl
  refine rg_pure (v := ?_) rfl (by kernel_rfl) (by kernel_rfl) (fun w hS hN => ?_) ?_
  rotate_left 1
  · clear hN
    go_simp
    refine givesP_mk ?_
    with_reducible rfl
  refine rg_pure (v := ?_) rfl (by kernel_rfl) (by kernel_rfl) (fun w hS hN => ?_) ?_
  rotate_left 1
  · have k1 := blk_cell (hS.blk (X9.out.blk (Y4.out.blk HB1.out))) 2 _ rfl
    clear hN
    go_simp
    refine givesP_mk ?_
    with_reducible rfl
  refine rg_pure (v := ?_) rfl (by kernel_rfl) (by kernel_rfl) (fun w hS hN => ?_) ?_
  rotate_left 1
  · clear hN
    go_simp
    refine givesP_mk ?_
    with_reducible rfl
  refine rg_pure (v := .agg #[.int .i64 3, .int .i64 1, .int .i64 0, .int .i64 8]) rfl (by kernel_rfl) (by kernel_rfl) (fun w hS hN => ?_) ?_
  · clear hN
    exact givesP_loadM 51 _ rfl (b1) (o1 + 1 * 4) (by go_simp) (snGCells (3, 1, 0, 8)) _ rfl _ (HC1.out w hS) Try.underlying51 rfl (by kernel_rfl)
  refine rg_pure (v := ?_) rfl (by kernel_rfl) (by kernel_rfl) (fun w hS hN => ?_) ?_
  rotate_left 1
  · clear hN
    go_simp
    refine givesP_mk ?_
    with_reducible rfl
  refine rg_pure (v := ?_) rfl (by kernel_rfl) (by kernel_rfl) (fun w hS hN => ?_) ?_
  rotate_left 1
  · clear hN
    go_simp
    refine givesP_mk ?_
    with_reducible rfl
  refine rg_pure (v := ?_) rfl (by kernel_rfl) (by kernel_rfl) (fun w hS hN => ?_) ?_
  rotate_left 1
  · clear hN
    go_simp
    refine givesP_mk ?_
    with_reducible rfl
  refine rg_pure (v := ?_) rfl (by kernel_rfl) (by kernel_rfl) (fun w hS hN => ?_) ?_
  rotate_left 1
  · clear hN
    go_simp
    refine givesP_mk ?_
    with_reducible rfl
  refine rg_pure (v := ?_) rfl (by kernel_rfl) (by kernel_rfl) (fun w hS hN => ?_) ?_
  rotate_left 1
  · clear hN
    go_simp
    refine givesP_mk ?_
    with_reducible rfl
  refine rg_pure (v := ?_) rfl (by kernel_rfl) (by kernel_rfl) (fun w hS hN => ?_) ?_
  rotate_left 1
  · clear hN
    go_simp
    refine givesP_mk ?_
    with_reducible rfl
  refine rg_pure (v := ?_) rfl (by kernel_rfl) (by kernel_rfl) (fun w hS hN => ?_) ?_
  rotate_left 1
  · clear hN
    go_simp
    refine givesP_mk ?_
    with_reducible rfl
  refine rg_pure (v := ?_) rfl (by kernel_rfl) (by kernel_rfl) (fun w hS hN => ?_) ?_
  rotate_left 1
  · clear hN
    go_simp
    refine givesP_mk ?_
    with_reducible rfl
  refine rg_pure (v := ?_) rfl (by kernel_rfl) (by kernel_rfl) (fun w hS hN => ?_) ?_
  rotate_left 1
  · clear hN
    go_simp
    refine givesP_mk ?_
    with_reducible rfl
  refine rg_pure (v := ?_) rfl (by kernel_rfl) (by kernel_rfl) (fun w hS hN => ?_) ?_
  rotate_left 1
  · clear hN
    go_simp
    refine givesP_mk ?_
    with_reducible rfl
  refine rg_pure (v := ?_) rfl (by kernel_rfl) (by kernel_rfl) (fun w hS hN => ?_) ?_
  rotate_left 1
  · clear hN
    go_simp
    refine givesP_mk ?_
    with_reducible rfl
  refine rg_pure (v := ?_) rfl (by kernel_rfl) (by kernel_rfl) (fun w hS hN => ?_) ?_
  rotate_left 1
  · clear hN
    go_simp
    refine givesP_mk ?_
    with_reducible rfl
  refine rg_pure (v := ?_) rfl (by kernel_rfl) (by kernel_rfl) (fun w hS hN => ?_) ?_
  rotate_left 1
  · clear hN
    go_simp
    refine givesP_mk ?_
    with_reducible rfl
  refine rg_pure (v := ?_) rfl (by kernel_rfl) (by kernel_rfl) (fun w hS hN => ?_) ?_
  rotate_left 1
  · clear hN
    go_simp
    refine givesP_mk ?_
    with_reducible rfl
  refine rg_pure (v := ?_) rfl (by kernel_rfl) (by kernel_rfl) (fun w hS hN => ?_) ?_
  rotate_left 1
  · clear hN
    go_simp
    refine givesP_mk ?_
    with_reducible rfl
  refine rg_pure (v := ?_) rfl (by kernel_rfl) (by kernel_rfl) (fun w hS hN => ?_) ?_
  rotate_left 1
  · clear hN
    go_simp
    refine givesP_mk ?_
    with_reducible rfl
  refine rg_pure (v := ?_) rfl (by kernel_rfl) (by kernel_rfl) (fun w hS hN => ?_) ?_
  rotate_left 1
  · have k1 := blk_cell (hS.blk (X9.out.blk HB4.out)) 2 _ rfl
    clear hN
    go_simp
    refine givesP_mk ?_
    with_reducible rfl
  refine rg_pure (v := ?_) rfl (by kernel_rfl) (by kernel_rfl) (fun w hS hN => ?_) ?_
  rotate_left 1
  · clear hN
    go_simp
    refine givesP_mk ?_
    with_reducible rfl
  refine rg_pure (v := ?_) rfl (by kernel_rfl) (by kernel_rfl) (fun w hS hN => ?_) ?_
  rotate_left 1
  · clear hN
    go_simp
    refine givesP_mk ?_
    with_reducible rfl
  refine rg_pure (v := ?_) rfl (by kernel_rfl) (by kernel_rfl) (fun w hS hN => ?_) ?_
  rotate_left 1
  · clear hN
    go_simp
    refine givesP_mk ?_
    with_reducible rfl
  refine rg_pure (v := ?_) rfl (by kernel_rfl) (by kernel_rfl) (fun w hS hN => ?_) ?_
  rotate_left 1
  · clear hN
    go_simp
    refine givesP_mk ?_
    with_reducible rfl
  refine rg_pure (v := ?_) rfl (by kernel_rfl) (by kernel_rfl) (fun w hS hN => ?_) ?_
  rotate_left 1
  · clear hN
    go_simp
    refine givesP_mk ?_
    with_reducible rfl
  refine rg_pure (v := ?_) rfl (by kernel_rfl) (by kernel_rfl) (fun w hS hN => ?_) ?_
  rotate_left 1
  · clear hN
    go_simp
    refine givesP_mk ?_
    with_reducible rfl
  refine rg_pure (v := ?_) rfl (by kernel_rfl) (by kernel_rfl) (fun w hS hN => ?_) ?_
  rotate_left 1
  · clear hN
    go_simp
    refine givesP_mk ?_
    with_reducible rfl
  refine rg_pure (v := ?_) rfl (by kernel_rfl) (by kernel_rfl) (fun w hS hN => ?_) ?_
  rotate_left 1
  · clear hN
    go_simp
    refine givesP_mk ?_
    with_reducible rfl
  refine rg_pure (v := ?_) rfl (by kernel_rfl) (by kernel_rfl) (fun w hS hN => ?_) ?_
  rotate_left 1
  · clear hN
    go_simp
    refine givesP_mk ?_
    with_reducible rfl
  refine rg_pure (v := ?_) rfl (by kernel_rfl) (by kernel_rfl) (fun w hS hN => ?_) ?_
  rotate_left 1
  · clear hN
    go_simp
    refine givesP_mk ?_
    with_reducible rfl
  refine rg_pure (v := ?_) rfl (by kernel_rfl) (by kernel_rfl) (fun w hS hN => ?_) ?_
  rotate_left 1
  · clear hN
    go_simp
    refine givesP_mk ?_
    with_reducible rfl
  refine rg_pure (v := ?_) rfl (by kernel_rfl) (by kernel_rfl) (fun w hS hN => ?_) ?_
  rotate_left 1
  · clear hN
    go_simp
    refine givesP_mk ?_
    with_reducible rfl
  refine rg_pure (v := ?_) rfl (by kernel_rfl) (by kernel_rfl) (fun w hS hN => ?_) ?_
  rotate_left 1
  · clear hN
    go_simp
    refine givesP_mk ?_
    with_reducible rfl
  refine rg_pure (v := ?_) rfl (by kernel_rfl) (by kernel_rfl) (fun w hS hN => ?_) ?_
  rotate_left 1
  · clear hN
    go_simp
    refine givesP_mk ?_
    with_reducible rfl
  refine rg_pure (v := ?_) rfl (by kernel_rfl) (by kernel_rfl) (fun w hS hN => ?_) ?_
  rotate_left 1
  · clear hN
    go_simp
    refine givesP_mk ?_
    with_reducible rfl
  refine rg_pure (v := ?_) rfl (by kernel_rfl) (by kernel_rfl) (fun w hS hN => ?_) ?_
  rotate_left 1
  · clear hN
    go_simp
    refine givesP_mk ?_
    with_reducible rfl
  refine rg_pure (v := stV h7 fyS) rfl (by kernel_rfl) (by kernel_rfl) (fun w hS hN => ?_) ?_
  · clear hN
    exact givesP_load 47 _ rfl _ (by go_simp) (stL h7 fyS) _ rfl _ (range_row (hS.blk HBS.out)) Try.underlying47 rfl (by kernel_rfl)
  refine rg_mem (fun u => ∃ A c B d, u = .agg #[.int .i64 0, .slice A 8 c, .slice B 1 d] : Value → Prop) (fun u w => SnAt w (u 51).v snF : (Nat → GV) → World → Prop) (fun _ => Ext) rfl rfl rfl rfl (by kernel_rfl) (by kernel_rfl) (fun w hS hN R hR => ?_) ?_
  · have HR := Lib.hid hR
    clear hR
    (try clear hN)
    go_simp
    refine givesM_call ((mOf_any h7 fyS w (HK7.out.ext hS) fy_few snF fy_of).mono ?_)
    rintro e w' ⟨v, rfl, hs, hx⟩
    obtain ⟨A', c', B', d', rfl, h2, h3⟩ := hs
    exact ⟨_, rfl, HR.out _ _ ⟨_, _, _, _, rfl⟩ ⟨_, _, _, _, rfl, h2, h3⟩ hx⟩
  rintro u51 s51 t51 ⟨A51, c51, B51, d51, rfl⟩
  refine rg_mem (fun u => ∃ g, u = .slice (some ⟨g, 0, none⟩) 8 8 : Value → Prop) (fun u w => RowsAt 2 snPCells w (u 52).v (List.replicate 8 (0, 0)) : (Nat → GV) → World → Prop) (fun _ => Ext) rfl rfl rfl rfl (by kernel_rfl) (by kernel_rfl) (fun w hS hN R hR => ?_) ?_
  · have HR := Lib.hid hR
    clear hR
    (try clear hN)
    go_simp
    exact givesM_val (HR.out _ _ ⟨_, rfl⟩ (rows_made8 w) ((Ext.refl w).alloc _))
  rintro u52 s52 t52 ⟨g52, rfl⟩
  refine rg_pure (v := ?_) rfl (by kernel_rfl) (by kernel_rfl) (fun w hS hN => ?_) ?_
  rotate_left 1
  · clear hN
    go_simp
    refine givesP_mk ?_
    with_reducible rfl
  refine rg_mem (fun u => ∃ g, u = .slice (some ⟨g, 0, none⟩) 1 1 : Value → Prop) (fun u w => RowsAt 4 snGCells w (u 54).v [(1, 1, 0, 0)] : (Nat → GV) → World → Prop) (fun _ => Ext) rfl rfl rfl rfl (by kernel_rfl) (by kernel_rfl) (fun w hS hN R hR => ?_) ?_
  · have HR := Lib.hid hR
    clear hR
    (try clear hN)
    go_simp
    exact givesM_val (HR.out _ _ ⟨_, rfl⟩ (rows_one w 51 (1, 1, 0, 0)) ((Ext.refl w).alloc _))
  rintro u54 s54 t54 ⟨g54, rfl⟩
  refine rg_pure (v := ?_) rfl (by kernel_rfl) (by kernel_rfl) (fun w hS hN => ?_) ?_
  rotate_left 1
  · clear hN
    go_simp
    refine givesP_mk ?_
    with_reducible rfl
  refine rg_mem (fun u => u = .bool true : Value → Prop) (fun _ _ => True : (Nat → GV) → World → Prop) (fun _ => Ext) rfl rfl rfl rfl (by kernel_rfl) (by kernel_rfl) (fun w hS hN R hR => ?_) ?_
  · have HR := Lib.hid hR
    clear hR
    have h51 : SnAt w (.agg #[.int .i64 0, .slice A51 8 c51, .slice B51 1 d51]) snF := hN.get 51 rfl (by kernel_rfl)
    have h52 : RowsAt 2 snPCells w (.slice (some ⟨g52, 0, none⟩) 8 8) (List.replicate 8 (0, 0)) := hN.get 52 rfl (by kernel_rfl)
    have h54 : RowsAt 4 snGCells w (.slice (some ⟨g54, 0, none⟩) 1 1) [(1, 1, 0, 0)] := hN.get 54 rfl (by kernel_rfl)
    have HCC := Lib.hid (rsnsame_any _ _ snF snF w h51 ⟨_, _, _, _, rfl, h52, h54⟩ (by decide) (by decide) true (by simp))
    clear h51 h52 h54
    (try clear hN)
    go_simp
    refine givesM_call (HCC.out.mono ?_)
    rintro e w' ⟨rfl, hx⟩
    exact ⟨_, rfl, HR.out _ _ rfl trivial hx⟩
  rintro u56 s56 t56 rfl
  refine rg_pure (v := ?_) rfl (by kernel_rfl) (by kernel_rfl) (fun w hS hN => ?_) ?_
  rotate_left 1
  · clear hN
    go_simp
    refine givesP_mk ?_
    with_reducible rfl
  refine rg_pure (v := ?_) rfl (by kernel_rfl) (by kernel_rfl) (fun w hS hN => ?_) ?_
  rotate_left 1
  · clear hN
    go_simp
    refine givesP_mk ?_
    with_reducible rfl
  refine rg_done rfl (Nat.le_of_ble_eq_true (by kernel_rfl)) ?_
  intro w8 hS hT
  have HX8 := Lib.hid (Y1.out.trans (Y4.out.trans (X9.out.trans hS)))
  clear hT hS hq
  go_simp
  go_wp2
  go_ret
  exact ⟨rfl, HX8.out⟩
namespace Md
end Md
open Go.ChangeShapes Go.WideShapes Go.Deep Go.RowKit
def RecsAt {α : Type} (m : Nat) (R : World → List Value → α → Prop) (w : World) (v : Value) (xs : List α) : Prop :=
  ∃ A c, v = .slice A xs.length c ∧ xs.length ≤ c ∧ (0 < xs.length → ∃ b o, A = some ⟨b, o, none⟩ ∧ b < w.heap.size ∧ ∀ j x, xs[j]? = some x → ∃ cs : List Value, cs.length = m ∧ R w cs x ∧ ∀ i u, cs[i]? = some u → w.cell? ⟨b, o + j * m + i, none⟩ = some u)
theorem RecsAt.rows {α : Type} {m : Nat} {f : α → List Value} {w : World} {v : Value} {xs : List α} (h : RecsAt m (fun _ cs x => cs = f x) w v xs) : RowsAt m f w v xs := by
  obtain ⟨A, c, rfl, hc, hA⟩ := h
  refine ⟨A, c, rfl, hc, fun h0 => ?_⟩
  obtain ⟨b, o, hb, hlt, hk⟩ := hA h0
  refine ⟨b, o, hb, hlt, fun j x hj i u hu => ?_⟩
  obtain ⟨cs, _, rfl, h3⟩ := hk j x hj
  exact h3 i u hu
section
variable {H : Type} {enc : TypeId × Value → H} {P : Program} {w : World} {base : Nat} {held : Bool}
theorem open_recs {α : Type} {R : World → List Value → α → Prop} {G : α → Prop} {m : Nat} (x0 : α) {t e : TypeId} {fuel len cap : Nat} {A : Option Addr} {x : DataW H × List MemPlace} (ht : P.underlying t = some (.slice e)) (hC : P.cellsOf e = m) (hm0 : 0 < m)
    (elem : ∀ (n : Nat) (cs : List Value) (y : DataW H × List MemPlace), DataW.trod enc P w base (fun _ => true) held n e cs = some y → ∃ x : α, R w cs x ∧ G x)
    (h : DataW.trod enc P w base (fun _ => true) held fuel t [.slice A len cap] = some x) :
    len ≤ maxLen ∧ ∃ l : List α, l.length = len ∧ RecsAt m R w (.slice A len cap) l ∧ ∀ x ∈ l, G x := by
  rcases open_slice ht h with ⟨h0, _⟩ | ⟨a, l, c, mm, n, D, Pl, hcs, _, hl, hm, hmm, _, hi⟩
  · simp at h0
    obtain ⟨rfl, rfl, rfl⟩ := h0
    exact ⟨by simp [maxLen], [], rfl, ⟨none, 0, rfl, Nat.le_refl _, fun h => by simp at h⟩, by simp⟩
  · simp at hcs
    obtain ⟨rfl, rfl, rfl⟩ := hcs
    have hmc : mm = cap := by simpa using hmm
    subst hmc
    have key : ∀ i, i < len → ∃ x : α, G x ∧ ∃ cs : List Value, cs.length = m ∧ R w cs x ∧ ∀ j u, cs[j]? = some u → w.cell? (a.add (i * m + j)) = some u := fun i hi' => by
      obtain ⟨cs', hc, ht'⟩ := hi i (by omega)
      rw [hC] at hc
      obtain ⟨x, hx, hg⟩ := elem _ _ _ ht'
      obtain ⟨_, hcl, hat⟩ := World.cells?_some hc
      refine ⟨x, hg, cs', hcl, hx, fun j u hj => ?_⟩
      have hjl : j < m := by rw [← hcl]; exact (List.getElem?_eq_some_iff.1 hj).1
      rw [← Go.Deep.add_add, hat j hjl, hj]
    refine ⟨by omega, (List.range len).map fun i => if h : i < len then (key i h).choose else x0, by simp, ⟨some a, mm, by simp, by simpa using hl, fun hpos => ?_⟩, ?_⟩
    · obtain ⟨b, o, spot⟩ := a
      have hl0 : 0 < len := by simpa using hpos
      have h00 : ∃ u, w.cell? ((⟨b, o, spot⟩ : Addr).add 0) = some u := by
        obtain ⟨_, _, cs, hcl, _, hat⟩ := key 0 hl0
        refine ⟨cs[0]'(by omega), ?_⟩
        have := hat 0 _ (List.getElem?_eq_getElem (by omega))
        simpa using this
      have hspot : spot = none := by
        obtain ⟨u, hu⟩ := h00
        simpa [Addr.add] using World.cell?_spot hu
      subst hspot
      refine ⟨b, o, rfl, ?_, fun j p hj => ?_⟩
      · obtain ⟨u, hu⟩ := h00
        rw [Addr.add_lit] at hu
        exact block_lt_of_cell hu
      · rw [List.getElem?_map] at hj
        have hjl : j < len := by
          rcases Nat.lt_or_ge j len with h | h
          · exact h
          · rw [List.getElem?_eq_none (by simpa using h)] at hj; simp at hj
        rw [List.getElem?_range hjl] at hj
        simp only [Option.map_some, Option.some.injEq, hjl, dif_pos] at hj
        obtain ⟨_, cs, k0, k1, k2⟩ := (key j hjl).choose_spec
        rw [hj] at k1
        refine ⟨cs, k0, k1, fun i u hu => ?_⟩
        have := k2 i u hu
        rw [Addr.add_lit] at this
        rw [Nat.add_assoc]
        exact this
    · intro x hx
      obtain ⟨i, hi', rfl⟩ := List.mem_map.1 hx
      have hil := List.mem_range.1 hi'
      rw [dif_pos hil]
      exact (key i hil).choose_spec.1
theorem cells_fields {e : TypeId} {fs : Array Field} {n : Nat} {cs : List Value} {y : DataW H × List MemPlace} (he : P.underlying e = some (.struct fs)) (hone : oneCellFields P fs = true) (hC : P.cellsOf e = fs.size)
    (h : DataW.trod enc P w base (fun _ => true) held n e cs = some y) :
    cs.length = fs.size ∧ ∀ (j : Nat) (f : Field), fs[j]? = some f → ∃ (v : Value) (z : DataW H × List MemPlace) (k : Nat), cs[j]? = some v ∧ DataW.trod enc P w base (fun _ => true) held k f.type [v] = some z := by
  obtain ⟨ys, n', hn', hy, hlen, hyl, hf⟩ := DataW.trod_struct he h
  refine ⟨by rw [hlen, hC], fun j f hj => ?_⟩
  obtain ⟨ho, hk⟩ := hone_of hone j f hj
  have hjl : j < fs.size := (Array.getElem?_eq_some_iff.1 hj).1
  have h1 := hf j f hj
  rw [ho, hk] at h1
  have hone' : (cs.drop j).take 1 = [cs[j]'(by omega)] := by
    rw [List.drop_eq_getElem_cons (by omega)]
    rfl
  rw [hone'] at h1
  have hys : ys[j]? = some (ys[j]'(by omega)) := List.getElem?_eq_getElem (by omega)
  exact ⟨_, _, _, List.getElem?_eq_getElem (by omega), h1.trans hys⟩
theorem cells_int {t : TypeId} {n : Nat} {v : Value} {y : DataW H × List MemPlace} (t0 : P.underlying t = some (.int .i64)) (h : DataW.trod enc P w base (fun _ => true) held n t [v] = some y) : ∃ a : Int, v = .int .i64 a ∧ (Lit.int .i64 a).wf = true := by
  obtain ⟨a, e0, _, w0⟩ := DataW.trod_int t0 h
  simp at e0
  exact ⟨a, e0, w0⟩
theorem cells_pair {e : TypeId} {f0 f1 : Field} {n : Nat} {cs : List Value} {y : DataW H × List MemPlace} (he : P.underlying e = some (.struct #[f0, f1])) (hone : oneCellFields P #[f0, f1] = true) (hC : P.cellsOf e = 2)
    (t0 : P.underlying f0.type = some (.int .i64)) (t1 : P.underlying f1.type = some (.int .i64)) (h : DataW.trod enc P w base (fun _ => true) held n e cs = some y) :
    ∃ p : Int × Int, cs = [.int .i64 p.1, .int .i64 p.2] ∧ (Lit.int .i64 p.1).wf = true ∧ (Lit.int .i64 p.2).wf = true := by
  obtain ⟨hl, hf⟩ := cells_fields he hone hC h
  obtain ⟨v0, _, _, c0, h0⟩ := hf 0 f0 rfl
  obtain ⟨v1, _, _, c1, h1⟩ := hf 1 f1 rfl
  obtain ⟨a, rfl, wa⟩ := cells_int t0 h0
  obtain ⟨b, rfl, wb⟩ := cells_int t1 h1
  match cs, hl, c0, c1 with
  | [u0, u1], _, c0, c1 =>
    simp only [List.getElem?_cons_zero, List.getElem?_cons_succ, Option.some.injEq] at c0 c1
    subst c0 c1
    exact ⟨(a, b), rfl, wa, wb⟩
theorem cells_slice {t e : TypeId} {n : Nat} {v : Value} {y : DataW H × List MemPlace} (ht : P.underlying t = some (.slice e)) (h : DataW.trod enc P w base (fun _ => true) held n t [v] = some y) : ∃ A len cap, v = .slice A len cap := by
  rcases open_slice ht h with ⟨h0, _⟩ | ⟨a, l, c, mm, n, D, Pl, hcs, _⟩
  · simp at h0; exact ⟨_, _, _, h0⟩
  · simp at hcs; exact ⟨_, _, _, hcs⟩
end
open Go.ChangeShapes Go.WideShapes Go.Deep Go.RowKit Go.Maps
section
variable {H : Type} {enc : TypeId × Value → H} {P : Program} {w : World} {base : Nat} {held : Bool}
end
open Go.ChangeShapes Go.WideShapes Go.Deep Go.RowKit Go.Maps
section
variable {H : Type} {enc : TypeId × Value → H} {w : World} {base : Nat} {held : Bool}
end
theorem of_few {s : St} (h : s.small = true) : (Md.of s).ps.length ≤ 10000 ∧ (Md.of s).gs.length ≤ 10000 := by
  unfold St.small at h
  simp only [Bool.and_eq_true, decide_eq_true_eq] at h
  unfold Md.of
  split
  · refine ⟨?_, Nat.le_trans (Md.gsOf_len _ _) (by omega)⟩
    simp only [Md.psOf, List.length_map]
    omega
  · exact ⟨Nat.zero_le _, Nat.zero_le _⟩
set_option maxRecDepth 100000 in
set_option maxHeartbeats 16000000 in
theorem walk_ModelOf (h : StH) (s : St) (w : World) (hk : StOk w h s) (hi : StIn s) : Calls Try.prog 4 #[stV h s] w fun e w' => e = .returned (.bool true) ∧ Ext w w' := by
  have HI := Lib.hid hi
  have HK := Lib.hid hk
  obtain ⟨w1, hw1⟩ : ∃ w1, w.alloc (.cells #[.slice h.pa s.prog.length h.pc, .slice h.ga s.gs.length h.gc, .slice h.qa s.ps.length h.qc, .slice h.ma s.ms.length h.mc, .slice h.la s.glob.length h.lc, .int .i64 s.c0, .int .i64 s.c1, .int .i64 s.c2, .int .i64 s.c3, .slice h.a0 s.w0.length h.k0, .slice h.a1 s.w1.length h.k1, .slice h.a2 s.w2.length h.k2, .slice h.a3 s.w3.length h.k3, .slice h.ta s.timers.length h.tc, .int .i64 s.clock, .int .i64 s.procs] 47) = w1 := ⟨_, rfl⟩
  have HX1 : Hid (Ext w w1) := Lib.hid (by rw [← hw1]; exact (Ext.refl w).alloc _)
  have HB1 : Hid (w1.heap[w.heap.size]? = some (.cells (stC h s) 47 (0, 0))) := Lib.hid (by rw [← hw1]; exact blk_new w _)
  have HK1 := Lib.hid (hk.ext HX1.out)
  have HW1 := Lib.hid hw1
  clear hw1 hk
  clear hi
  have HLD := Lib.hid HB1.out
  unfold stV
  go_enter Try.func4, Try.ntmps4
  go_upto_region 1 with fail
  rw [HW1.out]
  generalize Value.agg #[.slice h.pa s.prog.length h.pc, .slice h.ga s.gs.length h.gc, .slice h.qa s.ps.length h.qc, .slice h.ma s.ms.length h.mc, .slice h.la s.glob.length h.lc, .int .i64 s.c0, .int .i64 s.c1, .int .i64 s.c2, .int .i64 s.c3, .slice h.a0 s.w0.length h.k0, .slice h.a1 s.w1.length h.k1, .slice h.a2 s.w2.length h.k2, .slice h.a3 s.w3.length h.k3, .slice h.ta s.timers.length h.tc, .int .i64 s.clock, .int .i64 s.procs] = sv0
  go_wp2_with (refine wpList_load_rowW rfl 47 _ rfl w.heap.size rfl (stL h s) (stV h s) rfl _ (range_row HLD.out) Try.underlying47 rfl (by kernel_rfl) ?_)
  refine (rstsmall_any h s _ rfl w1 HK1.out HI.out).mono ?_
  rintro e w2 ⟨rfl, hx2⟩
  have HX2 := Lib.hid hx2
  clear hx2 HLD
  cases bs : s.small with
  | false =>
    go_wp2_with fail
    refine (mdfixed_yes _).mono ?_
    rintro e w4 ⟨rfl, hx4⟩
    have HX4 := Lib.hid (HX1.out.trans (HX2.out.trans hx4))
    clear hx4
    go_wp2
    go_ret
    exact ⟨rfl, HX4.out⟩
  | true =>
  have HF := Lib.hid (St.small_few bs HI.out)
  have HOF := Lib.hid (of_few bs)
  obtain ⟨o, ho⟩ : ∃ o, Md.of s = o := ⟨_, rfl⟩
  have HO := Lib.hid ho
  rw [ho] at HOF
  have HB2 := Lib.hid (HX2.out.blk HB1.out)
  have HK2 := Lib.hid (HK1.out.ext HX2.out)
  clear bs ho
  go_wp2_with fail
  refine region_rgx ([(0, (fun u => u = .bool true : Value → Prop), (fun _ _ => True : (Nat → GV) → World → Prop)), (3, (fun u => ∃ A c B d, u = .agg #[.int .i64 o.time, .slice A o.ps.length c, .slice B o.gs.length d] : Value → Prop), (fun u w => SnAt w (u 3).v o : (Nat → GV) → World → Prop)), (5, (fun u => ∃ A c B d, u = .agg #[.int .i64 o.time, .slice A o.ps.length c, .slice B o.gs.length d] : Value → Prop), (fun u w => SnAt w (u 5).v o : (Nat → GV) → World → Prop)), (6, (fun u => u = .bool true : Value → Prop), (fun _ _ => True : (Nat → GV) → World → Prop))]) (w2) (by kernel_rfl) (by kernel_rfl) ?_ ?_ ?_
  · exact List.forall_mem_cons.2 ⟨⟨⟨_, rfl⟩, fun _ _ _ _ _ => trivial, fun _ _ _ _ _ => trivial⟩, List.forall_mem_cons.2 ⟨⟨⟨_, none, 0, none, 0, rfl⟩, fun u v w h ht => by show (fun u w => SnAt w (u 3).v o : (Nat → GV) → World → Prop) v w; dsimp only; rw [← h 3 (.inl rfl) (by kernel_rfl)]; exact ht, fun u w w2 hx ht => ht.ext hx⟩, List.forall_mem_cons.2 ⟨⟨⟨_, none, 0, none, 0, rfl⟩, fun u v w h ht => by show (fun u w => SnAt w (u 5).v o : (Nat → GV) → World → Prop) v w; dsimp only; rw [← h 5 (.inl rfl) (by kernel_rfl)]; exact ht, fun u w w2 hx ht => ht.ext hx⟩, List.forall_mem_cons.2 ⟨⟨⟨_, rfl⟩, fun _ _ _ _ _ => trivial, fun _ _ _ _ _ => trivial⟩, List.forall_mem_nil _⟩⟩⟩⟩
  · first | assumption | exact Ext.refl _
  refine rg_mem (fun u => u = .bool true : Value → Prop) (fun _ _ => True : (Nat → GV) → World → Prop) (fun _ => Ext) rfl rfl rfl rfl (by kernel_rfl) (by kernel_rfl) (fun w hS hN R hR => ?_) ?_
  · have HR := Lib.hid hR
    clear hR
    (try clear hN)
    go_simp
    refine givesM_call ((mdfixed_yes w).mono ?_)
    rintro e w' ⟨rfl, hx⟩
    exact ⟨_, rfl, HR.out _ _ rfl trivial hx⟩
  rintro u0 s0 t0 rfl
  refine rg_pure (v := ?_) rfl (by kernel_rfl) (by kernel_rfl) (fun w hS hN => ?_) ?_
  rotate_left 1
  · clear hN
    go_simp
    refine givesP_mk ?_
    with_reducible rfl
  refine rg_pure (v := stV h s) rfl (by kernel_rfl) (by kernel_rfl) (fun w hS hN => ?_) ?_
  · clear hN
    exact givesP_load 47 _ rfl _ (by go_simp) (stL h s) _ rfl _ (range_row (hS.blk HB2.out)) Try.underlying47 rfl (by kernel_rfl)
  refine rg_mem (fun u => ∃ A c B d, u = .agg #[.int .i64 o.time, .slice A o.ps.length c, .slice B o.gs.length d] : Value → Prop) (fun u w => SnAt w (u 3).v o : (Nat → GV) → World → Prop) (fun _ => Ext) rfl rfl rfl rfl (by kernel_rfl) (by kernel_rfl) (fun w hS hN R hR => ?_) ?_
  · have HR := Lib.hid hR
    clear hR
    (try clear hN)
    go_simp
    refine givesM_call ((mOf_any h s w (HK2.out.ext hS) HF.out o HO.out).mono ?_)
    rintro e w' ⟨v, rfl, hs, hx⟩
    obtain ⟨A', c', B', d', rfl, h2, h3⟩ := hs
    exact ⟨_, rfl, HR.out _ _ ⟨_, _, _, _, rfl⟩ ⟨_, _, _, _, rfl, h2, h3⟩ hx⟩
  rintro u3 s3 t3 ⟨A3, c3, B3, d3, rfl⟩
  refine rg_pure (v := stV h s) rfl (by kernel_rfl) (by kernel_rfl) (fun w hS hN => ?_) ?_
  · clear hN
    exact givesP_load 47 _ rfl _ (by go_simp) (stL h s) _ rfl _ (range_row (hS.blk HB2.out)) Try.underlying47 rfl (by kernel_rfl)
  refine rg_mem (fun u => ∃ A c B d, u = .agg #[.int .i64 o.time, .slice A o.ps.length c, .slice B o.gs.length d] : Value → Prop) (fun u w => SnAt w (u 5).v o : (Nat → GV) → World → Prop) (fun _ => Ext) rfl rfl rfl rfl (by kernel_rfl) (by kernel_rfl) (fun w hS hN R hR => ?_) ?_
  · have HR := Lib.hid hR
    clear hR
    (try clear hN)
    go_simp
    refine givesM_call ((rOf_any h s w (HK2.out.ext hS) HF.out o HO.out).mono ?_)
    rintro e w' ⟨v, rfl, hs, hx⟩
    obtain ⟨A', c', B', d', rfl, h2, h3⟩ := hs
    exact ⟨_, rfl, HR.out _ _ ⟨_, _, _, _, rfl⟩ ⟨_, _, _, _, rfl, h2, h3⟩ hx⟩
  rintro u5 s5 t5 ⟨A5, c5, B5, d5, rfl⟩
  refine rg_mem (fun u => u = .bool true : Value → Prop) (fun _ _ => True : (Nat → GV) → World → Prop) (fun _ => Ext) rfl rfl rfl rfl (by kernel_rfl) (by kernel_rfl) (fun w hS hN R hR => ?_) ?_
  · have HR := Lib.hid hR
    clear hR
    have h3 : SnAt w (.agg #[.int .i64 o.time, .slice A3 o.ps.length c3, .slice B3 o.gs.length d3]) o := hN.get 3 rfl (by kernel_rfl)
    have h5 : SnAt w (.agg #[.int .i64 o.time, .slice A5 o.ps.length c5, .slice B5 o.gs.length d5]) o := hN.get 5 rfl (by kernel_rfl)
    have HCC := Lib.hid (rsnsame_any _ _ o o w h3 h5 HOF.out.1 HOF.out.2 true (by simp))
    clear h3 h5
    (try clear hN)
    go_simp
    refine givesM_call (HCC.out.mono ?_)
    rintro e w' ⟨rfl, hx⟩
    exact ⟨_, rfl, HR.out _ _ rfl trivial hx⟩
  rintro u6 s6 t6 rfl
  refine rg_pure (v := ?_) rfl (by kernel_rfl) (by kernel_rfl) (fun w hS hN => ?_) ?_
  rotate_left 1
  · clear hN
    go_simp
    refine givesP_mk ?_
    with_reducible rfl
  refine rg_pure (v := ?_) rfl (by kernel_rfl) (by kernel_rfl) (fun w hS hN => ?_) ?_
  rotate_left 1
  · clear hN
    go_simp
    refine givesP_mk ?_
    with_reducible rfl
  refine rg_done rfl (Nat.le_of_ble_eq_true (by kernel_rfl)) ?_
  intro w8 hS hT
  have HX8 := Lib.hid (HX1.out.trans (HX2.out.trans hS))
  clear hT hS
  go_simp
  go_wp2
  go_ret
  exact ⟨rfl, HX8.out⟩
open Go.ChangeShapes Go.WideShapes Go.Deep Go.RowKit
section
variable {H : Type} {enc : TypeId × Value → H} {P : Program} {w : World} {base : Nat} {held : Bool}
theorem okWide_struct {fs : Array Field} {r : Reach} {b0 : Nat} {t : TypeId} {v : Value} (ht : P.underlying t = some (.struct fs)) (h : Value.okWide P w r b0 t v) : ∃ cs, v = .agg cs ∧ cs.size = P.cellsOf t := by
  simp only [Value.okWide, ht] at h
  obtain ⟨cs, h1, h2, _⟩ := h
  exact ⟨cs, h1, h2⟩
theorem ring_cells {t e : TypeId} {f0 f1 f2 : Field} {n : Nat} {c0 c1 c2 c3 c4 c5 c6 c7 c8 c9 : Value} {x : DataW H × List MemPlace} (hs : P.underlying t = some (.struct #[f0, f1, f2]))
    (o : f0.offset = 0 ∧ f1.offset = 8 ∧ f2.offset = 9) (hc : P.cellsOf f0.type = 8 ∧ P.cellsOf f1.type = 1 ∧ P.cellsOf f2.type = 1) (ta : P.underlying f0.type = some (.array 8 e)) (te : P.underlying e = some (.int .i64)) (hce : P.cellsOf e = 1)
    (t1 : P.underlying f1.type = some (.int .i64)) (t2 : P.underlying f2.type = some (.int .i64)) (h : DataW.trod enc P w base (fun _ => true) held n t [c0, c1, c2, c3, c4, c5, c6, c7, c8, c9] = some x) :
    ∃ b0 b1 b2 b3 b4 b5 b6 b7 hd nn : Int, [c0, c1, c2, c3, c4, c5, c6, c7, c8, c9] = [b0, b1, b2, b3, b4, b5, b6, b7, hd, nn].map (Value.int .i64) ∧ ∀ z ∈ [b0, b1, b2, b3, b4, b5, b6, b7, hd, nn], (Lit.int .i64 z).wf = true := by
  obtain ⟨xs, m, _, _, _, hl, hf⟩ := DataW.trod_struct hs h
  match xs, hl with
  | [y0, y1, y2], _ =>
    have h0 := hf 0 f0 rfl
    have h1 := hf 1 f1 rfl
    have h2 := hf 2 f2 rfl
    rw [o.1, hc.1] at h0
    rw [o.2.1, hc.2.1] at h1
    rw [o.2.2, hc.2.2] at h2
    obtain ⟨x8, e8, _, w8⟩ := DataW.trod_int t1 h1
    obtain ⟨x9, e9, _, w9⟩ := DataW.trod_int t2 h2
    obtain ⟨ys, m', _, _, _, hl', hel⟩ := DataW.trod_array ta h0
    have at8 : ∀ i (hi : i < 8), ∃ z : Int, ([c0, c1, c2, c3, c4, c5, c6, c7, c8, c9] : List Value)[i]? = some (.int .i64 z) ∧ (Lit.int .i64 z).wf = true := fun i hi => by
      have hi1 := hel i hi
      rw [hce, Nat.mul_one] at hi1
      have hy : ys[i]? = some (ys[i]'(by omega)) := List.getElem?_eq_getElem (by omega)
      rw [hy] at hi1
      obtain ⟨z, ez, _, wz⟩ := DataW.trod_int te hi1
      refine ⟨z, ?_, wz⟩
      have e2 := congrArg (·[0]?) ez
      simp only [List.getElem?_take, List.getElem?_drop, List.getElem?_cons_zero] at e2
      have e3 : i < 8 ∧ [c0, c1, c2, c3, c4, c5, c6, c7, c8, c9][i]? = some (Value.int IntKind.i64 z) := by simpa using e2
      exact e3.2
    obtain ⟨z0, e0, w0⟩ := at8 0 (by omega)
    obtain ⟨z1, e1, w1⟩ := at8 1 (by omega)
    obtain ⟨z2, e2, w2⟩ := at8 2 (by omega)
    obtain ⟨z3, e3, w3⟩ := at8 3 (by omega)
    obtain ⟨z4, e4, w4⟩ := at8 4 (by omega)
    obtain ⟨z5, e5, w5⟩ := at8 5 (by omega)
    obtain ⟨z6, e6, w6⟩ := at8 6 (by omega)
    obtain ⟨z7, e7, w7⟩ := at8 7 (by omega)
    simp at e0 e1 e2 e3 e4 e5 e6 e7 e8 e9
    subst e0 e1 e2 e3 e4 e5 e6 e7 e8 e9
    refine ⟨z0, z1, z2, z3, z4, z5, z6, z7, x8, x9, rfl, fun z hz => ?_⟩
    simp only [List.mem_cons, List.not_mem_nil, or_false] at hz
    rcases hz with rfl | rfl | rfl | rfl | rfl | rfl | rfl | rfl | rfl | rfl <;> assumption
end
open Go.ChangeShapes Go.WideShapes Go.Deep Go.RowKit
section
variable {H : Type} {enc : TypeId × Value → H} {P : Program} {w : World} {base : Nat} {held : Bool}
theorem RecsAt.nest {α : Type} {m : Nat} {f : α → List Value} {v : Value} {ks : List (List α)} (hks : RecsAt 1 (fun w cs x => ∃ u, cs = [u] ∧ RowsAt m f w u x) w v ks) : NestAt m f w v ks := by
  obtain ⟨A', c', hv', hc', hA'⟩ := hks
  have key : ∀ i, i < ks.length → ∃ u, (∃ b o, A' = some ⟨b, o, none⟩ ∧ b < w.heap.size ∧ w.cell? ⟨b, o + i, none⟩ = some u) ∧ ∀ l, ks[i]? = some l → RowsAt m f w u l := fun i hi => by
    obtain ⟨b, o, hb, hlt, hcell⟩ := hA' (by omega)
    obtain ⟨cs, h1, ⟨u, rfl, hr⟩, h3⟩ := hcell i _ (List.getElem?_eq_getElem hi)
    refine ⟨u, ⟨b, o, hb, hlt, by have := h3 0 u rfl; rwa [Nat.mul_one, Nat.add_zero] at this⟩, fun l hl => ?_⟩
    rw [List.getElem?_eq_getElem hi] at hl
    rw [← Option.some.inj hl]
    exact hr
  have hlen : ((List.range ks.length).map fun i => if h : i < ks.length then (key i h).choose else Value.nilIface).length = ks.length := by simp
  refine ⟨(List.range ks.length).map fun i => if h : i < ks.length then (key i h).choose else Value.nilIface, hlen, ⟨A', c', by rw [hlen]; exact hv', by rw [hlen]; exact hc', fun h0 => ?_⟩, fun i u xs hu hxs => ?_⟩
  · rw [hlen] at h0
    obtain ⟨b, o, hb, hlt, hcell⟩ := hA' h0
    refine ⟨b, o, hb, hlt, fun j x hj i u hu => ?_⟩
    have hjl : j < ks.length := by have := (List.getElem?_eq_some_iff.1 hj).1; simpa using this
    have hi0 : i = 0 := by have := (List.getElem?_eq_some_iff.1 hu).1; simp [oneL] at this; exact this
    subst hi0
    simp only [oneL, List.getElem?_cons_zero, Option.some.injEq] at hu
    subst hu
    rw [List.getElem?_map, List.getElem?_range hjl] at hj
    simp only [Option.map_some, Option.some.injEq, hjl, dif_pos] at hj
    obtain ⟨⟨b', o', hb', _, hc⟩, _⟩ := (key j hjl).choose_spec
    rw [hb] at hb'
    simp only [Option.some.injEq, Addr.mk.injEq, and_true] at hb'
    obtain ⟨rfl, rfl⟩ := hb'
    rw [← hj, Nat.mul_one, Nat.add_zero]
    exact hc
  · have hil : i < ks.length := (List.getElem?_eq_some_iff.1 hxs).1
    rw [List.getElem?_map, List.getElem?_range hil] at hu
    simp only [Option.map_some, Option.some.injEq, hil, dif_pos] at hu
    rw [← hu]
    exact (key i hil).choose_spec.2 xs hxs
theorem slice_weight {t e : TypeId} {fuel len cap : Nat} {A : Option Addr} {y : DataW H × List MemPlace} (ht : P.underlying t = some (.slice e)) (h : DataW.trod enc P w base (fun _ => true) held fuel t [.slice A len cap] = some y) (hw : (DataW.weights P t y.1).all (· ≤ reachBytes) = true) (hb : 8 ≤ P.bytesOf e) : len ≤ 140737488355328 := by
  rcases open_slice ht h with ⟨h0, _⟩ | ⟨a, l, c, mm, n, D, Pl, hcs, _, hl, hm, hmm, hx, hi⟩
  · simp at h0
    omega
  · simp at hcs
    obtain ⟨rfl, rfl, rfl⟩ := hcs
    rw [hx] at hw
    simp only [DataW.weights, ht, List.all_cons, Bool.and_eq_true, decide_eq_true_eq, List.length_map, List.length_range] at hw
    have h1 := hw.1
    unfold reachBytes at h1
    have h2 : len * 8 ≤ (len + (mm - len)) * P.bytesOf e := Nat.mul_le_mul (by omega) hb
    omega
end
section
variable {H : Type} {enc : TypeId × Value → H} {w : World} {base : Nat} {held : Bool}
theorem cells_code {n : Nat} {cs : List Value} {y : DataW H × List MemPlace} (h : DataW.trod enc Try.prog w base (fun _ => true) held n 58 cs = some y) :
    ∃ l : List (Int × Int), (∃ u, cs = [u] ∧ RowsAt 2 pairL w u l) ∧ l.length ≤ maxLen := by
  obtain ⟨u, rfl⟩ : ∃ u, cs = [u] := by
    rcases open_slice Try.underlying58 h with ⟨h0, _⟩ | ⟨a, l, c, mm, n, D, Pl, hcs, _⟩
    · exact ⟨_, h0⟩
    · exact ⟨_, hcs⟩
  obtain ⟨A, len, cap, rfl⟩ := cells_slice Try.underlying58 h
  obtain ⟨hlen, l, rfl, hr, _⟩ := open_recs (m := 2) (R := fun _ cs x => cs = pairL x) (G := fun _ => True) (0, 0) Try.underlying58 (by kernel_rfl) (by decide) (fun n cs y hy => by
    obtain ⟨p, e, _⟩ := cells_pair Try.underlying106 (by kernel_rfl) (by kernel_rfl) Try.underlying3 Try.underlying3 hy
    exact ⟨p, e, trivial⟩) h
  exact ⟨l, ⟨_, rfl, hr.rows⟩, hlen⟩
theorem prog_of_trod {n : Nat} {v : Value} {y : DataW H × List MemPlace} (h : DataW.trod enc Try.prog w base (fun _ => true) held n 38 [v] = some y) :
    ∃ p, NestAt 2 pairL w v p ∧ p.length ≤ maxLen ∧ ∀ l ∈ p, l.length ≤ maxLen := by
  obtain ⟨A, len, cap, rfl⟩ := cells_slice Try.underlying38 h
  obtain ⟨hlen, p, rfl, hr, hg⟩ := open_recs (m := 1) (R := fun w cs x => ∃ u, cs = [u] ∧ RowsAt 2 pairL w u x) (G := fun l => l.length ≤ maxLen) [] Try.underlying38 (by kernel_rfl) (by decide) (fun n cs y hy => cells_code hy) h
  exact ⟨p, hr.nest, hlen, hg⟩
theorem cells_g {n : Nat} {cs : List Value} {y : DataW H × List MemPlace} (h : DataW.trod enc Try.prog w base (fun _ => true) held n 72 cs = some y) : ∃ g : Gr, cs = gL g ∧ True := by
  obtain ⟨hl, hf⟩ := cells_fields Try.underlying72 (by kernel_rfl) (by kernel_rfl) h
  obtain ⟨v0, _, _, c0, h0⟩ := hf 0 _ rfl
  obtain ⟨v1, _, _, c1, h1⟩ := hf 1 _ rfl
  obtain ⟨v2, _, _, c2, h2⟩ := hf 2 _ rfl
  obtain ⟨v3, _, _, c3, h3⟩ := hf 3 _ rfl
  obtain ⟨v4, _, _, c4, h4⟩ := hf 4 _ rfl
  obtain ⟨a0, rfl, _⟩ := cells_int Try.underlying3 h0
  obtain ⟨a1, rfl, _⟩ := cells_int Try.underlying3 h1
  obtain ⟨a2, rfl, _⟩ := cells_int Try.underlying3 h2
  obtain ⟨a3, rfl, _⟩ := cells_int Try.underlying3 h3
  obtain ⟨a4, rfl, _⟩ := cells_int Try.underlying3 h4
  match cs, hl, c0, c1, c2, c3, c4 with
  | [u0, u1, u2, u3, u4], _, c0, c1, c2, c3, c4 =>
    simp only [List.getElem?_cons_zero, List.getElem?_cons_succ, Option.some.injEq] at c0 c1 c2 c3 c4
    subst c0 c1 c2 c3 c4
    exact ⟨⟨a0, a1, a2, a3, a4⟩, rfl, trivial⟩
set_option maxRecDepth 100000 in
theorem cells_p {n : Nat} {cs : List Value} {y : DataW H × List MemPlace} (h : DataW.trod enc Try.prog w base (fun _ => true) held n 77 cs = some y) : ∃ p : Pr, cs = pL p ∧ p.ring.buf.length = 8 := by
  obtain ⟨xs, m, _, _, hl, hxl, hf⟩ := DataW.trod_struct Try.underlying77 h
  have hl13 : cs.length = 13 := hl.trans (by kernel_rfl)
  match xs, hxl with
  | [y0, y1, y2, y3], _ =>
    have h0 := hf 0 _ rfl
    have h1 := hf 1 _ rfl
    have h2 := hf 2 _ rfl
    have h3 := hf 3 _ rfl
    match cs, hl13 with
    | [c0, c1, c2, c3, c4, c5, c6, c7, c8, c9, c10, c11, c12], _ =>
      obtain ⟨a0, e0, _⟩ := DataW.trod_int Try.underlying3 (show DataW.trod enc Try.prog w base (fun _ => true) held m 3 [c0] = some y0 from h0)
      obtain ⟨a1, e1, _⟩ := DataW.trod_int Try.underlying3 (show DataW.trod enc Try.prog w base (fun _ => true) held m 3 [c1] = some y1 from h1)
      obtain ⟨a3, e3, _⟩ := DataW.trod_int Try.underlying3 (show DataW.trod enc Try.prog w base (fun _ => true) held m 3 [c12] = some y3 from h3)
      obtain ⟨b0, b1, b2, b3, b4, b5, b6, b7, hd, nn, he, _⟩ := ring_cells Try.underlying75 ⟨rfl, rfl, rfl⟩ ⟨by kernel_rfl, by kernel_rfl, by kernel_rfl⟩ Try.underlying73 Try.underlying3 (by kernel_rfl) Try.underlying3 Try.underlying3 (show DataW.trod enc Try.prog w base (fun _ => true) held m 75 [c2, c3, c4, c5, c6, c7, c8, c9, c10, c11] = some y2 from h2)
      simp at e0 e1 e3
      simp only [List.map_cons, List.map_nil, List.cons.injEq, and_true] at he
      obtain ⟨rfl, rfl, rfl, rfl, rfl, rfl, rfl, rfl, rfl, rfl⟩ := he
      subst e0 e1 e3
      exact ⟨⟨a0, a1, ⟨[b0, b1, b2, b3, b4, b5, b6, b7], hd, nn⟩, a3⟩, rfl, rfl⟩
set_option maxRecDepth 100000 in
theorem ints_sized {n : Nat} {v : Value} {y : DataW H × List MemPlace} (h : DataW.trod enc Try.prog w base (fun _ => true) held n 42 [v] = some y) (hw : (DataW.weights Try.prog 42 y.1).all (· ≤ reachBytes) = true) :
    ∃ A c l, v = .slice A l.length c ∧ IntsAt w (.slice A l.length c) l ∧ l.length ≤ 140737488355328 := by
  obtain ⟨A, len, cap, rfl⟩ := cells_slice Try.underlying42 h
  obtain ⟨hlen, l, rfl, hr, hg⟩ := open_recs (m := 1) (R := fun _ cs x => cs = numL x) (G := fun _ => True) 0 Try.underlying42 (by kernel_rfl) (by decide) (fun n cs y hy => by
    obtain ⟨a, e, _⟩ := DataW.trod_int Try.underlying3 hy
    exact ⟨a, e, trivial⟩) h
  refine ⟨A, cap, l, rfl, ?_, slice_weight Try.underlying42 h hw (Nat.le_of_ble_eq_true (by kernel_rfl))⟩
  obtain ⟨A', c', hv, _, hA⟩ := hr.rows
  refine ⟨A', c', hv, fun h0 => ?_⟩
  obtain ⟨b, o, hb, hlt, hc⟩ := hA h0
  exact ⟨b, o, hb, hlt, fun j x hj => by have := hc j x hj 0 _ rfl; rwa [Nat.mul_one, Nat.add_zero] at this⟩
theorem wf_i64ok {a : Int} (h : (Lit.int .i64 a).wf = true) : i64ok a := by
  simp [Lit.wf, IntKind.min, IntKind.max, IntKind.signed, IntKind.bits] at h
  unfold i64ok
  omega
theorem array16 {α : Type} {cs : Array α} (h : cs.size = 16) : ∃ c0 c1 c2 c3 c4 c5 c6 c7 c8 c9 c10 c11 c12 c13 c14 c15, cs = #[c0, c1, c2, c3, c4, c5, c6, c7, c8, c9, c10, c11, c12, c13, c14, c15] := by
  obtain ⟨l⟩ := cs
  match l, h with
  | [c0, c1, c2, c3, c4, c5, c6, c7, c8, c9, c10, c11, c12, c13, c14, c15], _ => exact ⟨c0, c1, c2, c3, c4, c5, c6, c7, c8, c9, c10, c11, c12, c13, c14, c15, rfl⟩
set_option maxRecDepth 100000 in
theorem open_state {r : Reach} {b : Nat} {v : Value} {d : DataW H} {p : List MemPlace} (hv : Value.okWide Try.prog w r b 47 v) (h : DataW.Trod enc Try.prog w base (fun _ => true) held 47 v d p)
    (hw : (DataW.weights Try.prog 47 d).all (· ≤ reachBytes) = true) : ∃ hh s, v = stV hh s ∧ StOk w hh s ∧ StIn s := by
  obtain ⟨cs, rfl, hsz⟩ := okWide_struct Try.underlying47 hv
  obtain ⟨c0, c1, c2, c3, c4, c5, c6, c7, c8, c9, c10, c11, c12, c13, c14, c15, rfl⟩ := array16 (hsz.trans (by kernel_rfl))
  obtain ⟨fuel, hf⟩ := h
  obtain ⟨xs, m, _, hd, _, hxl, hfd⟩ := DataW.trod_struct Try.underlying47 hf
  match xs, hxl with
  | [y0, y1, y2, y3, y4, y5, y6, y7, y8, y9], _ =>
    have h0 : DataW.trod enc Try.prog w base (fun _ => true) held m 38 [c0] = some y0 := hfd 0 _ rfl
    have h1 : DataW.trod enc Try.prog w base (fun _ => true) held m 39 [c1] = some y1 := hfd 1 _ rfl
    have h2 : DataW.trod enc Try.prog w base (fun _ => true) held m 40 [c2] = some y2 := hfd 2 _ rfl
    have h3 : DataW.trod enc Try.prog w base (fun _ => true) held m 41 [c3] = some y3 := hfd 3 _ rfl
    have h4 : DataW.trod enc Try.prog w base (fun _ => true) held m 42 [c4] = some y4 := hfd 4 _ rfl
    have h5 : DataW.trod enc Try.prog w base (fun _ => true) held m 43 [c5, c6, c7, c8] = some y5 := hfd 5 _ rfl
    have h6 : DataW.trod enc Try.prog w base (fun _ => true) held m 44 [c9, c10, c11, c12] = some y6 := hfd 6 _ rfl
    have h7 : DataW.trod enc Try.prog w base (fun _ => true) held m 45 [c13] = some y7 := hfd 7 _ rfl
    have h8 : DataW.trod enc Try.prog w base (fun _ => true) held m 3 [c14] = some y8 := hfd 8 _ rfl
    have h9 : DataW.trod enc Try.prog w base (fun _ => true) held m 3 [c15] = some y9 := hfd 9 _ rfl
    simp only [Prod.mk.injEq] at hd
    rw [hd.1] at hw
    simp only [DataW.weights, Try.underlying47, DataW.weightsEach, List.map_cons, List.map_nil, List.all_append, Bool.and_eq_true] at hw
    obtain ⟨w0, w1, w2, w3, w4, w5, w6, w7, w8, w9, _⟩ := hw
    obtain ⟨pr, hp, hp1, hp2⟩ := prog_of_trod h0
    obtain ⟨A1, n1, k1, rfl⟩ := cells_slice Try.underlying39 h1
    have g1 := slice_weight Try.underlying39 h1 w1 (Nat.le_of_ble_eq_true (by kernel_rfl))
    obtain ⟨_, gs, rfl, hg, _⟩ := open_recs (m := 5) (R := fun _ cs x => cs = gL x) (G := fun _ => True) St.nilG Try.underlying39 (by kernel_rfl) (by decide) (fun n cs y hy => cells_g hy) h1
    obtain ⟨A2, n2, k2, rfl⟩ := cells_slice Try.underlying40 h2
    have g2 := slice_weight Try.underlying40 h2 w2 (Nat.le_of_ble_eq_true (by kernel_rfl))
    obtain ⟨_, ps, rfl, hps, hpb⟩ := open_recs (m := 13) (R := fun _ cs x => cs = pL x) (G := fun p => p.ring.buf.length = 8) St.nilP Try.underlying40 (by kernel_rfl) (by decide) (fun n cs y hy => cells_p hy) h2
    obtain ⟨A3, n3, k3, rfl⟩ := cells_slice Try.underlying41 h3
    have g3 := slice_weight Try.underlying41 h3 w3 (Nat.le_of_ble_eq_true (by kernel_rfl))
    obtain ⟨_, ms, rfl, hms, _⟩ := open_recs (m := 2) (R := fun _ cs x => cs = pairL x) (G := fun _ => True) (0, 0) Try.underlying41 (by kernel_rfl) (by decide) (fun n cs y hy => by
      obtain ⟨p, e, _⟩ := cells_pair Try.underlying119 (by kernel_rfl) (by kernel_rfl) Try.underlying3 Try.underlying3 hy
      exact ⟨p, e, trivial⟩) h3
    obtain ⟨A4, k4, gl, rfl, hgl, g4⟩ := ints_sized h4 w4
    obtain ⟨zs, m5, _, hz5, _, hzl, hz⟩ := DataW.trod_array Try.underlying43 h5
    have ci : Try.prog.cellsOf 3 = 1 := by kernel_rfl
    have cn : Try.prog.cellsOf 42 = 1 := by kernel_rfl
    match zs, hzl with
    | [z0, z1, z2, z3], _ =>
      have i0 := hz 0 (by omega)
      have i1 := hz 1 (by omega)
      have i2 := hz 2 (by omega)
      have i3 := hz 3 (by omega)
      simp only [ci] at i0 i1 i2 i3
      obtain ⟨a0, e0, _⟩ := DataW.trod_int Try.underlying3 (show DataW.trod enc Try.prog w base (fun _ => true) held m5 3 [c5] = some z0 from i0)
      obtain ⟨a1, e1, _⟩ := DataW.trod_int Try.underlying3 (show DataW.trod enc Try.prog w base (fun _ => true) held m5 3 [c6] = some z1 from i1)
      obtain ⟨a2, e2, _⟩ := DataW.trod_int Try.underlying3 (show DataW.trod enc Try.prog w base (fun _ => true) held m5 3 [c7] = some z2 from i2)
      obtain ⟨a3, e3, _⟩ := DataW.trod_int Try.underlying3 (show DataW.trod enc Try.prog w base (fun _ => true) held m5 3 [c8] = some z3 from i3)
      simp only [List.cons.injEq, and_true] at e0 e1 e2 e3
      subst e0 e1 e2 e3
      obtain ⟨qs, m6, _, hq6, _, hql, hq⟩ := DataW.trod_array Try.underlying44 h6
      match qs, hql with
      | [q0, q1, q2, q3], _ =>
        have j0 := hq 0 (by omega)
        have j1 := hq 1 (by omega)
        have j2 := hq 2 (by omega)
        have j3 := hq 3 (by omega)
        simp only [cn] at j0 j1 j2 j3
        rw [hq6] at w6
        simp only [DataW.weights, Try.underlying44, DataW.weightsAll, List.map_cons, List.map_nil, List.all_append, Bool.and_eq_true] at w6
        obtain ⟨v0, v1, v2, v3, _⟩ := w6
        obtain ⟨B0, l0, x0, rfl, hx0, b0⟩ := ints_sized (show DataW.trod enc Try.prog w base (fun _ => true) held m6 42 [c9] = some q0 from j0) v0
        obtain ⟨B1, l1, x1, rfl, hx1, b1⟩ := ints_sized (show DataW.trod enc Try.prog w base (fun _ => true) held m6 42 [c10] = some q1 from j1) v1
        obtain ⟨B2, l2, x2, rfl, hx2, b2⟩ := ints_sized (show DataW.trod enc Try.prog w base (fun _ => true) held m6 42 [c11] = some q2 from j2) v2
        obtain ⟨B3, l3, x3, rfl, hx3, b3⟩ := ints_sized (show DataW.trod enc Try.prog w base (fun _ => true) held m6 42 [c12] = some q3 from j3) v3
        obtain ⟨A7, n7, k7, rfl⟩ := cells_slice Try.underlying45 h7
        have g7 := slice_weight Try.underlying45 h7 w7 (Nat.le_of_ble_eq_true (by kernel_rfl))
        obtain ⟨_, ts, rfl, hts, htn⟩ := open_recs (m := 2) (R := fun _ cs x => cs = pairL x) (G := fun p => i64ok p.1 ∧ i64ok p.2) (0, 0) Try.underlying45 (by kernel_rfl) (by decide) (fun n cs y hy => by
          obtain ⟨p, e, wa, wb⟩ := cells_pair Try.underlying129 (by kernel_rfl) (by kernel_rfl) Try.underlying3 Try.underlying3 hy
          exact ⟨p, e, wf_i64ok wa, wf_i64ok wb⟩) h7
        obtain ⟨ck, e8, _⟩ := DataW.trod_int Try.underlying3 h8
        obtain ⟨pc, e9, _⟩ := DataW.trod_int Try.underlying3 h9
        simp only [List.cons.injEq, and_true] at e8 e9
        subst e8 e9
        obtain ⟨A0, k0, rfl, _⟩ := hp.form
        exact ⟨⟨A0, k0, A1, k1, A2, k2, A3, k3, A4, k4, B0, l0, B1, l1, B2, l2, B3, l3, A7, k7⟩, ⟨pr, gs, ps, ms, gl, a0, a1, a2, a3, x0, x1, x2, x3, ts, ck, pc⟩, rfl, ⟨hp, hg.rows, hps.rows, hms.rows, hgl, hx0, hx1, hx2, hx3, hts.rows.pairs, hpb⟩, ⟨⟨by unfold maxLen at hp1; omega, fun l hl => by have := hp2 l hl; unfold maxLen at this; omega⟩, g1, g2, g3, g4, ⟨b0, b1, b2, b3⟩, g7, htn⟩⟩
set_option maxRecDepth 100000 in
theorem open_prog {r : Reach} {b : Nat} {v : Value} {d : DataW H} {p : List MemPlace} (hv : Value.okWide Try.prog w r b 38 v) (h : DataW.Trod enc Try.prog w base (fun _ => true) held 38 v d p) :
    ∃ q, NestAt 2 pairL w v q ∧ q.length ≤ maxLen ∧ ∀ l ∈ q, l.length ≤ maxLen := by
  obtain ⟨a, n, c, rfl⟩ := okWide_slice Try.underlying38 hv
  obtain ⟨fuel, hf⟩ := h
  exact prog_of_trod (n := fuel) (by simpa [Value.cells] using hf)
end
end Go.Proofs.Ytdcbaddndoilfaa
