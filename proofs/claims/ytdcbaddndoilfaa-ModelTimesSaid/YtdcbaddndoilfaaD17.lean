/-
  Several texts in one: Hu, Tx, Ty, Tzg, Tzh, Tzi, Tzj, Gi, Tza, Tzb, Tzc, Tzd, Tze, Tz, Tzk, Mj, Mk, Hzm.
-/
import Derived.Test.YtdcbaddndoilfaaD14
import Derived.Test.YtdcbaddndoilfaaD16
import Derived.Test.YtdcbaddndoilfaaD05
import Derived.Test.YtdcbaddndoilfaaD12
import Derived.Test.YtdcbaddndoilfaaD07
import Derived.Deep.MidRow
import Derived.Test.YtdcbaddndoilfaaD04
import Derived.Test.YtdcbaddndoilfaaD01
set_option linter.unusedVariables false
set_option linter.unusedSimpArgs false
namespace Go.Proofs.Ytdcbaddndoilfaa
open Go.RowKit
set_option maxRecDepth 100000 in
set_option maxHeartbeats 4000000 in
theorem mHas_any (v : Value) (x : Sn) (m : Int) (w : World) (hs : SnAt w v x) (hp : x.ps.length ≤ 1000) (hg : x.gs.length ≤ 1000) (ra rb : Int) (hr : Md.has x m = (ra, rb)) :
    Calls Try.prog 12 #[v, .int .i64 m] w fun e w' => e = .returned (.tuple #[.int .i64 ra, .int .i64 rb]) ∧ Ext w w' := by
  obtain ⟨A, c, B, d, rfl, h2, h3⟩ := hs
  obtain ⟨time, ps, gs⟩ := x
  simp only at h2 h3 hp hg ⊢
  obtain ⟨w1, hw1⟩ : ∃ w1, (w.alloc (.cells #[.int .i64 time, .slice A ps.length c, .slice B gs.length d] 25)) = w1 := ⟨_, rfl⟩
  have hx1 : Ext w w1 := by rw [← hw1]; exact (Ext.refl w).alloc _
  have hb1 : w1.heap[w.heap.size]? = some (.cells #[.int .i64 time, .slice A ps.length c, .slice B gs.length d] 25 (0, 0)) := by rw [← hw1]; exact blk_new w _
  obtain ⟨S0, hS0⟩ : ∃ S0, w.heap.size = S0 := ⟨_, rfl⟩
  rw [hS0] at hb1
  have HS0 := Lib.hid hS0
  have HW1 := Lib.hid hw1
  have HX1 := Lib.hid hx1
  have HB1 := Lib.hid hb1
  have H2 := Lib.hid (h2.ext hx1)
  have H3 := Lib.hid (h3.ext hx1)
  have hp' : (ps.length : Int) ≤ 10000 := by omega
  have hg' : (gs.length : Int) ≤ 10000 := by omega
  clear h2 h3 hx1 hb1 hw1 hS0
  try simp only at hr
  have HR := Lib.hid hr
  have HP : Hid (ps.length ≤ 10000) := Lib.hid (by omega)
  have HG : Hid (gs.length ≤ 10000) := Lib.hid (by omega)
  clear hr hp hg
  have c0 := blk_cell HB1.out 0 _ rfl
  have c1 := blk_cell HB1.out 1 _ rfl
  have c2 := blk_cell HB1.out 2 _ rfl
  go_enter Try.func12, Try.ntmps12
  go_upto_region 1 with fail
  rw [HW1.out, HS0.out]
  by_cases a1 : m < 1
  · have HRR : Hid (0 = ra ∧ 0 = rb) := Lib.hid (by have := HR.out; unfold Md.has at this; rw [if_neg (by omega)] at this; exact Prod.mk.inj this)
    obtain ⟨rfl, rfl⟩ := HRR.out
    go_wp2
    go_ret2
    exact ⟨rfl, HX1.out⟩
  have d1 : decide (m < 1) = false := decide_eq_false a1
  have A1 := Lib.hid a1
  clear a1
  go_wp2_with fail
  obtain ⟨rm, hrm⟩ : ∃ rm, Sn.may ⟨time, ps, gs⟩ = rm := ⟨_, rfl⟩
  refine (snmay_any _ ⟨time, ps, gs⟩ w1 ⟨A, c, B, d, rfl, H2.out, H3.out⟩ HP.out HG.out).mono ?_
  rintro e w2 ⟨rfl, hx2⟩
  rw [hrm]
  have X2 := Lib.hid hx2
  have HRM := Lib.hid hrm
  clear hx2 hrm c0 c1 c2
  have c0 := blk_cell (X2.out.blk HB1.out) 0 _ rfl
  have c1 := blk_cell (X2.out.blk HB1.out) 1 _ rfl
  have c2 := blk_cell (X2.out.blk HB1.out) 2 _ rfl
  cases rm with
  | false =>
    have HRR : Hid (0 = ra ∧ 0 = rb) := Lib.hid (by have := HR.out; unfold Md.has at this; rw [if_neg (by rintro ⟨h1, h2⟩; rw [HRM.out] at h2; cases h2)] at this; exact Prod.mk.inj this)
    obtain ⟨rfl, rfl⟩ := HRR.out
    go_wp2
    go_ret2
    exact ⟨rfl, HX1.out.trans X2.out⟩
  | true =>
    have HRR : Hid (Md.hasP ps m 1 = ra ∧ Md.hasG gs m = rb) := Lib.hid (by have := HR.out; unfold Md.has at this; rw [if_pos ⟨by have := A1.out; omega, HRM.out⟩] at this; exact Prod.mk.inj this)
    go_wp2_with fail
    refine (mhas_any _ ⟨time, ps, gs⟩ m w2 ⟨A, c, B, d, rfl, H2.out.ext X2.out, H3.out.ext X2.out⟩ HP.out HG.out ra rb HRR.out.1 HRR.out.2).mono ?_
    rintro e w3 ⟨rfl, hx3⟩
    have X3 := Lib.hid (HX1.out.trans (X2.out.trans hx3))
    clear hx3
    go_wp2
    go_ret2
    exact ⟨rfl, X3.out⟩
set_option maxRecDepth 100000 in
set_option maxHeartbeats 4000000 in
theorem rHas_any (v : Value) (x : Sn) (m : Int) (w : World) (hs : SnAt w v x) (hp : x.ps.length ≤ 1000) (hg : x.gs.length ≤ 1000) (ra rb : Int) (hr : Md.has x m = (ra, rb)) :
    Calls Try.prog 13 #[v, .int .i64 m] w fun e w' => e = .returned (.tuple #[.int .i64 ra, .int .i64 rb]) ∧ Ext w w' := by
  obtain ⟨A, c, B, d, rfl, h2, h3⟩ := hs
  obtain ⟨time, ps, gs⟩ := x
  simp only at h2 h3 hp hg ⊢
  obtain ⟨w1, hw1⟩ : ∃ w1, (w.alloc (.cells #[.int .i64 time, .slice A ps.length c, .slice B gs.length d] 25)) = w1 := ⟨_, rfl⟩
  have hx1 : Ext w w1 := by rw [← hw1]; exact (Ext.refl w).alloc _
  have hb1 : w1.heap[w.heap.size]? = some (.cells #[.int .i64 time, .slice A ps.length c, .slice B gs.length d] 25 (0, 0)) := by rw [← hw1]; exact blk_new w _
  obtain ⟨S0, hS0⟩ : ∃ S0, w.heap.size = S0 := ⟨_, rfl⟩
  rw [hS0] at hb1
  have HS0 := Lib.hid hS0
  have HW1 := Lib.hid hw1
  have HX1 := Lib.hid hx1
  have HB1 := Lib.hid hb1
  have H2 := Lib.hid (h2.ext hx1)
  have H3 := Lib.hid (h3.ext hx1)
  have hp' : (ps.length : Int) ≤ 10000 := by omega
  have hg' : (gs.length : Int) ≤ 10000 := by omega
  clear h2 h3 hx1 hb1 hw1 hS0
  try simp only at hr
  have HR := Lib.hid hr
  have HP : Hid (ps.length ≤ 10000) := Lib.hid (by omega)
  have HG : Hid (gs.length ≤ 10000) := Lib.hid (by omega)
  clear hr hp hg
  have c0 := blk_cell HB1.out 0 _ rfl
  have c1 := blk_cell HB1.out 1 _ rfl
  have c2 := blk_cell HB1.out 2 _ rfl
  go_enter Try.func13, Try.ntmps13
  go_upto_region 1 with fail
  rw [HW1.out, HS0.out]
  by_cases a1 : m < 1
  · have HRR : Hid (0 = ra ∧ 0 = rb) := Lib.hid (by have := HR.out; unfold Md.has at this; rw [if_neg (by omega)] at this; exact Prod.mk.inj this)
    obtain ⟨rfl, rfl⟩ := HRR.out
    go_wp2
    go_ret2
    exact ⟨rfl, HX1.out⟩
  have d1 : decide (m < 1) = false := decide_eq_false a1
  have A1 := Lib.hid a1
  clear a1
  go_wp2_with fail
  obtain ⟨rm, hrm⟩ : ∃ rm, Sn.may ⟨time, ps, gs⟩ = rm := ⟨_, rfl⟩
  refine (rsnmay_k _ ⟨time, ps, gs⟩ rm w1 hrm ⟨A, c, B, d, rfl, H2.out, H3.out⟩ HP.out HG.out).mono ?_
  rintro e w2 ⟨rfl, hx2⟩
  have X2 := Lib.hid hx2
  have HRM := Lib.hid hrm
  clear hx2 hrm c0 c1 c2
  have c0 := blk_cell (X2.out.blk HB1.out) 0 _ rfl
  have c1 := blk_cell (X2.out.blk HB1.out) 1 _ rfl
  have c2 := blk_cell (X2.out.blk HB1.out) 2 _ rfl
  cases rm with
  | false =>
    have HRR : Hid (0 = ra ∧ 0 = rb) := Lib.hid (by have := HR.out; unfold Md.has at this; rw [if_neg (by rintro ⟨h1, h2⟩; rw [HRM.out] at h2; cases h2)] at this; exact Prod.mk.inj this)
    obtain ⟨rfl, rfl⟩ := HRR.out
    go_wp2
    go_ret2
    exact ⟨rfl, HX1.out.trans X2.out⟩
  | true =>
    have HRR : Hid (Md.hasP ps m 1 = ra ∧ Md.hasG gs m = rb) := Lib.hid (by have := HR.out; unfold Md.has at this; rw [if_pos ⟨by have := A1.out; omega, HRM.out⟩] at this; exact Prod.mk.inj this)
    go_wp2_with fail
    refine (rhave_any _ ⟨time, ps, gs⟩ m w2 ⟨A, c, B, d, rfl, H2.out.ext X2.out, H3.out.ext X2.out⟩ HP.out HG.out (Md.uniq_may HRM.out (by have := A1.out; omega)) ra rb HRR.out.1 HRR.out.2).mono ?_
    rintro e w3 ⟨rfl, hx3⟩
    have X3 := Lib.hid (HX1.out.trans (X2.out.trans hx3))
    clear hx3
    go_wp2
    go_ret2
    exact ⟨rfl, X3.out⟩
theorem stL_one (h : StH) (s : St) : ∀ u ∈ stL h s, u.oneCell' = true := by
  intro u hu
  simp only [stL, List.mem_cons, List.not_mem_nil, or_false] at hu
  rcases hu with rfl | rfl | rfl | rfl | rfl | rfl | rfl | rfl | rfl | rfl | rfl | rfl | rfl | rfl | rfl | rfl <;> rfl
def St.nil : St := ⟨[], [], [], [], [], 0, 0, 0, 0, [], [], [], [], [], 0, 0⟩
def StH.nil : StH := ⟨none, 0, none, 0, none, 0, none, 0, none, 0, none, 0, none, 0, none, 0, none, 0, none, 0⟩
theorem StOk.nil (w : World) : StOk w StH.nil St.nil :=
  ⟨⟨[], rfl, RowsAt.nil w, fun i u xs h => by simp at h⟩, RowsAt.nil w, RowsAt.nil w, RowsAt.nil w, (OwnInts.nil w 0).at.2, (OwnInts.nil w 0).at.2, (OwnInts.nil w 0).at.2, (OwnInts.nil w 0).at.2, (OwnInts.nil w 0).at.2, (RowsAt.nil w).pairs, fun p h => by simp [St.nil] at h⟩
def nilPr : Pr := ⟨0, 0, ⟨[0, 0, 0, 0, 0, 0, 0, 0], 0, 0⟩, 0⟩
def St.made (p : List (List (Int × Int))) (n : Int) : St := ⟨p, [⟨0, 0, 1, 0, 0⟩], List.replicate 8 nilPr, [], [1], 0, 0, 0, 0, [], [], [], [], [], 0, n⟩
def St.new (p : List (List (Int × Int))) (n : Int) : St × Int := if Pg.may p = true ∧ 1 ≤ n ∧ n ≤ 8 then (St.made p n, 0) else (St.nil, 1)
def StH.made (A : Option Addr) (c g q l : Nat) : StH := ⟨A, c, some ⟨g, 0, none⟩, 1, some ⟨q, 0, none⟩, 8, none, 0, some ⟨l, 0, none⟩, 1, none, 0, none, 0, none, 0, none, 0, none, 0⟩
theorem StOk.made {w : World} {A : Option Addr} {c g q l : Nat} {p : List (List (Int × Int))} {n : Int} (hp : NestAt 2 pairL w (.slice A p.length c) p) (hg : w.heap[g]? = some (.cells #[.int .i64 0, .int .i64 0, .int .i64 1, .int .i64 0, .int .i64 0] 72 (0, 0)))
    (hq : w.heap[q]? = some (.cells (madeCells #[.int .i64 0, .int .i64 0, .int .i64 0, .int .i64 0, .int .i64 0, .int .i64 0, .int .i64 0, .int .i64 0, .int .i64 0, .int .i64 0, .int .i64 0, .int .i64 0, .int .i64 0] 104) 77 (0, 0))) (hl : w.heap[l]? = some (.cells #[.int .i64 1] 3 (0, 0))) : StOk w (StH.made A c g q l) (St.made p n) := by
  refine ⟨hp, ⟨_, _, rfl, Nat.le_refl 1, fun _ => ⟨g, 0, rfl, blk_lt hg, fun j x hj i u hu => ?_⟩⟩, ⟨_, _, rfl, Nat.le_refl 8, fun _ => ⟨q, 0, rfl, blk_lt hq, fun j x hj i u hu => ?_⟩⟩, RowsAt.nil w, ⟨_, _, rfl, fun _ => ⟨l, 0, rfl, blk_lt hl, fun j x hj => ?_⟩⟩, (OwnInts.nil w 0).at.2, (OwnInts.nil w 0).at.2, (OwnInts.nil w 0).at.2, (OwnInts.nil w 0).at.2, (RowsAt.nil w).pairs, fun x hx => ?_⟩
  · match j with
    | 0 =>
      simp [St.made] at hj; subst hj
      refine blk_cell hg _ _ ?_
      simp only [Nat.zero_mul, Nat.zero_add]
      match i with
      | 0 | 1 | 2 | 3 | 4 => simp [gL] at hu; subst hu; rfl
      | i + 5 => simp [gL] at hu
    | j + 1 => simp [St.made] at hj
  · have hj8 : j < 8 := by have := (List.getElem?_eq_some_iff.1 hj).1; simpa [St.made] using this
    have hx : x = nilPr := by
      have : x ∈ List.replicate 8 nilPr := List.mem_of_getElem? hj
      exact List.eq_of_mem_replicate this
    subst hx
    have hi : i < 13 := by have := (List.getElem?_eq_some_iff.1 hu).1; simpa [pL] using this
    have hu0 : u = .int .i64 0 := by
      obtain rfl | rfl | rfl | rfl | rfl | rfl | rfl | rfl | rfl | rfl | rfl | rfl | rfl : i = 0 ∨ i = 1 ∨ i = 2 ∨ i = 3 ∨ i = 4 ∨ i = 5 ∨ i = 6 ∨ i = 7 ∨ i = 8 ∨ i = 9 ∨ i = 10 ∨ i = 11 ∨ i = 12 := by omega
      all_goals
        simp [pL, nilPr] at hu; exact hu.symm
    subst hu0
    refine blk_cell hq _ _ ?_
    have h1 : 0 + j * 13 + i < 104 := by omega
    simp only [madeCells, Array.getElem?_map, Array.getElem?_range, h1]
    have h2 : (0 + j * 13 + i) % 13 = i := by omega
    simp only [if_true, Option.map_some, Option.some.injEq]
    show (#[Value.int .i64 0, .int .i64 0, .int .i64 0, .int .i64 0, .int .i64 0, .int .i64 0, .int .i64 0, .int .i64 0, .int .i64 0, .int .i64 0, .int .i64 0, .int .i64 0, .int .i64 0])[(0 + j * 13 + i) % 13]! = _
    rw [h2]
    obtain rfl | rfl | rfl | rfl | rfl | rfl | rfl | rfl | rfl | rfl | rfl | rfl | rfl : i = 0 ∨ i = 1 ∨ i = 2 ∨ i = 3 ∨ i = 4 ∨ i = 5 ∨ i = 6 ∨ i = 7 ∨ i = 8 ∨ i = 9 ∨ i = 10 ∨ i = 11 ∨ i = 12 := by omega
    all_goals rfl
  · match j with
    | 0 => simp [St.made] at hj; subst hj; exact blk_cell hl _ _ rfl
    | j + 1 => simp [St.made] at hj
  · have : x = nilPr := List.eq_of_mem_replicate (show x ∈ List.replicate 8 nilPr from hx)
    subst this
    rfl
theorem make_ps (w : World) : (Instr.makeSlice 40 (.int .i64 8) (.int .i64 8)).run Try.prog w = .ok (.slice (some ⟨w.heap.size, 0, none⟩) 8 8) (w.alloc (.cells (madeCells #[.int .i64 0, .int .i64 0, .int .i64 0, .int .i64 0, .int .i64 0, .int .i64 0, .int .i64 0, .int .i64 0, .int .i64 0, .int .i64 0, .int .i64 0, .int .i64 0, .int .i64 0] 104) 77)) := by
  obtain ⟨i0, I0, I1, I2, I3⟩ := info_parts Try.infoP
  have := run_make (P := Try.prog) w 40 77 i0 (.agg #[.int .i64 0, .int .i64 0, .int .i64 0, .int .i64 0, .int .i64 0, .int .i64 0, .int .i64 0, .int .i64 0, .int .i64 0, .int .i64 0, .int .i64 0, .int .i64 0, .int .i64 0]) Try.underlying40 I0 I1 .i64 .i64 8 8 (by omega) (by omega) (by rw [I3]; decide) (by omega)
  rw [I2] at this
  exact this
theorem St.new_no {p : List (List (Int × Int))} {n : Int} (h : ¬ (Pg.may p = true ∧ 1 ≤ n ∧ n ≤ 8)) : St.new p n = (St.nil, 1) := if_neg h
theorem St.new_yes {p : List (List (Int × Int))} {n : Int} (h : Pg.may p = true ∧ 1 ≤ n ∧ n ≤ 8) : St.new p n = (St.made p n, 0) := if_pos h
set_option maxRecDepth 100000 in
set_option maxHeartbeats 8000000 in
theorem rNew_any (v : Value) (p : List (List (Int × Int))) (n : Int) (r : St × Int) (hr : St.new p n = r) (w : World) (h : NestAt 2 pairL w v p) (h1 : p.length ≤ 100000) (h2 : ∀ l ∈ p, l.length ≤ 100000) :
    Calls Try.prog 21 #[v, .int .i64 n] w fun e w' => ∃ h', e = .returned (.tuple #[stV h' r.1, .int .i64 r.2]) ∧ StOk w' h' r.1 ∧ Ext w w' := by
  subst hr
  have H := Lib.hid h
  obtain ⟨A, c, rfl⟩ := h.form2
  obtain ⟨w1, hw1⟩ : ∃ w1, w.alloc (.cells #[.slice none 0 0, .slice none 0 0, .slice none 0 0, .slice none 0 0, .slice none 0 0, .int .i64 0, .int .i64 0, .int .i64 0, .int .i64 0, .slice none 0 0, .slice none 0 0, .slice none 0 0, .slice none 0 0, .slice none 0 0, .int .i64 0, .int .i64 0] 47) = w1 := ⟨_, rfl⟩
  obtain ⟨R, hR⟩ : ∃ R, w.heap.size = R := ⟨_, rfl⟩
  have hx1 : Ext w w1 := by rw [← hw1]; exact (Ext.refl w).alloc _
  have HX1 := Lib.hid hx1
  have HR1 : Hid (w1.heap[R]? = some (.cells #[.slice none 0 0, .slice none 0 0, .slice none 0 0, .slice none 0 0, .slice none 0 0, .int .i64 0, .int .i64 0, .int .i64 0, .int .i64 0, .slice none 0 0, .slice none 0 0, .slice none 0 0, .slice none 0 0, .slice none 0 0, .int .i64 0, .int .i64 0] 47 (0, 0))) := Lib.hid (by rw [← hw1, ← hR]; exact blk_new w _)
  obtain ⟨bp, hbp⟩ : ∃ bp, Pg.may p = bp := ⟨_, rfl⟩
  have HBP := Lib.hid hbp
  have HPM := Lib.hid (rpmay_any _ p bp hbp w1 (h.ext hx1) h1 h2)
  have HW1 := Lib.hid hw1
  have HRR := Lib.hid hR
  clear h hw1 hR hx1 hbp h2
  go_enter Try.func21, Try.ntmps21
  go_wp2_with (rw [HW1.out])
  refine HPM.out.mono ?_
  rintro e w3 ⟨rfl, hx3⟩
  rw [HRR.out]
  have HX3 := Lib.hid (HX1.out.trans hx3)
  have HR3 := Lib.hid (hx3.blk HR1.out)
  clear hx3
  by_cases hok : Pg.may p = true ∧ 1 ≤ n ∧ n ≤ 8
  rotate_left 1
  · skip
    obtain ⟨wf, hwf⟩ : ∃ wf, w3.setCells R 0 (stL StH.nil St.nil) = wf := ⟨_, rfl⟩
    have HWF := Lib.hid hwf
    have HUF : Hid (Upd R w3 wf) := Lib.hid (by rw [← hwf]; exact setCells_upd _ _ _ _)
    have HRZ : Hid (wf.heap[R]? = some (.cells (stL StH.nil St.nil).toArray 47 (0, 0))) := Lib.hid (by rw [← hwf]; exact setCells_at [.slice none 0 0, .slice none 0 0, .slice none 0 0, .slice none 0 0, .slice none 0 0, .int .i64 0, .int .i64 0, .int .i64 0, .int .i64 0, .slice none 0 0, .slice none 0 0, .slice none 0 0, .slice none 0 0, .slice none 0 0, .int .i64 0, .int .i64 0] (stL StH.nil St.nil) rfl HR3.out)
    have HTH : Hid (w3.there R 0 (stL StH.nil St.nil).length) := Lib.hid (there_row HR3.out (Nat.le_refl 16))
    have HXZ : Hid (Ext w wf) := Lib.hid (HX3.out.upd HUF.out (by have := HRR.out; omega))
    clear hwf
    cases bp with
    | false =>
      have HN : Hid (St.new p n = (St.nil, 1)) := Lib.hid (St.new_no (by intro h; have h1 := HBP.out; have h2 := h.1; simp_all <;> omega))
      go_wp2_with (refine wpList_store_row rfl 47 _ _ rfl R (stL StH.nil St.nil) (stV StH.nil St.nil) rfl rfl rfl HTH.out (by kernel_rfl) (stL_one _ _) HWF.out ?_)
      refine bodyPost_cell_tmp rfl R _ _ _ _ rfl HRZ.out Try.underlying47 rfl (by kernel_rfl) (.int .i64 1) rfl rfl ?_
      rw [HN.out]
      exact ⟨StH.nil, rfl, StOk.nil _, HXZ.out⟩
    | true =>
      by_cases a1 : n < 1
      · skip
        have HN : Hid (St.new p n = (St.nil, 1)) := Lib.hid (St.new_no (by intro h; have h1 := HBP.out; have h2 := h.1; simp_all <;> omega))
        go_wp2_with (refine wpList_store_row rfl 47 _ _ rfl R (stL StH.nil St.nil) (stV StH.nil St.nil) rfl rfl rfl HTH.out (by kernel_rfl) (stL_one _ _) HWF.out ?_)
        refine bodyPost_cell_tmp rfl R _ _ _ _ rfl HRZ.out Try.underlying47 rfl (by kernel_rfl) (.int .i64 1) rfl rfl ?_
        rw [HN.out]
        exact ⟨StH.nil, rfl, StOk.nil _, HXZ.out⟩
      · have a2 : 8 < n := by have := HBP.out; first | (simp_all; done) | (simp_all; omega)
        have a1' : decide (n < 1) = false := by simpa using a1
        clear hok a1
        have HN : Hid (St.new p n = (St.nil, 1)) := Lib.hid (St.new_no (by intro h; have h1 := HBP.out; have h2 := h.1; simp_all <;> omega))
        go_wp2_with (refine wpList_store_row rfl 47 _ _ rfl R (stL StH.nil St.nil) (stV StH.nil St.nil) rfl rfl rfl HTH.out (by kernel_rfl) (stL_one _ _) HWF.out ?_)
        refine bodyPost_cell_tmp rfl R _ _ _ _ rfl HRZ.out Try.underlying47 rfl (by kernel_rfl) (.int .i64 1) rfl rfl ?_
        rw [HN.out]
        exact ⟨StH.nil, rfl, StOk.nil _, HXZ.out⟩
  · obtain rfl : bp = true := by rw [← HBP.out]; exact hok.1
    have HN : Hid (St.new p n = (St.made p n, 0)) := Lib.hid (St.new_yes hok)
    have a1 : 1 ≤ n := hok.2.1
    have a2 : n ≤ 8 := hok.2.2
    obtain ⟨w4, hw4⟩ : ∃ w4, w3.alloc (.cells #[.int .i64 0, .int .i64 0, .int .i64 1, .int .i64 0, .int .i64 0] 72) = w4 := ⟨_, rfl⟩
    obtain ⟨w5, hw5⟩ : ∃ w5, w4.alloc (.cells (madeCells #[.int .i64 0, .int .i64 0, .int .i64 0, .int .i64 0, .int .i64 0, .int .i64 0, .int .i64 0, .int .i64 0, .int .i64 0, .int .i64 0, .int .i64 0, .int .i64 0, .int .i64 0] 104) 77) = w5 := ⟨_, rfl⟩
    obtain ⟨w6, hw6⟩ : ∃ w6, w5.alloc (.cells #[.int .i64 1] 3) = w6 := ⟨_, rfl⟩
    obtain ⟨g, hg⟩ : ∃ g, w3.heap.size = g := ⟨_, rfl⟩
    obtain ⟨q, hq⟩ : ∃ q, w4.heap.size = q := ⟨_, rfl⟩
    obtain ⟨l, hl⟩ : ∃ l, w5.heap.size = l := ⟨_, rfl⟩
    have hx4 : Ext w3 w4 := by rw [← hw4]; exact (Ext.refl _).alloc _
    have hx5 : Ext w4 w5 := by rw [← hw5]; exact (Ext.refl _).alloc _
    have hx6 : Ext w5 w6 := by rw [← hw6]; exact (Ext.refl _).alloc _
    have hg4 : w4.heap[g]? = some (.cells #[.int .i64 0, .int .i64 0, .int .i64 1, .int .i64 0, .int .i64 0] 72 (0, 0)) := by rw [← hw4, ← hg]; exact blk_new w3 _
    have hq5 : w5.heap[q]? = some (.cells (madeCells #[.int .i64 0, .int .i64 0, .int .i64 0, .int .i64 0, .int .i64 0, .int .i64 0, .int .i64 0, .int .i64 0, .int .i64 0, .int .i64 0, .int .i64 0, .int .i64 0, .int .i64 0] 104) 77 (0, 0)) := by rw [← hw5, ← hq]; exact blk_new w4 _
    have hl6 : w6.heap[l]? = some (.cells #[.int .i64 1] 3 (0, 0)) := by rw [← hw6, ← hl]; exact blk_new w5 _
    have HR6 : Hid (w6.heap[R]? = some (.cells #[.slice none 0 0, .slice none 0 0, .slice none 0 0, .slice none 0 0, .slice none 0 0, .int .i64 0, .int .i64 0, .int .i64 0, .int .i64 0, .slice none 0 0, .slice none 0 0, .slice none 0 0, .slice none 0 0, .slice none 0 0, .int .i64 0, .int .i64 0] 47 (0, 0))) := Lib.hid ((hx4.trans (hx5.trans hx6)).blk HR3.out)
    have HX6 : Hid (Ext w w6) := Lib.hid (HX3.out.trans (hx4.trans (hx5.trans hx6)))
    have hmk := make_ps w4
    rw [hw5, hq] at hmk
    obtain ⟨wf, hwf⟩ : ∃ wf, w6.setCells R 0 (stL (StH.made A c g q l) (St.made p n)) = wf := ⟨_, rfl⟩
    have HWF := Lib.hid hwf
    have hRlt : R < w3.heap.size := blk_lt HR3.out
    have hu : Upd R w6 wf := by rw [← hwf]; exact setCells_upd _ _ _ _
    have HRZ : Hid (wf.heap[R]? = some (.cells (stL (StH.made A c g q l) (St.made p n)).toArray 47 (0, 0))) := Lib.hid (by rw [← hwf]; exact setCells_at [.slice none 0 0, .slice none 0 0, .slice none 0 0, .slice none 0 0, .slice none 0 0, .int .i64 0, .int .i64 0, .int .i64 0, .int .i64 0, .slice none 0 0, .slice none 0 0, .slice none 0 0, .slice none 0 0, .slice none 0 0, .int .i64 0, .int .i64 0] (stL (StH.made A c g q l) (St.made p n)) rfl HR6.out)
    have HTH : Hid (w6.there R 0 (stL (StH.made A c g q l) (St.made p n)).length) := Lib.hid (there_row HR6.out (Nat.le_refl 16))
    have HXZ : Hid (Ext w wf) := Lib.hid (HX6.out.upd hu (by have := HRR.out; omega))
    have HSZ : Hid (R < g ∧ R < q ∧ R < l) := Lib.hid (by have := hx4.size; have := hx5.size; omega)
    have HOK : Hid (StOk wf (StH.made A c g q l) (St.made p n)) := Lib.hid (by
      have hz := HSZ.out
      exact StOk.made (H.out.ext HXZ.out) (hu.blk ((hx5.trans hx6).blk hg4) (by omega)) (hu.blk (hx6.blk hq5) (by omega)) (hu.blk hl6 (by omega)))
    have HW4 := Lib.hid hw4
    have HW6 := Lib.hid hw6
    have HGQ : Hid (w3.heap.size = g ∧ w5.heap.size = l) := Lib.hid ⟨hg, hl⟩
    clear hw4 hw5 hw6 hg hq hl hx4 hx5 hx6 hg4 hq5 hl6 hwf hRlt hu hok
    go_wp2_with (first | rw [HW4.out, HGQ.out.1] | rw [HW6.out, HGQ.out.2] | (refine wpList_store_row rfl 47 _ _ rfl R (stL (StH.made A c g q l) (St.made p n)) (stV (StH.made A c g q l) (St.made p n)) rfl rfl rfl HTH.out (by kernel_rfl) (stL_one _ _) HWF.out ?_))
    refine bodyPost_cell_tmp rfl R _ _ _ _ rfl HRZ.out Try.underlying47 rfl (by kernel_rfl) (.int .i64 0) rfl rfl ?_
    rw [HN.out]
    exact ⟨StH.made A c g q l, rfl, HOK.out, HXZ.out⟩
section
variable {P : Program}
end
theorem st_box (wa : World) (h : StH) (s : St) : ∃ wb wc, wa.alloc (.cells #[.slice none 0 0, .slice none 0 0, .slice none 0 0, .slice none 0 0, .slice none 0 0, .int .i64 0, .int .i64 0, .int .i64 0, .int .i64 0, .slice none 0 0, .slice none 0 0, .slice none 0 0, .slice none 0 0, .slice none 0 0, .int .i64 0, .int .i64 0] 47) = wb ∧ wb.setCells wa.heap.size 0 (stL h s) = wc ∧ wb.there wa.heap.size 0 (stL h s).length ∧ wc.heap[wa.heap.size]? = some (.cells (stC h s) 47 (0, 0)) ∧ Ext wa wc := by
  have hb := blk_new wa (.cells #[.slice none 0 0, .slice none 0 0, .slice none 0 0, .slice none 0 0, .slice none 0 0, .int .i64 0, .int .i64 0, .int .i64 0, .int .i64 0, .slice none 0 0, .slice none 0 0, .slice none 0 0, .slice none 0 0, .slice none 0 0, .int .i64 0, .int .i64 0] 47)
  refine ⟨_, _, rfl, rfl, there_row hb (Nat.le_refl 16), setCells_at [.slice none 0 0, .slice none 0 0, .slice none 0 0, .slice none 0 0, .slice none 0 0, .int .i64 0, .int .i64 0, .int .i64 0, .int .i64 0, .slice none 0 0, .slice none 0 0, .slice none 0 0, .slice none 0 0, .slice none 0 0, .int .i64 0, .int .i64 0] (stL h s) rfl hb, ?_⟩
  exact ((Ext.refl wa).alloc _).upd (setCells_upd _ _ _ _) (Nat.le_refl _)
theorem nest_one {w : World} {b g n : Nat} {l : List (Int × Int)} (hg : w.heap[g]? = some (.cells #[.slice (some ⟨b, 0, none⟩) n n] 58 (0, 0))) (hr : RowsAt 2 pairL w (.slice (some ⟨b, 0, none⟩) n n) l) : NestAt 2 pairL w (.slice (some ⟨g, 0, none⟩) 1 1) [l] := by
  refine ⟨[.slice (some ⟨b, 0, none⟩) n n], rfl, ⟨_, _, rfl, Nat.le_refl 1, fun _ => ⟨g, 0, rfl, blk_lt hg, fun j x hj i u hu => ?_⟩⟩, fun i u xs hu hx => ?_⟩
  · match j, i with
    | 0, 0 => simp at hj; subst hj; simp [oneL] at hu; subst hu; exact blk_cell hg _ _ rfl
    | 0, i + 1 => simp [oneL] at hu
    | j + 1, _ => simp at hj
  · match i with
    | 0 => simp at hu hx; subst hu hx; exact hr
    | i + 1 => simp at hu
open Go.RowKit Go.Maps
set_option maxRecDepth 100000 in
set_option maxHeartbeats 1000000 in
theorem rsnsame_out (time time' : Int) (ps qs : List (Int × Int)) (gs hs : List Gs4) (A B A' B' : Option Addr) (c d c' d' : Nat) (w : World) (h : time ≠ time' ∨ (time = time' ∧ (ps.length ≠ qs.length ∨ (ps.length = qs.length ∧ gs.length ≠ hs.length)))) :
    Calls Try.prog 14 #[.agg #[.int .i64 time, .slice A ps.length c, .slice B gs.length d], .agg #[.int .i64 time', .slice A' qs.length c', .slice B' hs.length d']] w fun e w' => e = .returned (.bool false) ∧ Ext w w' := by
  rcases h with h | ⟨h, h1 | ⟨h1, h2⟩⟩
  · have e1 : (time != time') = true := by simp [h]
    clear h
    go_enter Try.func14, Try.ntmps14
    go_wp2
    go_ret
    exact ⟨rfl, ((Ext.refl w).alloc _).alloc _⟩
  · have e1 : (time != time') = false := by simp [h]
    have e2 : ((ps.length : Int) != (qs.length : Int)) = true := by simp; omega
    clear h h1
    go_enter Try.func14, Try.ntmps14
    go_wp2
    go_ret
    exact ⟨rfl, ((Ext.refl w).alloc _).alloc _⟩
  · have e1 : (time != time') = false := by simp [h]
    have e2 : ((ps.length : Int) != (qs.length : Int)) = false := by simp; omega
    have e3 : ((gs.length : Int) != (hs.length : Int)) = true := by simp; omega
    clear h h1 h2
    go_enter Try.func14, Try.ntmps14
    go_wp2
    go_ret
    exact ⟨rfl, ((Ext.refl w).alloc _).alloc _⟩
open Go.RowKit Go.Maps
set_option maxRecDepth 100000 in
set_option maxHeartbeats 1000000 in
theorem rsnsame_in (time : Int) (ps qs : List (Int × Int)) (gs hs : List Gs4) (A B A' B' : Option Addr) (c d c' d' : Nat) (w : World) (hp1 : ps.length = qs.length) (hg1 : gs.length = hs.length)
    (h1 : RowsAt 2 snPCells w (.slice A ps.length c) ps) (h2 : RowsAt 2 snPCells w (.slice A' qs.length c') qs) (h3 : RowsAt 4 snGCells w (.slice B gs.length d) gs) (h4 : RowsAt 4 snGCells w (.slice B' hs.length d') hs) (r : Bool) (hr : decide (ps = qs ∧ gs = hs) = r) (hsml : ps.length ≤ 10000) (hsmg : gs.length ≤ 10000) :
    Calls Try.prog 14 #[.agg #[.int .i64 time, .slice A ps.length c, .slice B gs.length d], .agg #[.int .i64 time, .slice A' qs.length c', .slice B' hs.length d']] w fun e w' => e = .returned (.bool r) ∧ Ext w w' := by
  obtain ⟨_, _, hv, _, hA⟩ := h1
  simp only [Value.slice.injEq, true_and] at hv
  obtain ⟨rfl, rfl⟩ := hv
  obtain ⟨_, _, hv, _, hA'⟩ := h2
  simp only [Value.slice.injEq, true_and] at hv
  obtain ⟨rfl, rfl⟩ := hv
  obtain ⟨_, _, hv, _, hD⟩ := h3
  simp only [Value.slice.injEq, true_and] at hv
  obtain ⟨rfl, rfl⟩ := hv
  obtain ⟨_, _, hv, _, hD'⟩ := h4
  simp only [Value.slice.injEq, true_and] at hv
  obtain ⟨rfl, rfl⟩ := hv
  have HD := Lib.hid hD
  have HD' := Lib.hid hD'
  have HG1 := Lib.hid hg1
  have HA := Lib.hid hA
  have HA' := Lib.hid hA'
  have HR := Lib.hid hr
  have HP1 := Lib.hid hp1
  have HBX := Lib.hid (blk_alloc (blk_new w (.cells #[.int .i64 time, .slice A ps.length c, .slice B gs.length d] 25)) (.cells #[.int .i64 time, .slice A' qs.length c', .slice B' hs.length d'] 25))
  have HBY : Hid (((w.alloc (.cells #[.int .i64 time, .slice A ps.length c, .slice B gs.length d] 25)).alloc (.cells #[.int .i64 time, .slice A' qs.length c', .slice B' hs.length d'] 25)).heap[w.heap.size + 1]? = some (.cells #[.int .i64 time, .slice A' qs.length c', .slice B' hs.length d'] 25 (0, 0))) := Lib.hid (by have := blk_new (w.alloc (.cells #[.int .i64 time, .slice A ps.length c, .slice B gs.length d] 25)) (.cells #[.int .i64 time, .slice A' qs.length c', .slice B' hs.length d'] 25); rwa [World.size_alloc] at this)
  have HX0 : Hid (Ext w ((w.alloc (.cells #[.int .i64 time, .slice A ps.length c, .slice B gs.length d] 25)).alloc (.cells #[.int .i64 time, .slice A' qs.length c', .slice B' hs.length d'] 25))) := Lib.hid (((Ext.refl w).alloc _).alloc _)
  have e2 : ((ps.length : Int) != (qs.length : Int)) = false := by simp; omega
  have e3 : ((gs.length : Int) != (hs.length : Int)) = false := by simp; omega
  clear hA hA' hD hD' hr hp1 hg1
  go_enter Try.func14, Try.ntmps14
  go_wp2
  generalize hw2 : (w.alloc (.cells #[.int .i64 time, .slice A ps.length c, .slice B gs.length d] 25)).alloc (.cells #[.int .i64 time, .slice A' qs.length c', .slice B' hs.length d'] 25) = w2 at *
  clear hw2
  go_loopw [5] (fun iv wr => ∃ k : Nat, k ≤ ps.length ∧ iv = .int .i64 k ∧ Hid (ps.take k = qs.take k) ∧ Ext w2 wr) (fun iv _ => ps.length - (intOf iv).toNat)
  case atStart => exact ⟨0, by omega, rfl, Lib.hid (by simp), Ext.refl _⟩
  case round =>
    obtain ⟨k, hk, rfl, HEQ, hx⟩ := hrel
    have HX := Lib.hid hx
    have p1 := blk_cell (hx.blk HBX.out) 1 (.slice A ps.length c) rfl
    clear hx
    by_cases hlt : k < ps.length
    · have hlt2 : k < qs.length := by have := HP1.out; omega
      obtain ⟨bb, o, rfl, hbb, hcell⟩ := HA.out (by omega)
      obtain ⟨bb', o', rfl, hbb', hcell'⟩ := HA'.out (by omega)
      have h0 := hcell k ps[k] (List.getElem?_eq_getElem hlt)
      have h0' := hcell' k qs[k] (List.getElem?_eq_getElem hlt2)
      have HT : Hid (ps.take (k + 1) = ps.take k ++ [ps[k]]) := Lib.hid (by rw [List.take_succ_eq_append_getElem hlt])
      have HT' : Hid (qs.take (k + 1) = qs.take k ++ [qs[k]]) := Lib.hid (by rw [List.take_succ_eq_append_getElem hlt2])
      have HNE : Hid (ps[k] ≠ qs[k] → r = false) := Lib.hid fun hne => by
        rw [← HR.out]
        exact decide_eq_false fun hh => hne (by
          have h3 := congrArg (·[k]?) hh.1
          simp only [List.getElem?_eq_getElem hlt, List.getElem?_eq_getElem hlt2, Option.some.injEq] at h3
          exact h3)
      generalize ps[k] = x at *
      generalize qs[k] = y at *
      obtain ⟨x0, x1⟩ := x
      obtain ⟨y0, y1⟩ := y
      have HC : Hid (∀ v, Ext wr v → v.cell? ⟨bb, o + k * 2, none⟩ = some (.int .i64 x0) ∧ v.cell? ⟨bb, o + k * 2 + 1, none⟩ = some (.int .i64 x1)) := Lib.hid fun v hv => by
        have hxx := HX0.out.trans (HX.out.trans hv)
        exact ⟨by rw [Below.cell hxx hbb]; exact h0 0 _ rfl, by rw [Below.cell hxx hbb]; exact h0 1 _ rfl⟩
      have HC' : Hid (∀ v, Ext wr v → v.cell? ⟨bb', o' + k * 2, none⟩ = some (.int .i64 y0) ∧ v.cell? ⟨bb', o' + k * 2 + 1, none⟩ = some (.int .i64 y1)) := Lib.hid fun v hv => by
        have hxx := HX0.out.trans (HX.out.trans hv)
        exact ⟨by rw [Below.cell hxx hbb']; exact h0' 0 _ rfl, by rw [Below.cell hxx hbb']; exact h0' 1 _ rfl⟩
      have i0 : (0 : Int) ≤ (k : Int) := by omega
      have i1 : (k : Int) < (ps.length : Int) := by omega
      have i2 : (k : Int) < (qs.length : Int) := by omega
      clear hcell hcell' h0 h0'
      by_cases hxy : x0 = y0 ∧ x1 = y1
      · have hq : ∀ w, (Op.equalIn 10000 66 (.agg #[.int .i64 x0, .int .i64 x1]) (.agg #[.int .i64 y0, .int .i64 y1])).run Try.prog w = .ok true w := fun w => by have := run_eqP x0 x1 y0 y1 w; rw [decide_eq_true (by simp [hxy])] at this; exact this
        have HEN : Hid (ps.take (k + 1) = qs.take (k + 1)) := Lib.hid (by rw [HT.out, HT'.out, HEQ.out, hxy.1, hxy.2])
        clear hxy
        go_wp2
        clear p1
        refine region_rgx ([]) (wr) (by kernel_rfl) (by kernel_rfl) ?_ ?_ ?_
        · exact List.forall_mem_nil _
        · first | assumption | exact Ext.refl _
        refine rg_pure (v := ?_) rfl (by kernel_rfl) (by kernel_rfl) (fun w hS hN => ?_) ?_
        rotate_left 1
        · clear hN
          go_simp
          refine givesP_mk ?_
          with_reducible rfl
        refine rg_pure (v := ?_) rfl (by kernel_rfl) (by kernel_rfl) (fun w hS hN => ?_) ?_
        rotate_left 1
        · have k1 := blk_cell ((HX.out.trans hS).blk HBX.out) 1 (.slice (some ⟨bb, o, none⟩) ps.length c) rfl
          clear hN
          go_simp
          refine givesP_mk ?_
          with_reducible rfl
        refine rg_pure (v := ?_) rfl (by kernel_rfl) (by kernel_rfl) (fun w hS hN => ?_) ?_
        rotate_left 1
        · clear hN
          go_simp
          refine givesP_mk ?_
          with_reducible rfl
        refine rg_pure (v := ?_) rfl (by kernel_rfl) (by kernel_rfl) (fun w hS hN => ?_) ?_
        rotate_left 1
        · clear hN
          go_simp
          refine givesP_mk ?_
          with_reducible rfl
        refine rg_pure (v := ?_) rfl (by kernel_rfl) (by kernel_rfl) (fun w hS hN => ?_) ?_
        rotate_left 1
        · obtain ⟨k1, k2⟩ := HC.out w hS
          clear hN
          go_simp
          refine givesP_mk ?_
          with_reducible rfl
        refine rg_pure (v := ?_) rfl (by kernel_rfl) (by kernel_rfl) (fun w hS hN => ?_) ?_
        rotate_left 1
        · clear hN
          go_simp
          refine givesP_mk ?_
          with_reducible rfl
        refine rg_pure (v := ?_) rfl (by kernel_rfl) (by kernel_rfl) (fun w hS hN => ?_) ?_
        rotate_left 1
        · have k1 := blk_cell ((HX.out.trans hS).blk HBY.out) 1 (.slice (some ⟨bb', o', none⟩) qs.length c') rfl
          clear hN
          go_simp
          refine givesP_mk ?_
          with_reducible rfl
        refine rg_pure (v := ?_) rfl (by kernel_rfl) (by kernel_rfl) (fun w hS hN => ?_) ?_
        rotate_left 1
        · clear hN
          go_simp
          refine givesP_mk ?_
          with_reducible rfl
        refine rg_pure (v := ?_) rfl (by kernel_rfl) (by kernel_rfl) (fun w hS hN => ?_) ?_
        rotate_left 1
        · clear hN
          go_simp
          refine givesP_mk ?_
          with_reducible rfl
        refine rg_pure (v := ?_) rfl (by kernel_rfl) (by kernel_rfl) (fun w hS hN => ?_) ?_
        rotate_left 1
        · obtain ⟨k1, k2⟩ := HC'.out w hS
          clear hN
          go_simp
          refine givesP_mk ?_
          with_reducible rfl
        refine rg_pure (v := ?_) rfl (by kernel_rfl) (by kernel_rfl) (fun w hS hN => ?_) ?_
        rotate_left 1
        · clear hN
          go_simp
          refine givesP_mk ?_
          with_reducible rfl
        refine rg_done rfl (Nat.le_of_ble_eq_true (by kernel_rfl)) ?_
        intro w8 hS hT
        have HX8 := Lib.hid (HX.out.trans hS)
        clear hT hS hq
        go_simp
        go_wp2
        go_roundw
        case rel => exact ⟨k + 1, by omega, by go_num, HEN, HX8.out⟩
        case measure => simp [intOf]; omega
      · have hq : ∀ w, (Op.equalIn 10000 66 (.agg #[.int .i64 x0, .int .i64 x1]) (.agg #[.int .i64 y0, .int .i64 y1])).run Try.prog w = .ok false w := fun w => by have := run_eqP x0 x1 y0 y1 w; rw [decide_eq_false (by simp only [List.cons.injEq, and_true]; exact hxy)] at this; exact this
        obtain rfl := HNE.out (by simp only [ne_eq, Prod.mk.injEq]; exact hxy)
        clear hxy
        go_wp2
        clear p1
        refine region_rgx ([]) (wr) (by kernel_rfl) (by kernel_rfl) ?_ ?_ ?_
        · exact List.forall_mem_nil _
        · first | assumption | exact Ext.refl _
        refine rg_pure (v := ?_) rfl (by kernel_rfl) (by kernel_rfl) (fun w hS hN => ?_) ?_
        rotate_left 1
        · clear hN
          go_simp
          refine givesP_mk ?_
          with_reducible rfl
        refine rg_pure (v := ?_) rfl (by kernel_rfl) (by kernel_rfl) (fun w hS hN => ?_) ?_
        rotate_left 1
        · have k1 := blk_cell ((HX.out.trans hS).blk HBX.out) 1 (.slice (some ⟨bb, o, none⟩) ps.length c) rfl
          clear hN
          go_simp
          refine givesP_mk ?_
          with_reducible rfl
        refine rg_pure (v := ?_) rfl (by kernel_rfl) (by kernel_rfl) (fun w hS hN => ?_) ?_
        rotate_left 1
        · clear hN
          go_simp
          refine givesP_mk ?_
          with_reducible rfl
        refine rg_pure (v := ?_) rfl (by kernel_rfl) (by kernel_rfl) (fun w hS hN => ?_) ?_
        rotate_left 1
        · clear hN
          go_simp
          refine givesP_mk ?_
          with_reducible rfl
        refine rg_pure (v := ?_) rfl (by kernel_rfl) (by kernel_rfl) (fun w hS hN => ?_) ?_
        rotate_left 1
        · obtain ⟨k1, k2⟩ := HC.out w hS
          clear hN
          go_simp
          refine givesP_mk ?_
          with_reducible rfl
        refine rg_pure (v := ?_) rfl (by kernel_rfl) (by kernel_rfl) (fun w hS hN => ?_) ?_
        rotate_left 1
        · clear hN
          go_simp
          refine givesP_mk ?_
          with_reducible rfl
        refine rg_pure (v := ?_) rfl (by kernel_rfl) (by kernel_rfl) (fun w hS hN => ?_) ?_
        rotate_left 1
        · have k1 := blk_cell ((HX.out.trans hS).blk HBY.out) 1 (.slice (some ⟨bb', o', none⟩) qs.length c') rfl
          clear hN
          go_simp
          refine givesP_mk ?_
          with_reducible rfl
        refine rg_pure (v := ?_) rfl (by kernel_rfl) (by kernel_rfl) (fun w hS hN => ?_) ?_
        rotate_left 1
        · clear hN
          go_simp
          refine givesP_mk ?_
          with_reducible rfl
        refine rg_pure (v := ?_) rfl (by kernel_rfl) (by kernel_rfl) (fun w hS hN => ?_) ?_
        rotate_left 1
        · clear hN
          go_simp
          refine givesP_mk ?_
          with_reducible rfl
        refine rg_pure (v := ?_) rfl (by kernel_rfl) (by kernel_rfl) (fun w hS hN => ?_) ?_
        rotate_left 1
        · obtain ⟨k1, k2⟩ := HC'.out w hS
          clear hN
          go_simp
          refine givesP_mk ?_
          with_reducible rfl
        refine rg_pure (v := ?_) rfl (by kernel_rfl) (by kernel_rfl) (fun w hS hN => ?_) ?_
        rotate_left 1
        · clear hN
          go_simp
          refine givesP_mk ?_
          with_reducible rfl
        refine rg_done rfl (Nat.le_of_ble_eq_true (by kernel_rfl)) ?_
        intro w8 hS hT
        have HX8 := Lib.hid (HX.out.trans hS)
        clear hT hS hq
        go_simp
        go_wp2
        go_ret
        exact ⟨rfl, HX0.out.trans HX8.out⟩
    · obtain rfl : k = ps.length := by omega
      have HPQ : Hid (ps = qs) := Lib.hid (by have h1 := HEQ.out; rw [List.take_length, HP1.out, List.take_length] at h1; exact h1)
      have HR2 : Hid (decide (gs = hs) = r) := Lib.hid (by rw [← HR.out]; congr 1; simp [HPQ.out])
      go_wp2
      clear p1
      go_loopw [6] (fun iv wz => ∃ k : Nat, k ≤ gs.length ∧ iv = .int .i64 k ∧ Hid (gs.take k = hs.take k) ∧ Ext w2 wz) (fun iv _ => gs.length - (intOf iv).toNat)
      case atStart => exact ⟨0, by omega, rfl, Lib.hid (by simp), HX.out⟩
      case round =>
        clear HX HEQ
        obtain ⟨k, hk, rfl, HEQ, hx⟩ := hrel
        have HX := Lib.hid hx
        have p2 := blk_cell (hx.blk HBX.out) 2 (.slice B gs.length d) rfl
        clear hx
        by_cases hlt : k < gs.length
        · have hlt2 : k < hs.length := by have := HG1.out; omega
          obtain ⟨bb, o, rfl, hbb, hcell⟩ := HD.out (by omega)
          obtain ⟨bb', o', rfl, hbb', hcell'⟩ := HD'.out (by omega)
          have h0 := hcell k gs[k] (List.getElem?_eq_getElem hlt)
          have h0' := hcell' k hs[k] (List.getElem?_eq_getElem hlt2)
          have HT : Hid (gs.take (k + 1) = gs.take k ++ [gs[k]]) := Lib.hid (by rw [List.take_succ_eq_append_getElem hlt])
          have HT' : Hid (hs.take (k + 1) = hs.take k ++ [hs[k]]) := Lib.hid (by rw [List.take_succ_eq_append_getElem hlt2])
          have HNE : Hid (gs[k] ≠ hs[k] → r = false) := Lib.hid fun hne => by
            rw [← HR2.out]
            exact decide_eq_false fun hh => hne (by
              have h3 := congrArg (·[k]?) hh
              simp only [List.getElem?_eq_getElem hlt, List.getElem?_eq_getElem hlt2, Option.some.injEq] at h3
              exact h3)
          generalize gs[k] = x at *
          generalize hs[k] = y at *
          obtain ⟨x0, x1, x2, x3⟩ := x
          obtain ⟨y0, y1, y2, y3⟩ := y
          have HC : Hid (∀ v, Ext wr v → v.cell? ⟨bb, o + k * 4, none⟩ = some (.int .i64 x0) ∧ v.cell? ⟨bb, o + k * 4 + 1, none⟩ = some (.int .i64 x1) ∧ v.cell? ⟨bb, o + k * 4 + 2, none⟩ = some (.int .i64 x2) ∧ v.cell? ⟨bb, o + k * 4 + 3, none⟩ = some (.int .i64 x3)) := Lib.hid fun v hv => by
            have hxx := HX0.out.trans (HX.out.trans hv)
            exact ⟨by rw [Below.cell hxx hbb]; exact h0 0 _ rfl, by rw [Below.cell hxx hbb]; exact h0 1 _ rfl, by rw [Below.cell hxx hbb]; exact h0 2 _ rfl, by rw [Below.cell hxx hbb]; exact h0 3 _ rfl⟩
          have HC' : Hid (∀ v, Ext wr v → v.cell? ⟨bb', o' + k * 4, none⟩ = some (.int .i64 y0) ∧ v.cell? ⟨bb', o' + k * 4 + 1, none⟩ = some (.int .i64 y1) ∧ v.cell? ⟨bb', o' + k * 4 + 2, none⟩ = some (.int .i64 y2) ∧ v.cell? ⟨bb', o' + k * 4 + 3, none⟩ = some (.int .i64 y3)) := Lib.hid fun v hv => by
            have hxx := HX0.out.trans (HX.out.trans hv)
            exact ⟨by rw [Below.cell hxx hbb']; exact h0' 0 _ rfl, by rw [Below.cell hxx hbb']; exact h0' 1 _ rfl, by rw [Below.cell hxx hbb']; exact h0' 2 _ rfl, by rw [Below.cell hxx hbb']; exact h0' 3 _ rfl⟩
          have i0 : (0 : Int) ≤ (k : Int) := by omega
          have i1 : (k : Int) < (gs.length : Int) := by omega
          have i2 : (k : Int) < (hs.length : Int) := by omega
          clear hcell hcell' h0 h0'
          by_cases hxy : x0 = y0 ∧ x1 = y1 ∧ x2 = y2 ∧ x3 = y3
          · have hq : ∀ w, (Op.equalIn 10000 51 (.agg #[.int .i64 x0, .int .i64 x1, .int .i64 x2, .int .i64 x3]) (.agg #[.int .i64 y0, .int .i64 y1, .int .i64 y2, .int .i64 y3])).run Try.prog w = .ok true w := fun w => by have := run_eqG x0 x1 x2 x3 y0 y1 y2 y3 w; rw [decide_eq_true (by simp [hxy])] at this; exact this
            have HEN : Hid (gs.take (k + 1) = hs.take (k + 1)) := Lib.hid (by rw [HT.out, HT'.out, HEQ.out, hxy.1, hxy.2.1, hxy.2.2.1, hxy.2.2.2])
            clear hxy
            go_wp2
            clear p2
            refine region_rgx ([]) (wr) (by kernel_rfl) (by kernel_rfl) ?_ ?_ ?_
            · exact List.forall_mem_nil _
            · first | assumption | exact Ext.refl _
            refine rg_pure (v := ?_) rfl (by kernel_rfl) (by kernel_rfl) (fun w hS hN => ?_) ?_
            rotate_left 1
            · clear hN
              go_simp
              refine givesP_mk ?_
              with_reducible rfl
            refine rg_pure (v := ?_) rfl (by kernel_rfl) (by kernel_rfl) (fun w hS hN => ?_) ?_
            rotate_left 1
            · have k1 := blk_cell ((HX.out.trans hS).blk HBX.out) 2 (.slice (some ⟨bb, o, none⟩) gs.length d) rfl
              clear hN
              go_simp
              refine givesP_mk ?_
              with_reducible rfl
            refine rg_pure (v := ?_) rfl (by kernel_rfl) (by kernel_rfl) (fun w hS hN => ?_) ?_
            rotate_left 1
            · clear hN
              go_simp
              refine givesP_mk ?_
              with_reducible rfl
            refine rg_pure (v := ?_) rfl (by kernel_rfl) (by kernel_rfl) (fun w hS hN => ?_) ?_
            rotate_left 1
            · clear hN
              go_simp
              refine givesP_mk ?_
              with_reducible rfl
            refine rg_pure (v := ?_) rfl (by kernel_rfl) (by kernel_rfl) (fun w hS hN => ?_) ?_
            rotate_left 1
            · obtain ⟨k1, k2, k3, k4⟩ := HC.out w hS
              clear hN
              go_simp
              refine givesP_mk ?_
              with_reducible rfl
            refine rg_pure (v := ?_) rfl (by kernel_rfl) (by kernel_rfl) (fun w hS hN => ?_) ?_
            rotate_left 1
            · clear hN
              go_simp
              refine givesP_mk ?_
              with_reducible rfl
            refine rg_pure (v := ?_) rfl (by kernel_rfl) (by kernel_rfl) (fun w hS hN => ?_) ?_
            rotate_left 1
            · have k1 := blk_cell ((HX.out.trans hS).blk HBY.out) 2 (.slice (some ⟨bb', o', none⟩) hs.length d') rfl
              clear hN
              go_simp
              refine givesP_mk ?_
              with_reducible rfl
            refine rg_pure (v := ?_) rfl (by kernel_rfl) (by kernel_rfl) (fun w hS hN => ?_) ?_
            rotate_left 1
            · clear hN
              go_simp
              refine givesP_mk ?_
              with_reducible rfl
            refine rg_pure (v := ?_) rfl (by kernel_rfl) (by kernel_rfl) (fun w hS hN => ?_) ?_
            rotate_left 1
            · clear hN
              go_simp
              refine givesP_mk ?_
              with_reducible rfl
            refine rg_pure (v := ?_) rfl (by kernel_rfl) (by kernel_rfl) (fun w hS hN => ?_) ?_
            rotate_left 1
            · obtain ⟨k1, k2, k3, k4⟩ := HC'.out w hS
              clear hN
              go_simp
              refine givesP_mk ?_
              with_reducible rfl
            refine rg_pure (v := ?_) rfl (by kernel_rfl) (by kernel_rfl) (fun w hS hN => ?_) ?_
            rotate_left 1
            · clear hN
              go_simp
              refine givesP_mk ?_
              with_reducible rfl
            refine rg_done rfl (Nat.le_of_ble_eq_true (by kernel_rfl)) ?_
            intro w8 hS hT
            have HX8 := Lib.hid (HX.out.trans hS)
            clear hT hS hq
            go_simp
            go_wp2
            go_roundw
            case rel => exact ⟨k + 1, by omega, by go_num, HEN, HX8.out⟩
            case measure => simp [intOf]; omega
          · have hq : ∀ w, (Op.equalIn 10000 51 (.agg #[.int .i64 x0, .int .i64 x1, .int .i64 x2, .int .i64 x3]) (.agg #[.int .i64 y0, .int .i64 y1, .int .i64 y2, .int .i64 y3])).run Try.prog w = .ok false w := fun w => by have := run_eqG x0 x1 x2 x3 y0 y1 y2 y3 w; rw [decide_eq_false (by simp only [List.cons.injEq, and_true]; exact hxy)] at this; exact this
            obtain rfl := HNE.out (by simp only [ne_eq, Prod.mk.injEq]; exact hxy)
            clear hxy
            go_wp2
            clear p2
            refine region_rgx ([]) (wr) (by kernel_rfl) (by kernel_rfl) ?_ ?_ ?_
            · exact List.forall_mem_nil _
            · first | assumption | exact Ext.refl _
            refine rg_pure (v := ?_) rfl (by kernel_rfl) (by kernel_rfl) (fun w hS hN => ?_) ?_
            rotate_left 1
            · clear hN
              go_simp
              refine givesP_mk ?_
              with_reducible rfl
            refine rg_pure (v := ?_) rfl (by kernel_rfl) (by kernel_rfl) (fun w hS hN => ?_) ?_
            rotate_left 1
            · have k1 := blk_cell ((HX.out.trans hS).blk HBX.out) 2 (.slice (some ⟨bb, o, none⟩) gs.length d) rfl
              clear hN
              go_simp
              refine givesP_mk ?_
              with_reducible rfl
            refine rg_pure (v := ?_) rfl (by kernel_rfl) (by kernel_rfl) (fun w hS hN => ?_) ?_
            rotate_left 1
            · clear hN
              go_simp
              refine givesP_mk ?_
              with_reducible rfl
            refine rg_pure (v := ?_) rfl (by kernel_rfl) (by kernel_rfl) (fun w hS hN => ?_) ?_
            rotate_left 1
            · clear hN
              go_simp
              refine givesP_mk ?_
              with_reducible rfl
            refine rg_pure (v := ?_) rfl (by kernel_rfl) (by kernel_rfl) (fun w hS hN => ?_) ?_
            rotate_left 1
            · obtain ⟨k1, k2, k3, k4⟩ := HC.out w hS
              clear hN
              go_simp
              refine givesP_mk ?_
              with_reducible rfl
            refine rg_pure (v := ?_) rfl (by kernel_rfl) (by kernel_rfl) (fun w hS hN => ?_) ?_
            rotate_left 1
            · clear hN
              go_simp
              refine givesP_mk ?_
              with_reducible rfl
            refine rg_pure (v := ?_) rfl (by kernel_rfl) (by kernel_rfl) (fun w hS hN => ?_) ?_
            rotate_left 1
            · have k1 := blk_cell ((HX.out.trans hS).blk HBY.out) 2 (.slice (some ⟨bb', o', none⟩) hs.length d') rfl
              clear hN
              go_simp
              refine givesP_mk ?_
              with_reducible rfl
            refine rg_pure (v := ?_) rfl (by kernel_rfl) (by kernel_rfl) (fun w hS hN => ?_) ?_
            rotate_left 1
            · clear hN
              go_simp
              refine givesP_mk ?_
              with_reducible rfl
            refine rg_pure (v := ?_) rfl (by kernel_rfl) (by kernel_rfl) (fun w hS hN => ?_) ?_
            rotate_left 1
            · clear hN
              go_simp
              refine givesP_mk ?_
              with_reducible rfl
            refine rg_pure (v := ?_) rfl (by kernel_rfl) (by kernel_rfl) (fun w hS hN => ?_) ?_
            rotate_left 1
            · obtain ⟨k1, k2, k3, k4⟩ := HC'.out w hS
              clear hN
              go_simp
              refine givesP_mk ?_
              with_reducible rfl
            refine rg_pure (v := ?_) rfl (by kernel_rfl) (by kernel_rfl) (fun w hS hN => ?_) ?_
            rotate_left 1
            · clear hN
              go_simp
              refine givesP_mk ?_
              with_reducible rfl
            refine rg_done rfl (Nat.le_of_ble_eq_true (by kernel_rfl)) ?_
            intro w8 hS hT
            have HX8 := Lib.hid (HX.out.trans hS)
            clear hT hS hq
            go_simp
            go_wp2
            go_ret
            exact ⟨rfl, HX0.out.trans HX8.out⟩
        · obtain rfl : k = gs.length := by omega
          obtain rfl : r = true := by rw [← HR2.out]; have h1 := HEQ.out; rw [List.take_length, HG1.out, List.take_length] at h1; exact decide_eq_true h1
          go_wp2
          go_ret
          exact ⟨rfl, HX0.out.trans HX.out⟩
theorem rsnsame_any (v u : Value) (s t : Sn) (w : World) (hs : SnAt w v s) (ht : SnAt w u t) (hp : s.ps.length ≤ 10000) (hg : s.gs.length ≤ 10000) (r : Bool) (hr : decide (s.time = t.time ∧ s.ps = t.ps ∧ s.gs = t.gs) = r) :
    Calls Try.prog 14 #[v, u] w fun e w' => e = .returned (.bool r) ∧ Ext w w' := by
  obtain ⟨A, c, B, d, rfl, h1, h3⟩ := hs
  obtain ⟨A', c', B', d', rfl, h2, h4⟩ := ht
  obtain ⟨time, ps, gs⟩ := s
  obtain ⟨time', qs, hs⟩ := t
  simp only at *
  by_cases h : time ≠ time' ∨ (time = time' ∧ (ps.length ≠ qs.length ∨ (ps.length = qs.length ∧ gs.length ≠ hs.length)))
  · obtain rfl : r = false := by
      rw [← hr]
      refine decide_eq_false fun hh => ?_
      obtain ⟨k1, k2, k3⟩ := hh
      subst k1 k2 k3
      simp at h
    exact rsnsame_out time time' ps qs gs hs A B A' B' c d c' d' w h
  · obtain rfl : time = time' := by
      by_cases ht : time = time'
      · exact ht
      · exact absurd (.inl ht) h
    have hpl : ps.length = qs.length := by
      by_cases hl : ps.length = qs.length
      · exact hl
      · exact absurd (.inr ⟨rfl, .inl hl⟩) h
    have hgl : gs.length = hs.length := by
      by_cases hl : gs.length = hs.length
      · exact hl
      · exact absurd (.inr ⟨rfl, .inr ⟨hpl, hl⟩⟩) h
    exact rsnsame_in time ps qs gs hs A B A' B' c d c' d' w hpl hgl h1 h2 h3 h4 r (by rw [← hr]; simp) hp hg
def snTwo : Sn := ⟨5, [(0, 0), (2, 4)], [(1, 2, 2, 0), (3, 3, 0, 7)]⟩
def snA : Sn := ⟨6, [(0, 0), (2, 4)], [(1, 2, 2, 0), (3, 1, 0, 8)]⟩
def snD : Sn := ⟨5, [(0, 0), (2, 4)], [(3, 3, 0, 7)]⟩
theorem fa_a : Md.app snTwo ⟨6, 2, 7, 3, 0, 7⟩ = some snA := by kernel_rfl
theorem fa_b : Md.app snTwo ⟨6, 2, 7, 3, 0, 6⟩ = none := by kernel_rfl
theorem fa_c : Md.app snTwo ⟨4, 2, 8, 1, 0, 0⟩ = none := by kernel_rfl
theorem fa_d : Md.app snTwo ⟨5, 2, 8, 1, 0, 0⟩ = some snD := by kernel_rfl
theorem fa_e : Md.app snTwo ⟨5, 1, 4, 3, 0, 7⟩ = none := by kernel_rfl
theorem fa_h : Md.has snTwo 2 = (2, 1) := by kernel_rfl
def fyS : St := St.made [[]] 1
def snF : Sn := ⟨0, List.replicate 8 (0, 0), [(1, 1, 0, 0)]⟩
theorem fy_new : St.new [[]] 1 = (fyS, 0) := St.new_yes (by decide +kernel)
theorem fy_of : Md.of fyS = snF := by unfold Md.of; rw [if_pos (by decide +kernel)]; rfl
theorem fy_few : StFew fyS := by
  refine ⟨?_, ?_, ?_, ?_, ?_, ?_, ?_, ?_⟩
  all_goals first | decide | (simp [fyS, St.made])
theorem SnApp.form {w w' : World} {o : Option Sn} {e : Ending} (h : SnApp w o e w') : ∃ A c B d, e = .returned (.tuple #[.agg #[.int .i64 (o.getD Md.zero).time, .slice A (o.getD Md.zero).ps.length c, .slice B (o.getD Md.zero).gs.length d], .bool o.isSome]) ∧ RowsAt 2 snPCells w' (.slice A (o.getD Md.zero).ps.length c) (o.getD Md.zero).ps ∧ RowsAt 4 snGCells w' (.slice B (o.getD Md.zero).gs.length d) (o.getD Md.zero).gs ∧ Ext w w' := by
  obtain ⟨u, he, ⟨A, c, B, d, rfl, h2, h3⟩, hx⟩ := h
  exact ⟨A, c, B, d, he, h2, h3, hx⟩
theorem sn_box (wa : World) (y : Sn) (A B : Option Addr) (c d : Nat) : ∃ wb wc, wa.alloc (.cells #[.int .i64 0, .slice none 0 0, .slice none 0 0] 25) = wb ∧ wb.there wa.heap.size 0 [Value.int .i64 y.time, .slice A y.ps.length c, .slice B y.gs.length d].length ∧ wb.setCells wa.heap.size 0 [.int .i64 y.time, .slice A y.ps.length c, .slice B y.gs.length d] = wc ∧ wc.heap[wa.heap.size]? = some (.cells #[.int .i64 y.time, .slice A y.ps.length c, .slice B y.gs.length d] 25 (0, 0)) ∧ Ext wa wc := by
  have hb := blk_new wa (.cells #[.int .i64 0, .slice none 0 0, .slice none 0 0] 25)
  refine ⟨_, _, rfl, there_row hb (by simp), rfl, setCells_at [.int .i64 0, .slice none 0 0, .slice none 0 0] _ rfl hb, ?_⟩
  exact ((Ext.refl wa).alloc _).upd (setCells_upd _ _ _ _) (Nat.le_refl _)
theorem made2 (n i f : Nat) (hi : i < n) (hf : f < 2) : (madeCells #[.int .i64 0, .int .i64 0] (n * 2))[i * 2 + f]? = some (.int .i64 0) := by
  have h1 : i * 2 + f < n * 2 := by omega
  simp only [madeCells, Array.getElem?_map, Array.getElem?_range, h1]
  have h2 : (i * 2 + f) % 2 = f := by omega
  match f, hf with
  | 0, _ => simp
  | 1, _ => simp
theorem rows_made8 (w : World) : RowsAt 2 snPCells (w.alloc (.cells (madeCells #[.int .i64 0, .int .i64 0] 16) 66)) (.slice (some ⟨w.heap.size, 0, none⟩) 8 8) (List.replicate 8 (0, 0)) := by
  refine ⟨_, _, rfl, Nat.le_refl 8, fun _ => ⟨w.heap.size, 0, rfl, by simp, fun j x hj i u hu => ?_⟩⟩
  have hj8 : j < 8 := by have := (List.getElem?_eq_some_iff.1 hj).1; simpa using this
  obtain rfl : x = (0, 0) := by rw [List.getElem?_replicate, if_pos hj8] at hj; exact (Option.some.inj hj).symm
  refine blk_cell (blk_new w _) _ _ ?_
  match i with
  | 0 => simp [snPCells] at hu; subst hu; rw [show 0 + j * 2 + 0 = j * 2 + 0 by omega]; exact made2 8 j 0 hj8 (by omega)
  | 1 => simp [snPCells] at hu; subst hu; rw [show 0 + j * 2 + 1 = j * 2 + 1 by omega]; exact made2 8 j 1 hj8 (by omega)
  | i + 2 => simp [snPCells] at hu
set_option maxRecDepth 100000 in
set_option maxHeartbeats 8000000 in
theorem two_any (w : World) : Calls Try.prog 20 #[] w fun e w' => ∃ u, e = .returned u ∧ SnAt w' u snTwo ∧ Ext w w' := by
  obtain ⟨w1, hw1⟩ : ∃ w1, w.alloc (.cells #[.int .i64 0, .slice none 0 0, .slice none 0 0] 25) = w1 := ⟨_, rfl⟩
  obtain ⟨w2, hw2⟩ : ∃ w2, w1.alloc (.cells #[.int .i64 0, .int .i64 0, .int .i64 2, .int .i64 4] 66) = w2 := ⟨_, rfl⟩
  obtain ⟨w3, hw3⟩ : ∃ w3, w2.alloc (.cells #[.int .i64 1, .int .i64 2, .int .i64 2, .int .i64 0, .int .i64 3, .int .i64 3, .int .i64 0, .int .i64 7] 51) = w3 := ⟨_, rfl⟩
  have hx1 : Ext w w1 := by rw [← hw1]; exact (Ext.refl w).alloc _
  have hx2 : Ext w1 w2 := by rw [← hw2]; exact (Ext.refl w1).alloc _
  have hx3 : Ext w2 w3 := by rw [← hw3]; exact (Ext.refl w2).alloc _
  have hb1 : w3.heap[w.heap.size]? = some (.cells #[.int .i64 0, .slice none 0 0, .slice none 0 0] 25 (0, 0)) := hx3.blk (hx2.blk (by rw [← hw1]; exact blk_new w _))
  have hb2 : w3.heap[w1.heap.size]? = some (.cells #[.int .i64 0, .int .i64 0, .int .i64 2, .int .i64 4] 66 (0, 0)) := hx3.blk (by rw [← hw2]; exact blk_new w1 _)
  have hb3 : w3.heap[w2.heap.size]? = some (.cells #[.int .i64 1, .int .i64 2, .int .i64 2, .int .i64 0, .int .i64 3, .int .i64 3, .int .i64 0, .int .i64 7] 51 (0, 0)) := by rw [← hw3]; exact blk_new w2 _
  have hr2 : RowsAt 2 snPCells w3 (.slice (some ⟨w1.heap.size, 0, none⟩) 2 2) [(0, 0), (2, 4)] := ⟨_, _, rfl, Nat.le_refl 2, fun _ => ⟨w1.heap.size, 0, rfl, blk_lt hb2, fun j x hj i u hu => by
    match j, i with
    | 0, 0 | 0, 1 | 1, 0 | 1, 1 => simp at hj; subst hj; simp [snPCells] at hu; subst hu; exact blk_cell hb2 _ _ rfl
    | 0, i + 2 | 1, i + 2 => simp at hj; subst hj; simp [snPCells] at hu
    | j + 2, _ => simp at hj⟩⟩
  have hr3 : RowsAt 4 snGCells w3 (.slice (some ⟨w2.heap.size, 0, none⟩) 2 2) [(1, 2, 2, 0), (3, 3, 0, 7)] := ⟨_, _, rfl, Nat.le_refl 2, fun _ => ⟨w2.heap.size, 0, rfl, blk_lt hb3, fun j x hj i u hu => by
    match j, i with
    | 0, 0 | 0, 1 | 0, 2 | 0, 3 | 1, 0 | 1, 1 | 1, 2 | 1, 3 => simp at hj; subst hj; simp [snGCells] at hu; subst hu; exact blk_cell hb3 _ _ rfl
    | 0, i + 4 | 1, i + 4 => simp at hj; subst hj; simp [snGCells] at hu
    | j + 2, _ => simp at hj⟩⟩
  obtain ⟨hth, w6, hw6, hb6, hret⟩ := sn_lay (y := snTwo) (A := some ⟨w1.heap.size, 0, none⟩) (B := some ⟨w2.heap.size, 0, none⟩) (c := 2) (d := 2) (time := 5) (hx1.trans (hx2.trans hx3)) (Nat.le_refl _) hb1 ⟨_, _, _, _, rfl, hr2, hr3⟩
  simp only [snTwo, List.length_cons, List.length_nil, Nat.zero_add, Nat.reduceAdd] at hth hw6 hb6 hret
  have HW1 := Lib.hid hw1
  have HW2 := Lib.hid hw2
  have HW3 := Lib.hid hw3
  have HTH := Lib.hid hth
  have HW6 := Lib.hid hw6
  have HB6 := Lib.hid hb6
  have HRET := Lib.hid hret
  clear hw1 hw2 hw3 hx1 hx2 hx3 hb1 hb2 hb3 hr2 hr3 hth hw6 hb6 hret
  go_enter Try.func20, Try.ntmps20
  go_wp2_with (first | rw [HW1.out] | rw [HW2.out] | rw [HW3.out] | (refine wpList_store_rowN rfl 25 _ _ rfl w.heap.size 0 [.int .i64 5, .slice (some ⟨w1.heap.size, 0, none⟩) 2 2, .slice (some ⟨w2.heap.size, 0, none⟩) 2 2] (.agg ([.int .i64 5, .slice (some ⟨w1.heap.size, 0, none⟩) 2 2, .slice (some ⟨w2.heap.size, 0, none⟩) 2 2]).toArray) (by go_simp) (by go_simp) rfl HTH.out (by kernel_rfl) (sn3_one _ _ _ rfl rfl) HW6.out ?_))
  refine bodyPost_ret (v := .agg ([.int .i64 5, .slice (some ⟨w1.heap.size, 0, none⟩) 2 2, .slice (some ⟨w2.heap.size, 0, none⟩) 2 2]).toArray) (results_cell_row rfl _ _ w.heap.size _ _ _ _ rfl HB6.out Try.underlying25 rfl (by kernel_rfl)) rfl ?_
  exact HRET.out
set_option maxRecDepth 100000 in
set_option maxHeartbeats 16000000 in
theorem mdfixed_yes (w : World) : Calls Try.prog 9 #[] w fun e w' => e = .returned (.bool true) ∧ Ext w w' := by
  go_enter Try.func9, Try.ntmps9
  go_wp2_with fail
  refine (two_any _).mono ?_
  rintro e wa1 ⟨u1, rfl, hs, hx⟩
  have HS1 := Lib.hid hs
  have X1 := Lib.hid ((Ext.refl w).trans hx)
  clear hs hx
  go_wp2_with fail
  refine (mApply_all u1 snTwo ⟨6, 2, 7, 3, 0, 7⟩ (.string ByteArray.empty) (.slice none 0 0) wa1 HS1.out _ fa_a).mono ?_
  rintro e wb1 hh
  obtain ⟨A1, c1, B1, d1, rfl, hr2, hr3, hx⟩ := hh.form
  obtain ⟨wz1, wc1, hwz, hth, hwc, hb, hxc⟩ := sn_box wb1 (snA) A1 B1 c1 d1
  have HWZ1 := Lib.hid hwz
  have HTH1 := Lib.hid hth
  have HWC1 := Lib.hid hwc
  have HB1 := Lib.hid hb
  have HP1 := Lib.hid (hr2.ext hxc)
  have HG1 := Lib.hid (hr3.ext hxc)
  have Y1 := Lib.hid (X1.out.trans (hx.trans hxc))
  clear hh hwz hth hwc hb hr2 hr3 hx hxc HS1 X1
  obtain ⟨n1, hn1⟩ : ∃ n, wb1.heap.size = n := ⟨_, rfl⟩
  rw [hn1] at HTH1 HWC1 HB1
  have HN1 := Lib.hid hn1
  clear hn1
  simp only [Option.isSome, Option.getD, Md.zero, snA, snD, List.length_cons, List.length_nil, Nat.zero_add, Nat.reduceAdd] at HWZ1 HTH1 HWC1 HB1 HP1 HG1 ⊢
  go_wp2_with (first | rw [HWZ1.out, HN1.out] | (refine wpList_store_rowN rfl 25 _ _ rfl n1 0 [.int .i64 6, .slice A1 2 c1, .slice B1 2 d1] (.agg ([.int .i64 6, .slice A1 2 c1, .slice B1 2 d1]).toArray) (by go_simp) (by go_simp) rfl HTH1.out (by kernel_rfl) (sn3_one _ _ _ rfl rfl) HWC1.out ?_))
  refine (two_any _).mono ?_
  rintro e wa2 ⟨u2, rfl, hs, hx⟩
  have HS2 := Lib.hid hs
  have X2 := Lib.hid ((Ext.refl wc1).trans hx)
  clear hs hx
  go_wp2_with fail
  refine (mApply_all u2 snTwo ⟨6, 2, 7, 3, 0, 6⟩ (.string ByteArray.empty) (.slice none 0 0) wa2 HS2.out _ fa_b).mono ?_
  rintro e wb2 hh
  obtain ⟨A2, c2, B2, d2, rfl, hr2, hr3, hx⟩ := hh.form
  obtain ⟨wz2, wc2, hwz, hth, hwc, hb, hxc⟩ := sn_box wb2 (Md.zero) A2 B2 c2 d2
  have HWZ2 := Lib.hid hwz
  have HTH2 := Lib.hid hth
  have HWC2 := Lib.hid hwc
  have HB2 := Lib.hid hb
  have HP2 := Lib.hid (hr2.ext hxc)
  have HG2 := Lib.hid (hr3.ext hxc)
  have Y2 := Lib.hid (X2.out.trans (hx.trans hxc))
  clear hh hwz hth hwc hb hr2 hr3 hx hxc HS2 X2
  obtain ⟨n2, hn2⟩ : ∃ n, wb2.heap.size = n := ⟨_, rfl⟩
  rw [hn2] at HTH2 HWC2 HB2
  have HN2 := Lib.hid hn2
  clear hn2
  simp only [Option.isSome, Option.getD, Md.zero, snA, snD, List.length_cons, List.length_nil, Nat.zero_add, Nat.reduceAdd] at HWZ2 HTH2 HWC2 HB2 HP2 HG2 ⊢
  go_wp2_with (first | rw [HWZ2.out, HN2.out] | (refine wpList_store_rowN rfl 25 _ _ rfl n2 0 [.int .i64 0, .slice A2 0 c2, .slice B2 0 d2] (.agg ([.int .i64 0, .slice A2 0 c2, .slice B2 0 d2]).toArray) (by go_simp) (by go_simp) rfl HTH2.out (by kernel_rfl) (sn3_one _ _ _ rfl rfl) HWC2.out ?_))
  refine (two_any _).mono ?_
  rintro e wa3 ⟨u3, rfl, hs, hx⟩
  have HS3 := Lib.hid hs
  have X3 := Lib.hid (Y2.out.trans hx)
  clear hs hx
  go_wp2_with fail
  refine (mApply_all u3 snTwo ⟨4, 2, 8, 1, 0, 0⟩ (.string ByteArray.empty) (.slice none 0 0) wa3 HS3.out _ fa_c).mono ?_
  rintro e wb3 hh
  obtain ⟨A3, c3, B3, d3, rfl, hr2, hr3, hx⟩ := hh.form
  obtain ⟨wz3, wc3, hwz, hth, hwc, hb, hxc⟩ := sn_box wb3 (Md.zero) A3 B3 c3 d3
  have HWZ3 := Lib.hid hwz
  have HTH3 := Lib.hid hth
  have HWC3 := Lib.hid hwc
  have HB3 := Lib.hid hb
  have HP3 := Lib.hid (hr2.ext hxc)
  have HG3 := Lib.hid (hr3.ext hxc)
  have Y3 := Lib.hid (X3.out.trans (hx.trans hxc))
  clear hh hwz hth hwc hb hr2 hr3 hx hxc HS3 X3
  obtain ⟨n3, hn3⟩ : ∃ n, wb3.heap.size = n := ⟨_, rfl⟩
  rw [hn3] at HTH3 HWC3 HB3
  have HN3 := Lib.hid hn3
  clear hn3
  simp only [Option.isSome, Option.getD, Md.zero, snA, snD, List.length_cons, List.length_nil, Nat.zero_add, Nat.reduceAdd] at HWZ3 HTH3 HWC3 HB3 HP3 HG3 ⊢
  go_wp2_with (first | rw [HWZ3.out, HN3.out] | (refine wpList_store_rowN rfl 25 _ _ rfl n3 0 [.int .i64 0, .slice A3 0 c3, .slice B3 0 d3] (.agg ([.int .i64 0, .slice A3 0 c3, .slice B3 0 d3]).toArray) (by go_simp) (by go_simp) rfl HTH3.out (by kernel_rfl) (sn3_one _ _ _ rfl rfl) HWC3.out ?_))
  refine (two_any _).mono ?_
  rintro e wa4 ⟨u4, rfl, hs, hx⟩
  have HS4 := Lib.hid hs
  have X4 := Lib.hid (Y3.out.trans hx)
  clear hs hx
  go_wp2_with fail
  refine (mApply_all u4 snTwo ⟨5, 2, 8, 1, 0, 0⟩ (.string ByteArray.empty) (.slice none 0 0) wa4 HS4.out _ fa_d).mono ?_
  rintro e wb4 hh
  obtain ⟨A4, c4, B4, d4, rfl, hr2, hr3, hx⟩ := hh.form
  obtain ⟨wz4, wc4, hwz, hth, hwc, hb, hxc⟩ := sn_box wb4 (snD) A4 B4 c4 d4
  have HWZ4 := Lib.hid hwz
  have HTH4 := Lib.hid hth
  have HWC4 := Lib.hid hwc
  have HB4 := Lib.hid hb
  have HP4 := Lib.hid (hr2.ext hxc)
  have HG4 := Lib.hid (hr3.ext hxc)
  have Y4 := Lib.hid (X4.out.trans (hx.trans hxc))
  clear hh hwz hth hwc hb hr2 hr3 hx hxc HS4 X4
  obtain ⟨n4, hn4⟩ : ∃ n, wb4.heap.size = n := ⟨_, rfl⟩
  rw [hn4] at HTH4 HWC4 HB4
  have HN4 := Lib.hid hn4
  clear hn4
  simp only [Option.isSome, Option.getD, Md.zero, snA, snD, List.length_cons, List.length_nil, Nat.zero_add, Nat.reduceAdd] at HWZ4 HTH4 HWC4 HB4 HP4 HG4 ⊢
  go_wp2_with (first | rw [HWZ4.out, HN4.out] | (refine wpList_store_rowN rfl 25 _ _ rfl n4 0 [.int .i64 5, .slice A4 2 c4, .slice B4 1 d4] (.agg ([.int .i64 5, .slice A4 2 c4, .slice B4 1 d4]).toArray) (by go_simp) (by go_simp) rfl HTH4.out (by kernel_rfl) (sn3_one _ _ _ rfl rfl) HWC4.out ?_))
  refine (two_any _).mono ?_
  rintro e wa5 ⟨u5, rfl, hs, hx⟩
  have HS5 := Lib.hid hs
  have X5 := Lib.hid ((Ext.refl wc4).trans hx)
  clear hs hx
  go_wp2_with fail
  refine (mApply_all u5 snTwo ⟨5, 1, 4, 3, 0, 7⟩ (.string ByteArray.empty) (.slice none 0 0) wa5 HS5.out _ fa_e).mono ?_
  rintro e wb5 hh
  obtain ⟨A5, c5, B5, d5, rfl, hr2, hr3, hx⟩ := hh.form
  obtain ⟨wz5, wc5, hwz, hth, hwc, hb, hxc⟩ := sn_box wb5 (Md.zero) A5 B5 c5 d5
  have HWZ5 := Lib.hid hwz
  have HTH5 := Lib.hid hth
  have HWC5 := Lib.hid hwc
  have HB5 := Lib.hid hb
  have HP5 := Lib.hid (hr2.ext hxc)
  have HG5 := Lib.hid (hr3.ext hxc)
  have Y5 := Lib.hid (X5.out.trans (hx.trans hxc))
  clear hh hwz hth hwc hb hr2 hr3 hx hxc HS5 X5
  obtain ⟨n5, hn5⟩ : ∃ n, wb5.heap.size = n := ⟨_, rfl⟩
  rw [hn5] at HTH5 HWC5 HB5
  have HN5 := Lib.hid hn5
  clear hn5
  simp only [Option.isSome, Option.getD, Md.zero, snA, snD, List.length_cons, List.length_nil, Nat.zero_add, Nat.reduceAdd] at HWZ5 HTH5 HWC5 HB5 HP5 HG5 ⊢
  go_wp2_with (first | rw [HWZ5.out, HN5.out] | (refine wpList_store_rowN rfl 25 _ _ rfl n5 0 [.int .i64 0, .slice A5 0 c5, .slice B5 0 d5] (.agg ([.int .i64 0, .slice A5 0 c5, .slice B5 0 d5]).toArray) (by go_simp) (by go_simp) rfl HTH5.out (by kernel_rfl) (sn3_one _ _ _ rfl rfl) HWC5.out ?_))
  refine (two_any _).mono ?_
  rintro e wa ⟨u6, rfl, hs, hx⟩
  have HS6 := Lib.hid hs
  have X6 := Lib.hid (Y5.out.trans hx)
  clear hs hx
  go_wp2_with fail
  refine (mHas_any u6 snTwo 2 wa HS6.out (by decide) (by decide) 2 1 fa_h).mono ?_
  rintro e wb ⟨rfl, hx⟩
  have X7 := Lib.hid (X6.out.trans hx)
  clear hx HS6 X6
  obtain ⟨wd, hwd⟩ : ∃ wd, wb.alloc (.cells #[] 106) = wd := ⟨_, rfl⟩
  obtain ⟨we, hwe⟩ : ∃ we, wd.alloc (.cells #[.slice (some ⟨wb.heap.size, 0, none⟩) 0 0] 58) = we := ⟨_, rfl⟩
  have hxd : Ext wb wd := by rw [← hwd]; exact (Ext.refl _).alloc _
  have hxe : Ext wd we := by rw [← hwe]; exact (Ext.refl _).alloc _
  have hbe : we.heap[wd.heap.size]? = some (.cells #[.slice (some ⟨wb.heap.size, 0, none⟩) 0 0] 58 (0, 0)) := by rw [← hwe]; exact blk_new wd _
  have HNW := Lib.hid (rNew_any _ [[]] 1 _ fy_new we (nest_one hbe ⟨_, _, rfl, Nat.le_refl 0, fun h => by simp at h⟩) (by decide) (by decide))
  have X8 := Lib.hid (X7.out.trans (hxd.trans hxe))
  have HWD := Lib.hid hwd
  have HWE := Lib.hid hwe
  clear hwd hwe hxd hxe hbe X7
  go_wp2_with (first | rw [HWD.out] | rw [HWE.out])
  refine HNW.out.mono ?_
  rintro e wf ⟨h7, rfl, hk7, hx7⟩
  simp only
  obtain ⟨wg, wh, hwg, hwh, hth, hbh, hxh⟩ := st_box wf h7 fyS
  have HWG := Lib.hid hwg
  have HWH := Lib.hid hwh
  have HTH := Lib.hid hth
  have HBS := Lib.hid hbh
  have X9 := Lib.hid (X8.out.trans (hx7.trans hxh))
  have HK7 := Lib.hid (hk7.ext hxh)
  clear hwg hwh hth hbh hxh hk7 hx7 X8 HNW
  go_wp2_with (first | rw [HWG.out] | (refine wpList_store_row rfl 47 _ _ rfl wf.heap.size (stL h7 fyS) (stV h7 fyS) rfl rfl rfl HTH.out (by kernel_rfl) (stL_one _ _) HWH.out ?_))
  have k1 := HG1.out.get (k := 1) rfl
  obtain ⟨b1, o1, hB1, hb1, hc1⟩ := k1
  have HC1 : Hid (∀ v, Ext wh v → v.rangeAt b1 (o1 + 1 * 4) (snGCells (3, 1, 0, 8))) := Lib.hid fun v hv j u hu => (Below.cell (p := ⟨b1, o1 + 1 * 4 + j, none⟩) (Y4.out.trans (X9.out.trans hv)) hb1).trans (hc1 j u hu)
  clear hb1 hc1
  subst hB1
  have hq : ∀ w, (Op.equalIn 10000 51 (.agg #[.int .i64 3, .int .i64 1, .int .i64 0, .int .i64 8]) (.agg #[.int .i64 3, .int .i64 1, .int .i64 0, .int .i64 8])).run Try.prog w = .ok true w := fun w => by have := run_eqG 3 1 0 8 3 1 0 8 w; rw [decide_eq_true rfl] at this; exact this
  refine region_rgx ([(51, (fun u => ∃ A c B d, u = .agg #[.int .i64 0, .slice A 8 c, .slice B 1 d] : Value → Prop), (fun u w => SnAt w (u 51).v snF : (Nat → GV) → World → Prop)), (52, (fun u => ∃ g, u = .slice (some ⟨g, 0, none⟩) 8 8 : Value → Prop), (fun u w => RowsAt 2 snPCells w (u 52).v (List.replicate 8 (0, 0)) : (Nat → GV) → World → Prop)), (54, (fun u => ∃ g, u = .slice (some ⟨g, 0, none⟩) 1 1 : Value → Prop), (fun u w => RowsAt 4 snGCells w (u 54).v [(1, 1, 0, 0)] : (Nat → GV) → World → Prop)), (56, (fun u => u = .bool true : Value → Prop), (fun _ _ => True : (Nat → GV) → World → Prop))]) (wh) (by kernel_rfl) (by kernel_rfl) ?_ ?_ ?_
  · exact List.forall_mem_cons.2 ⟨⟨⟨_, none, 0, none, 0, rfl⟩, fun u v w h ht => by show (fun u w => SnAt w (u 51).v snF : (Nat → GV) → World → Prop) v w; dsimp only; rw [← h 51 (.inl rfl) (by kernel_rfl)]; exact ht, fun u w w2 hx ht => ht.ext hx⟩, List.forall_mem_cons.2 ⟨⟨⟨_, 0, rfl⟩, fun u v w h ht => by show (fun u w => RowsAt 2 snPCells w (u 52).v (List.replicate 8 (0, 0)) : (Nat → GV) → World → Prop) v w; dsimp only; rw [← h 52 (.inl rfl) (by kernel_rfl)]; exact ht, fun u w w2 hx ht => ht.ext hx⟩, List.forall_mem_cons.2 ⟨⟨⟨_, 0, rfl⟩, fun u v w h ht => by show (fun u w => RowsAt 4 snGCells w (u 54).v [(1, 1, 0, 0)] : (Nat → GV) → World → Prop) v w; dsimp only; rw [← h 54 (.inl rfl) (by kernel_rfl)]; exact ht, fun u w w2 hx ht => ht.ext hx⟩, List.forall_mem_cons.2 ⟨⟨⟨_, rfl⟩, fun _ _ _ _ _ => trivial, fun _ _ _ _ _ => trivial⟩, List.forall_mem_nil _⟩⟩⟩⟩
  · first | assumption | exact Ext.refl _
  refine rg_pure (v := ?_) rfl (by kernel_rfl) (by kernel_rfl) (fun w hS hN => ?_) ?_
  rotate_left 1
  · clear hN
    go_simp
    refine givesP_mk ?_
    with_reducible rfl
  refine rg_pure (v := ?_) rfl (by kernel_rfl) (by kernel_rfl) (fun w hS hN => ?_) ?_
  rotate_left 1
  · clear hN
    go_simp
    refine givesP_mk ?_
    with_reducible rfl
  refine rg_pure (v := ?_) rfl (by kernel_rfl) (by kernel_rfl) (fun w hS hN => ?_) ?_
  rotate_left 1
  · clear hN
    go_simp
    refine givesP_mk ?_
    with_reducible rfl
  refine rg_pure (v := ?_) rfl (by kernel_rfl) (by kernel_rfl) (fun w hS hN => ?_) ?_
  rotate_left 1
  · have k1 := blk_cell (hS.blk (X9.out.blk (Y4.out.blk HB1.out))) 0 _ rfl
    clear hN
    go_simp
    refine givesP_mk ?_
    with_reducible rfl
  refine rg_pure (v := ?_) rfl (by kernel_rfl) (by kernel_rfl) (fun w hS hN => ?_) ?_
  rotate_left 1
  · clear hN
    go_simp
    refine givesP_mk ?_
    with_reducible rfl
  refine rg_pure (v := ?_) rfl (by kernel_rfl) (by kernel_rfl) (fun w hS hN => ?_) ?_
  rotate_left 1
  · clear hN
    go_simp
    refine givesP_mk ?_
    with_reducible rfl
  refine rg_pure (v := ?_) rfl (by kernel_rfl) (by kernel_rfl) (fun w hS hN => ?_) ?_
  rotate_left 1
  · clear hN
    go_simp
    refine givesP_mk ?_
    with_reducible rfl
  refine rg_pure (v := ?_) rfl (by kernel_rfl) (by kernel_rfl) (fun w hS hN => ?_) ?_
  rotate_left 1
  · clear hN
    go_simp
    refine givesP_mk ?_
    with_reducible rfl
  refine rg_pure (v := ?_) rfl (by kernel_rfl) (by kernel_rfl) (fun w hS hN => ?_) ?_
  rotate_left 1
  · have k1 := blk_cell (hS.blk (X9.out.blk (Y4.out.blk HB1.out))) 2 _ rfl
    clear hN
    go_simp
    refine givesP_mk ?_
    with_reducible rfl
  refine rg_pure (v := ?_) rfl (by kernel_rfl) (by kernel_rfl) (fun w hS hN => ?_) ?_
  rotate_left 1
  · clear hN
    go_simp
    refine givesP_mk ?_
    with_reducible rfl
  refine rg_pure (v := ?_) rfl (by kernel_rfl) (by kernel_rfl) (fun w hS hN => ?_) ?_
  rotate_left 1
  · clear hN
    go_simp
    refine givesP_mk ?_
    with_reducible rfl
  refine rg_pure (v := ?_) rfl (by kernel_rfl) (by kernel_rfl) (fun w hS hN => ?_) ?_
  rotate_left 1
  · clear hN
    go_simp
    refine givesP_mk ?_
    with_reducible rfl
  refine rg_pure (v := ?_) rfl (by kernel_rfl) (by kernel_rfl) (fun w hS hN => ?_) ?_
  rotate_left 1
  · clear hN
    go_simp
    refine givesP_mk ?_
    with_reducible rfl
  refine rg_pure (v := ?_) rfl (by kernel_rfl) (by kernel_rfl) (fun w hS hN => ?_) ?_
  rotate_left 1
  · clear hN
    go_simp
    refine givesP_mk ?_
    with_reducible rfl
  refine rg_pure (v := ?_) rfl (by kernel_rfl) (by kernel_rfl) (fun w hS hN => ?_) ?_
  rotate_left 1
  · have k1 := blk_cell (hS.blk (X9.out.blk (Y4.out.blk HB1.out))) 2 _ rfl
    clear hN
    go_simp
    refine givesP_mk ?_
    with_reducible rfl
  refine rg_pure (v := ?_) rfl (by kernel_rfl) (by kernel_rfl) (fun w hS hN => ?_) ?_
  rotate_left 1
  · clear hN
    go_simp
    refine givesP_mk ?_
    with_reducible rfl
  refine rg_pure (v := .agg #[.int .i64 3, .int .i64 1, .int .i64 0, .int .i64 8]) rfl (by kernel_rfl) (by kernel_rfl) (fun w hS hN => ?_) ?_
  · clear hN
    exact givesP_loadM 51 _ rfl (b1) (o1 + 1 * 4) (by go_simp) (snGCells (3, 1, 0, 8)) _ rfl _ (HC1.out w hS) Try.underlying51 rfl (by kernel_rfl)
  refine rg_pure (v := ?_) rfl (by kernel_rfl) (by kernel_rfl) (fun w hS hN => ?_) ?_
  rotate_left 1
  · clear hN
    go_simp
    refine givesP_mk ?_
    with_reducible rfl
  refine rg_pure (v := ?_) rfl (by kernel_rfl) (by kernel_rfl) (fun w hS hN => ?_) ?_
  rotate_left 1
  · clear hN
    go_simp
    refine givesP_mk ?_
    with_reducible rfl
  refine rg_pure (v := ?_) rfl (by kernel_rfl) (by kernel_rfl) (fun w hS hN => ?_) ?_
  rotate_left 1
  · clear hN
    go_simp
    refine givesP_mk ?_
    with_reducible rfl
  refine rg_pure (v := ?_) rfl (by kernel_rfl) (by kernel_rfl) (fun w hS hN => ?_) ?_
  rotate_left 1
  · clear hN
    go_simp
    refine givesP_mk ?_
    with_reducible rfl
  refine rg_pure (v := ?_) rfl (by kernel_rfl) (by kernel_rfl) (fun w hS hN => ?_) ?_
  rotate_left 1
  · clear hN
    go_simp
    refine givesP_mk ?_
    with_reducible rfl
  refine rg_pure (v := ?_) rfl (by kernel_rfl) (by kernel_rfl) (fun w hS hN => ?_) ?_
  rotate_left 1
  · clear hN
    go_simp
    refine givesP_mk ?_
    with_reducible rfl
  refine rg_pure (v := ?_) rfl (by kernel_rfl) (by kernel_rfl) (fun w hS hN => ?_) ?_
  rotate_left 1
  · clear hN
    go_simp
    refine givesP_mk ?_
    with_reducible rfl
  refine rg_pure (v := ?_) rfl (by kernel_rfl) (by kernel_rfl) (fun w hS hN => ?_) ?_
  rotate_left 1
  · clear hN
    go_simp
    refine givesP_mk ?_
    with_reducible rfl
  refine rg_pure (v := ?_) rfl (by kernel_rfl) (by kernel_rfl) (fun w hS hN => ?_) ?_
  rotate_left 1
  · clear hN
    go_simp
    refine givesP_mk ?_
    with_reducible rfl
  refine rg_pure (v := ?_) rfl (by kernel_rfl) (by kernel_rfl) (fun w hS hN => ?_) ?_
  rotate_left 1
  · clear hN
    go_simp
    refine givesP_mk ?_
    with_reducible rfl
  refine rg_pure (v := ?_) rfl (by kernel_rfl) (by kernel_rfl) (fun w hS hN => ?_) ?_
  rotate_left 1
  · clear hN
    go_simp
    refine givesP_mk ?_
    with_reducible rfl
  refine rg_pure (v := ?_) rfl (by kernel_rfl) (by kernel_rfl) (fun w hS hN => ?_) ?_
  rotate_left 1
  · clear hN
    go_simp
    refine givesP_mk ?_
    with_reducible rfl
  refine rg_pure (v := ?_) rfl (by kernel_rfl) (by kernel_rfl) (fun w hS hN => ?_) ?_
  rotate_left 1
  · clear hN
    go_simp
    refine givesP_mk ?_
    with_reducible rfl
  refine rg_pure (v := ?_) rfl (by kernel_rfl) (by kernel_rfl) (fun w hS hN => ?_) ?_
  rotate_left 1
  · clear hN
    go_simp
    refine givesP_mk ?_
    with_reducible rfl
  refine rg_pure (v := ?_) rfl (by kernel_rfl) (by kernel_rfl) (fun w hS hN => ?_) ?_
  rotate_left 1
  · clear hN
    go_simp
    refine givesP_mk ?_
    with_reducible rfl
  refine rg_pure (v := ?_) rfl (by kernel_rfl) (by kernel_rfl) (fun w hS hN => ?_) ?_
  rotate_left 1
  · clear hN
    go_simp
    refine givesP_mk ?_
    with_reducible rfl
  refine rg_pure (v := ?_) rfl (by kernel_rfl) (by kernel_rfl) (fun w hS hN => ?_) ?_
  rotate_left 1
  · have k1 := blk_cell (hS.blk (X9.out.blk HB4.out)) 2 _ rfl
    clear hN
    go_simp
    refine givesP_mk ?_
    with_reducible rfl
  refine rg_pure (v := ?_) rfl (by kernel_rfl) (by kernel_rfl) (fun w hS hN => ?_) ?_
  rotate_left 1
  · clear hN
    go_simp
    refine givesP_mk ?_
    with_reducible rfl
  refine rg_pure (v := ?_) rfl (by kernel_rfl) (by kernel_rfl) (fun w hS hN => ?_) ?_
  rotate_left 1
  · clear hN
    go_simp
    refine givesP_mk ?_
    with_reducible rfl
  refine rg_pure (v := ?_) rfl (by kernel_rfl) (by kernel_rfl) (fun w hS hN => ?_) ?_
  rotate_left 1
  · clear hN
    go_simp
    refine givesP_mk ?_
    with_reducible rfl
  refine rg_pure (v := ?_) rfl (by kernel_rfl) (by kernel_rfl) (fun w hS hN => ?_) ?_
  rotate_left 1
  · clear hN
    go_simp
    refine givesP_mk ?_
    with_reducible rfl
  refine rg_pure (v := ?_) rfl (by kernel_rfl) (by kernel_rfl) (fun w hS hN => ?_) ?_
  rotate_left 1
  · clear hN
    go_simp
    refine givesP_mk ?_
    with_reducible rfl
  refine rg_pure (v := ?_) rfl (by kernel_rfl) (by kernel_rfl) (fun w hS hN => ?_) ?_
  rotate_left 1
  · clear hN
    go_simp
    refine givesP_mk ?_
    with_reducible rfl
  refine rg_pure (v := ?_) rfl (by kernel_rfl) (by kernel_rfl) (fun w hS hN => ?_) ?_
  rotate_left 1
  · clear hN
    go_simp
    refine givesP_mk ?_
    with_reducible rfl
  refine rg_pure (v := ?_) rfl (by kernel_rfl) (by kernel_rfl) (fun w hS hN => ?_) ?_
  rotate_left 1
  · clear hN
    go_simp
    refine givesP_mk ?_
    with_reducible rfl
  refine rg_pure (v := ?_) rfl (by kernel_rfl) (by kernel_rfl) (fun w hS hN => ?_) ?_
  rotate_left 1
  · clear hN
    go_simp
    refine givesP_mk ?_
    with_reducible rfl
  refine rg_pure (v := ?_) rfl (by kernel_rfl) (by kernel_rfl) (fun w hS hN => ?_) ?_
  rotate_left 1
  · clear hN
    go_simp
    refine givesP_mk ?_
    with_reducible rfl
  refine rg_pure (v := ?_) rfl (by kernel_rfl) (by kernel_rfl) (fun w hS hN => ?_) ?_
  rotate_left 1
  · clear hN
    go_simp
    refine givesP_mk ?_
    with_reducible rfl
  refine rg_pure (v := ?_) rfl (by kernel_rfl) (by kernel_rfl) (fun w hS hN => ?_) ?_
  rotate_left 1
  · clear hN
    go_simp
    refine givesP_mk ?_
    with_reducible rfl
  refine rg_pure (v := ?_) rfl (by kernel_rfl) (by kernel_rfl) (fun w hS hN => ?_) ?_
  rotate_left 1
  · clear hN
    go_simp
    refine givesP_mk ?_
    with_reducible rfl
  refine rg_pure (v := ?_) rfl (by kernel_rfl) (by kernel_rfl) (fun w hS hN => ?_) ?_
  rotate_left 1
  · clear hN
    go_simp
    refine givesP_mk ?_
    with_reducible rfl
  refine rg_pure (v := ?_) rfl (by kernel_rfl) (by kernel_rfl) (fun w hS hN => ?_) ?_
  rotate_left 1
  · clear hN
    go_simp
    refine givesP_mk ?_
    with_reducible rfl
  refine rg_pure (v := ?_) rfl (by kernel_rfl) (by kernel_rfl) (fun w hS hN => ?_) ?_
  rotate_left 1
  · clear hN
    go_simp
    refine givesP_mk ?_
    with_reducible rfl
  refine rg_pure (v := stV h7 fyS) rfl (by kernel_rfl) (by kernel_rfl) (fun w hS hN => ?_) ?_
  · clear hN
    exact givesP_load 47 _ rfl _ (by go_simp) (stL h7 fyS) _ rfl _ (range_row (hS.blk HBS.out)) Try.underlying47 rfl (by kernel_rfl)
  refine rg_mem (fun u => ∃ A c B d, u = .agg #[.int .i64 0, .slice A 8 c, .slice B 1 d] : Value → Prop) (fun u w => SnAt w (u 51).v snF : (Nat → GV) → World → Prop) (fun _ => Ext) rfl rfl rfl rfl (by kernel_rfl) (by kernel_rfl) (fun w hS hN R hR => ?_) ?_
  · have HR := Lib.hid hR
    clear hR
    (try clear hN)
    go_simp
    refine givesM_call ((mOf_any h7 fyS w (HK7.out.ext hS) fy_few snF fy_of).mono ?_)
    rintro e w' ⟨v, rfl, hs, hx⟩
    obtain ⟨A', c', B', d', rfl, h2, h3⟩ := hs
    exact ⟨_, rfl, HR.out _ _ ⟨_, _, _, _, rfl⟩ ⟨_, _, _, _, rfl, h2, h3⟩ hx⟩
  rintro u51 s51 t51 ⟨A51, c51, B51, d51, rfl⟩
  refine rg_mem (fun u => ∃ g, u = .slice (some ⟨g, 0, none⟩) 8 8 : Value → Prop) (fun u w => RowsAt 2 snPCells w (u 52).v (List.replicate 8 (0, 0)) : (Nat → GV) → World → Prop) (fun _ => Ext) rfl rfl rfl rfl (by kernel_rfl) (by kernel_rfl) (fun w hS hN R hR => ?_) ?_
  · have HR := Lib.hid hR
    clear hR
    (try clear hN)
    go_simp
    exact givesM_val (HR.out _ _ ⟨_, rfl⟩ (rows_made8 w) ((Ext.refl w).alloc _))
  rintro u52 s52 t52 ⟨g52, rfl⟩
  refine rg_pure (v := ?_) rfl (by kernel_rfl) (by kernel_rfl) (fun w hS hN => ?_) ?_
  rotate_left 1
  · clear hN
    go_simp
    refine givesP_mk ?_
    with_reducible rfl
  refine rg_mem (fun u => ∃ g, u = .slice (some ⟨g, 0, none⟩) 1 1 : Value → Prop) (fun u w => RowsAt 4 snGCells w (u 54).v [(1, 1, 0, 0)] : (Nat → GV) → World → Prop) (fun _ => Ext) rfl rfl rfl rfl (by kernel_rfl) (by kernel_rfl) (fun w hS hN R hR => ?_) ?_
  · have HR := Lib.hid hR
    clear hR
    (try clear hN)
    go_simp
    exact givesM_val (HR.out _ _ ⟨_, rfl⟩ (rows_one w 51 (1, 1, 0, 0)) ((Ext.refl w).alloc _))
  rintro u54 s54 t54 ⟨g54, rfl⟩
  refine rg_pure (v := ?_) rfl (by kernel_rfl) (by kernel_rfl) (fun w hS hN => ?_) ?_
  rotate_left 1
  · clear hN
    go_simp
    refine givesP_mk ?_
    with_reducible rfl
  refine rg_mem (fun u => u = .bool true : Value → Prop) (fun _ _ => True : (Nat → GV) → World → Prop) (fun _ => Ext) rfl rfl rfl rfl (by kernel_rfl) (by kernel_rfl) (fun w hS hN R hR => ?_) ?_
  · have HR := Lib.hid hR
    clear hR
    have h51 : SnAt w (.agg #[.int .i64 0, .slice A51 8 c51, .slice B51 1 d51]) snF := hN.get 51 rfl (by kernel_rfl)
    have h52 : RowsAt 2 snPCells w (.slice (some ⟨g52, 0, none⟩) 8 8) (List.replicate 8 (0, 0)) := hN.get 52 rfl (by kernel_rfl)
    have h54 : RowsAt 4 snGCells w (.slice (some ⟨g54, 0, none⟩) 1 1) [(1, 1, 0, 0)] := hN.get 54 rfl (by kernel_rfl)
    have HCC := Lib.hid (rsnsame_any _ _ snF snF w h51 ⟨_, _, _, _, rfl, h52, h54⟩ (by decide) (by decide) true (by simp))
    clear h51 h52 h54
    (try clear hN)
    go_simp
    refine givesM_call (HCC.out.mono ?_)
    rintro e w' ⟨rfl, hx⟩
    exact ⟨_, rfl, HR.out _ _ rfl trivial hx⟩
  rintro u56 s56 t56 rfl
  refine rg_pure (v := ?_) rfl (by kernel_rfl) (by kernel_rfl) (fun w hS hN => ?_) ?_
  rotate_left 1
  · clear hN
    go_simp
    refine givesP_mk ?_
    with_reducible rfl
  refine rg_pure (v := ?_) rfl (by kernel_rfl) (by kernel_rfl) (fun w hS hN => ?_) ?_
  rotate_left 1
  · clear hN
    go_simp
    refine givesP_mk ?_
    with_reducible rfl
  refine rg_done rfl (Nat.le_of_ble_eq_true (by kernel_rfl)) ?_
  intro w8 hS hT
  have HX8 := Lib.hid (Y1.out.trans (Y4.out.trans (X9.out.trans hS)))
  clear hT hS hq
  go_simp
  go_wp2
  go_ret
  exact ⟨rfl, HX8.out⟩
end Go.Proofs.Ytdcbaddndoilfaa
