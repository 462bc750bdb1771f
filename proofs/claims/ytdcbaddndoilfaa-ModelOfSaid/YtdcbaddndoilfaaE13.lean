/-
  Several texts in one: Tu, Tv, Tm, Ti, Tj, Tk.
-/
import Derived.Test.YtdcbaddndoilfaaE12
import Derived.Test.YtdcbaddndoilfaaE06
import Derived.Test.YtdcbaddndoilfaaE04
import Derived.Test.YtdcbaddndoilfaaE11
import Derived.Test.YtdcbaddndoilfaaE02
import Derived.Laws.EntriesVeiled
import Derived.Laws.IdiomCopy
set_option linter.unusedVariables false
set_option linter.unusedSimpArgs false
namespace Go.Proofs.Ytdcbaddndoilfaa
open Go.RowKit
def St.placeOk (s : St) (i : Nat) (g : Gr) : Bool := decide ([(St.times s.runs ((i : Int) + 1) : Int), (St.times s.waiters ((i : Int) + 1) : Int), (St.times s.onAll ((i : Int) + 1) : Int)] = [(St.wanted g.st).1, (St.wanted g.st).2.1, (St.wanted g.st).2.2]) && s.holdG i g
def St.places (s : St) : Bool := allW (l3 s.runs s.waiters s.onAll) s.gs.length && allIx s.placeOk 0 s.gs
theorem run_eqSpot (a b c a' b' c' : Int) (w : World) : (Op.equalIn 10000 126 (spotV (a, b, c)) (spotV (a', b', c'))).run Try.prog w = .ok (decide ([a, b, c] = [a', b', c'])) w :=
  run_eqInts (ti := 3) Try.underlying3 (by kernel_rfl) (by kernel_rfl) 3 (by kernel_rfl) [a, b, c] [a', b', c'] rfl rfl w
set_option maxRecDepth 100000 in
set_option maxHeartbeats 16000000 in
theorem smayPlaces_any (h : StH) (s : St) (r : Bool) (hr : s.places = r) (w : World) (hk : StOk w h s) (hf : StFew s) : Calls Try.prog 66 #[stV h s] w fun e w' => e = .returned (.bool r) ∧ Ext w w' := by
  subst hr
  have f1 := hf.gs
  have HFW := Lib.hid hf
  have HK := Lib.hid hk
  obtain ⟨w1, hw1⟩ : ∃ w1, w.alloc (.cells #[.slice h.pa s.prog.length h.pc, .slice h.ga s.gs.length h.gc, .slice h.qa s.ps.length h.qc, .slice h.ma s.ms.length h.mc, .slice h.la s.glob.length h.lc, .int .i64 s.c0, .int .i64 s.c1, .int .i64 s.c2, .int .i64 s.c3, .slice h.a0 s.w0.length h.k0, .slice h.a1 s.w1.length h.k1, .slice h.a2 s.w2.length h.k2, .slice h.a3 s.w3.length h.k3, .slice h.ta s.timers.length h.tc, .int .i64 s.clock, .int .i64 s.procs] 47) = w1 := ⟨_, rfl⟩
  have HX1 : Hid (Ext w w1) := Lib.hid (by rw [← hw1]; exact (Ext.refl w).alloc _)
  have HB1 : Hid (w1.heap[w.heap.size]? = some (.cells (stC h s) 47 (0, 0))) := Lib.hid (by rw [← hw1]; exact blk_new w _)
  have HK1 := Lib.hid (hk.ext HX1.out)
  have HW1 := Lib.hid hw1
  clear hw1 hk
  have HSC := Lib.hid (scount_any h s w1 HK1.out hf)
  clear hf
  obtain ⟨⟨⟨q0, q1, q2, q3⟩, q4, q5, q6, q7⟩, ⟨q8, q9, q10, q11⟩, q12, q13, q14, q15⟩ := st16 HB1.out
  unfold stV at HSC ⊢
  go_enter Try.func66, Try.ntmps66
  go_upto_region 1 with fail
  rw [HW1.out]
  generalize Value.agg #[.slice h.pa s.prog.length h.pc, .slice h.ga s.gs.length h.gc, .slice h.qa s.ps.length h.qc, .slice h.ma s.ms.length h.mc, .slice h.la s.glob.length h.lc, .int .i64 s.c0, .int .i64 s.c1, .int .i64 s.c2, .int .i64 s.c3, .slice h.a0 s.w0.length h.k0, .slice h.a1 s.w1.length h.k1, .slice h.a2 s.w2.length h.k2, .slice h.a3 s.w3.length h.k3, .slice h.ta s.timers.length h.tc, .int .i64 s.clock, .int .i64 s.procs] = sv0
  go_wp2_with fail
  refine HSC.out.mono ?_
  rintro e w2 ⟨cb, db, rfl, hc2, hx2⟩
  generalize Value.agg #[.slice h.pa s.prog.length h.pc, .slice h.ga s.gs.length h.gc, .slice h.qa s.ps.length h.qc, .slice h.ma s.ms.length h.mc, .slice h.la s.glob.length h.lc, .int .i64 s.c0, .int .i64 s.c1, .int .i64 s.c2, .int .i64 s.c3, .slice h.a0 s.w0.length h.k0, .slice h.a1 s.w1.length h.k1, .slice h.a2 s.w2.length h.k2, .slice h.a3 s.w3.length h.k3, .slice h.ta s.timers.length h.tc, .int .i64 s.clock, .int .i64 s.procs] = sv1
  clear q0 q1 q2 q3 q4 q5 q6 q7 q8 q9 q10 q11 q12 q13 q14 q15
  have HC2 := Lib.hid hc2
  have HX2 := Lib.hid hx2
  have z1 : w2.cell? ⟨cb, 1, none⟩ = some (.bool (!allW (l3 s.runs s.waiters s.onAll) s.gs.length)) := blk_cell hc2.box 1 _ rfl
  have z0 : w2.cell? ⟨cb, 0, none⟩ = some (.slice (some ⟨db, 0, none⟩) s.gs.length s.gs.length) := blk_cell hc2.box 0 _ rfl
  have HPL : Hid (s.places = (allW (l3 s.runs s.waiters s.onAll) s.gs.length && allIx s.placeOk 0 s.gs)) := Lib.hid rfl
  generalize allW (l3 s.runs s.waiters s.onAll) s.gs.length = ba at *
  clear hc2 hx2
  cases ba with
  | false =>
    have HNO : Hid (s.places = false) := Lib.hid (by rw [HPL.out]; rfl)
    go_wp2
    go_ret
    exact ⟨by rw [HNO.out] <;> rfl, HX1.out.trans HX2.out⟩
  | true =>
  have HPL2 : Hid (s.places = allIx s.placeOk 0 s.gs) := Lib.hid (by rw [HPL.out]; rfl)
  go_wp2_with fail
  clear z0 z1
  go_loopw [17] (fun iv wr => ∃ k : Nat, k ≤ s.gs.length ∧ iv = .int .i64 k ∧ (∀ (j : Nat) g, s.gs[j]? = some g → j < k → s.placeOk j g = true) ∧ Ext w2 wr) (fun iv _ => s.gs.length - (intOf iv).toNat)
  case atStart => exact ⟨0, by omega, rfl, fun j l _ h => by omega, Ext.refl _⟩
  case round =>
    obtain ⟨k, hk, rfl, hall, hx⟩ := hrel
    have HALL := Lib.hid hall
    have HX := Lib.hid hx
    clear hall hx
    by_cases hlt : k < s.gs.length
    · obtain ⟨g, hg⟩ : ∃ g, s.gs[k]? = some g := ⟨_, List.getElem?_eq_getElem hlt⟩
      have HG := Lib.hid hg
      obtain ⟨ta, hta⟩ : ∃ ta : Int, (St.times s.runs ((k : Int) + 1) : Int) = ta := ⟨_, rfl⟩
      obtain ⟨tb, htb⟩ : ∃ tb : Int, (St.times s.waiters ((k : Int) + 1) : Int) = tb := ⟨_, rfl⟩
      obtain ⟨tc, htc⟩ : ∃ tc : Int, (St.times s.onAll ((k : Int) + 1) : Int) = tc := ⟨_, rfl⟩
      have hcx := HC2.out.ext HX.out
      have p0 : wr.cell? ⟨db, k * 3, none⟩ = some (.int .i64 ta) := by rw [← hta]; exact hcx.cell hlt (f := 0) (by omega)
      have p1 : wr.cell? ⟨db, k * 3 + 1, none⟩ = some (.int .i64 tb) := by rw [← htb]; exact hcx.cell hlt (f := 1) (by omega)
      have p2 : wr.cell? ⟨db, k * 3 + 2, none⟩ = some (.int .i64 tc) := by rw [← htc]; exact hcx.cell hlt (f := 2) (by omega)
      obtain ⟨w4, hw4⟩ : ∃ w4, wr.alloc (.cells #[.int .i64 ta, .int .i64 tb, .int .i64 tc] 126) = w4 := ⟨_, rfl⟩
      have HW4 := Lib.hid hw4
      have hx4 : Ext wr w4 := by rw [← hw4]; exact (Ext.refl wr).alloc _
      have HX4 := Lib.hid (HX2.out.trans (HX.out.trans hx4))
      have HX24 := Lib.hid (HX.out.trans hx4)
      have HB4 : Hid (w4.heap[wr.heap.size]? = some (.cells #[.int .i64 ta, .int .i64 tb, .int .i64 tc] 126 (0, 0))) := Lib.hid (by rw [← hw4]; exact blk_new wr _)
      obtain ⟨b, o, hA, hb, hcc⟩ := gs_get HK1.out.gs hg
      have HA := Lib.hid hA
      have HG2 : Hid (∀ v, Ext w4 v → v.cell? ⟨b, o + k * 5 + 2, none⟩ = some (.int .i64 g.st)) := Lib.hid fun v hv => by
        rw [Below.cell (HX4.out.trans hv) hb]; exact hcc.2.2.1
      obtain ⟨q, hq⟩ : ∃ q, St.wanted g.st = q := ⟨_, rfl⟩
      obtain ⟨qa, qb, qc⟩ := q
      have HWA : Hid (∀ w, Calls Try.prog 91 #[.int .i64 g.st] w fun e w' => e = .returned (.agg #[.int .i64 qa, .int .i64 qb, .int .i64 qc]) ∧ Ext w w') := Lib.hid fun w => by have h1 := swanted_any g.st w; rw [hq] at h1; exact h1
      obtain ⟨bh, hbh⟩ : ∃ bh, s.holdG k g = bh := ⟨_, rfl⟩
      have HBH := Lib.hid hbh
      have HOK : Hid (s.placeOk k g = (decide ([ta, tb, tc] = [qa, qb, qc]) && bh)) := Lib.hid (by unfold St.placeOk; rw [hta, htb, htc, hq, hbh])
      have e1 : IntKind.i64.wrap ((k : Int) + 1) = (k : Int) + 1 := IntWalk.i64_in _ (by omega)
      have i0 : (0 : Int) ≤ (k : Int) := by omega
      have i1 : (k : Int) < (s.gs.length : Int) := by omega
      have HST : Hid (s.placeOk k g = false → s.places = false) := Lib.hid fun h => by rw [HPL2.out]; exact allIx_no hg h
      have HEQ := Lib.hid (run_eqSpot ta tb tc qa qb qc)
      clear hta htb htc hcx hw4 hx4 hg hb hcc hq hbh hA
      go_upto_region 7 with fail
      rw [HW4.out]
      clear p0 p1 p2
      have hA := HA.out
      cases be : decide ([ta, tb, tc] = [qa, qb, qc]) with
      | false =>
        have HNO : Hid (s.places = false) := Lib.hid (HST.out (by rw [HOK.out, be]; rfl))
        have hq : ∀ w, (Op.equalIn 10000 126 (.agg #[.int .i64 ta, .int .i64 tb, .int .i64 tc]) (.agg #[.int .i64 qa, .int .i64 qb, .int .i64 qc])).run Try.prog w = .ok false w := fun w => by rw [← be]; exact HEQ.out w
        clear be
        refine region_rgx ([(7, (fun u => u = .agg #[.int .i64 qa, .int .i64 qb, .int .i64 qc] : Value → Prop), (fun _ _ => True : (Nat → GV) → World → Prop))]) (w4) (by kernel_rfl) (by kernel_rfl) ?_ ?_ ?_
        · exact List.forall_mem_cons.2 ⟨⟨⟨_, rfl⟩, fun _ _ _ _ _ => trivial, fun _ _ _ _ _ => trivial⟩, List.forall_mem_nil _⟩
        · first | assumption | exact Ext.refl _
        refine rg_pure (v := .agg #[.int .i64 ta, .int .i64 tb, .int .i64 tc]) rfl (by kernel_rfl) (by kernel_rfl) (fun w hS hN => ?_) ?_
        · clear hN
          exact givesP_load 126 _ rfl _ (by go_simp) ([.int .i64 ta, .int .i64 tb, .int .i64 tc]) _ rfl _ (range_row (hS.blk HB4.out)) Try.underlying126 rfl (by kernel_rfl)
        refine rg_pure (v := ?_) rfl (by kernel_rfl) (by kernel_rfl) (fun w hS hN => ?_) ?_
        rotate_left 1
        · clear hN
          go_simp
          try simp only [e1]
          refine givesP_mk ?_
          with_reducible rfl
        refine rg_pure (v := ?_) rfl (by kernel_rfl) (by kernel_rfl) (fun w hS hN => ?_) ?_
        rotate_left 1
        · have k1 := st1 ((HX4.out.trans hS).blk HB1.out)
          clear hN
          go_simp
          try simp only [e1]
          refine givesP_mk ?_
          with_reducible rfl
        refine rg_pure (v := ?_) rfl (by kernel_rfl) (by kernel_rfl) (fun w hS hN => ?_) ?_
        rotate_left 1
        · clear hN
          go_simp
          try simp only [e1]
          refine givesP_mk ?_
          with_reducible rfl
        refine rg_pure (v := ?_) rfl (by kernel_rfl) (by kernel_rfl) (fun w hS hN => ?_) ?_
        rotate_left 1
        · clear hN
          go_simp
          try simp only [e1]
          refine givesP_mk ?_
          with_reducible rfl
        refine rg_pure (v := ?_) rfl (by kernel_rfl) (by kernel_rfl) (fun w hS hN => ?_) ?_
        rotate_left 1
        · clear hN
          go_simp
          try simp only [e1]
          refine givesP_mk ?_
          with_reducible rfl
        refine rg_pure (v := ?_) rfl (by kernel_rfl) (by kernel_rfl) (fun w hS hN => ?_) ?_
        rotate_left 1
        · have k2 := HG2.out w hS
          clear hN
          go_simp
          try simp only [e1]
          refine givesP_mk ?_
          with_reducible rfl
        refine rg_mem (fun u => u = .agg #[.int .i64 qa, .int .i64 qb, .int .i64 qc] : Value → Prop) (fun _ _ => True : (Nat → GV) → World → Prop) (fun _ => Ext) rfl rfl rfl rfl (by kernel_rfl) (by kernel_rfl) (fun w hS hN R hR => ?_) ?_
        · have HR := Lib.hid hR
          clear hR
          (try clear hN)
          go_simp
          refine givesM_call ((HWA.out w).mono ?_)
          rintro e w' ⟨rfl, hx⟩
          exact ⟨_, rfl, HR.out _ _ rfl trivial hx⟩
        rintro u7 s7 t7 rfl
        refine rg_pure (v := ?_) rfl (by kernel_rfl) (by kernel_rfl) (fun w hS hN => ?_) ?_
        rotate_left 1
        · clear hN
          go_simp
          try simp only [e1]
          refine givesP_mk ?_
          with_reducible rfl
        refine rg_pure (v := ?_) rfl (by kernel_rfl) (by kernel_rfl) (fun w hS hN => ?_) ?_
        rotate_left 1
        · clear hN
          go_simp
          try simp only [e1]
          refine givesP_mk ?_
          with_reducible rfl
        refine rg_no rfl (by kernel_rfl) (by kernel_rfl) ?_
        refine rg_no rfl (by kernel_rfl) (by kernel_rfl) ?_
        refine rg_no rfl (by kernel_rfl) (by kernel_rfl) ?_
        refine rg_no rfl (by kernel_rfl) (by kernel_rfl) ?_
        refine rg_no rfl (by kernel_rfl) (by kernel_rfl) ?_
        refine rg_pure (v := ?_) rfl (by kernel_rfl) (by kernel_rfl) (fun w hS hN => ?_) ?_
        rotate_left 1
        · clear hN
          go_simp
          try simp only [e1]
          refine givesP_mk ?_
          with_reducible rfl
        refine rg_done rfl (Nat.le_of_ble_eq_true (by kernel_rfl)) ?_
        intro w8 hS hT
        have HX8 := Lib.hid (HX4.out.trans hS)
        clear hT hS hq
        go_simp
        go_wp2
        go_ret
        exact ⟨by rw [HNO.out] <;> rfl, HX1.out.trans HX8.out⟩
      | true =>
        have hq : ∀ w, (Op.equalIn 10000 126 (.agg #[.int .i64 ta, .int .i64 tb, .int .i64 tc]) (.agg #[.int .i64 qa, .int .i64 qb, .int .i64 qc])).run Try.prog w = .ok true w := fun w => by rw [← be]; exact HEQ.out w
        have HOK2 : Hid (s.placeOk k g = bh) := Lib.hid (by rw [HOK.out, be]; rfl)
        clear be
        refine region_rgx ([(7, (fun u => u = .agg #[.int .i64 qa, .int .i64 qb, .int .i64 qc] : Value → Prop), (fun _ _ => True : (Nat → GV) → World → Prop)), (13, (fun u => u = .bool bh : Value → Prop), (fun _ _ => True : (Nat → GV) → World → Prop))]) (w4) (by kernel_rfl) (by kernel_rfl) ?_ ?_ ?_
        · exact List.forall_mem_cons.2 ⟨⟨⟨_, rfl⟩, fun _ _ _ _ _ => trivial, fun _ _ _ _ _ => trivial⟩, List.forall_mem_cons.2 ⟨⟨⟨_, rfl⟩, fun _ _ _ _ _ => trivial, fun _ _ _ _ _ => trivial⟩, List.forall_mem_nil _⟩⟩
        · first | assumption | exact Ext.refl _
        refine rg_pure (v := .agg #[.int .i64 ta, .int .i64 tb, .int .i64 tc]) rfl (by kernel_rfl) (by kernel_rfl) (fun w hS hN => ?_) ?_
        · clear hN
          exact givesP_load 126 _ rfl _ (by go_simp) ([.int .i64 ta, .int .i64 tb, .int .i64 tc]) _ rfl _ (range_row (hS.blk HB4.out)) Try.underlying126 rfl (by kernel_rfl)
        refine rg_pure (v := ?_) rfl (by kernel_rfl) (by kernel_rfl) (fun w hS hN => ?_) ?_
        rotate_left 1
        · clear hN
          go_simp
          try simp only [e1]
          refine givesP_mk ?_
          with_reducible rfl
        refine rg_pure (v := ?_) rfl (by kernel_rfl) (by kernel_rfl) (fun w hS hN => ?_) ?_
        rotate_left 1
        · have k1 := st1 ((HX4.out.trans hS).blk HB1.out)
          clear hN
          go_simp
          try simp only [e1]
          refine givesP_mk ?_
          with_reducible rfl
        refine rg_pure (v := ?_) rfl (by kernel_rfl) (by kernel_rfl) (fun w hS hN => ?_) ?_
        rotate_left 1
        · clear hN
          go_simp
          try simp only [e1]
          refine givesP_mk ?_
          with_reducible rfl
        refine rg_pure (v := ?_) rfl (by kernel_rfl) (by kernel_rfl) (fun w hS hN => ?_) ?_
        rotate_left 1
        · clear hN
          go_simp
          try simp only [e1]
          refine givesP_mk ?_
          with_reducible rfl
        refine rg_pure (v := ?_) rfl (by kernel_rfl) (by kernel_rfl) (fun w hS hN => ?_) ?_
        rotate_left 1
        · clear hN
          go_simp
          try simp only [e1]
          refine givesP_mk ?_
          with_reducible rfl
        refine rg_pure (v := ?_) rfl (by kernel_rfl) (by kernel_rfl) (fun w hS hN => ?_) ?_
        rotate_left 1
        · have k2 := HG2.out w hS
          clear hN
          go_simp
          try simp only [e1]
          refine givesP_mk ?_
          with_reducible rfl
        refine rg_mem (fun u => u = .agg #[.int .i64 qa, .int .i64 qb, .int .i64 qc] : Value → Prop) (fun _ _ => True : (Nat → GV) → World → Prop) (fun _ => Ext) rfl rfl rfl rfl (by kernel_rfl) (by kernel_rfl) (fun w hS hN R hR => ?_) ?_
        · have HR := Lib.hid hR
          clear hR
          (try clear hN)
          go_simp
          refine givesM_call ((HWA.out w).mono ?_)
          rintro e w' ⟨rfl, hx⟩
          exact ⟨_, rfl, HR.out _ _ rfl trivial hx⟩
        rintro u7 s7 t7 rfl
        refine rg_pure (v := ?_) rfl (by kernel_rfl) (by kernel_rfl) (fun w hS hN => ?_) ?_
        rotate_left 1
        · clear hN
          go_simp
          try simp only [e1]
          refine givesP_mk ?_
          with_reducible rfl
        refine rg_pure (v := ?_) rfl (by kernel_rfl) (by kernel_rfl) (fun w hS hN => ?_) ?_
        rotate_left 1
        · clear hN
          go_simp
          try simp only [e1]
          refine givesP_mk ?_
          with_reducible rfl
        refine rg_pure (v := stV h s) rfl (by kernel_rfl) (by kernel_rfl) (fun w hS hN => ?_) ?_
        · clear hN
          exact givesP_load 47 _ rfl _ (by go_simp) (stL h s) _ rfl _ (range_row ((HX4.out.trans hS).blk HB1.out)) Try.underlying47 rfl (by kernel_rfl)
        refine rg_pure (v := ?_) rfl (by kernel_rfl) (by kernel_rfl) (fun w hS hN => ?_) ?_
        rotate_left 1
        · clear hN
          go_simp
          try simp only [e1]
          refine givesP_mk ?_
          with_reducible rfl
        refine rg_pure (v := ?_) rfl (by kernel_rfl) (by kernel_rfl) (fun w hS hN => ?_) ?_
        rotate_left 1
        · clear hN
          go_simp
          try simp only [e1]
          refine givesP_mk ?_
          with_reducible rfl
        refine rg_mem (fun u => u = .bool bh : Value → Prop) (fun _ _ => True : (Nat → GV) → World → Prop) (fun _ => Ext) rfl rfl rfl rfl (by kernel_rfl) (by kernel_rfl) (fun w hS hN R hR => ?_) ?_
        · have HR := Lib.hid hR
          clear hR
          (try clear hN)
          go_simp
          refine givesM_call ((smayHold_any h s k g HG.out bh HBH.out w (HK1.out.ext (HX4.out.trans hS)) HFW.out).mono ?_)
          rintro e w' ⟨rfl, hx⟩
          exact ⟨_, rfl, HR.out _ _ rfl trivial hx⟩
        rintro u13 s13 t13 rfl
        refine rg_pure (v := ?_) rfl (by kernel_rfl) (by kernel_rfl) (fun w hS hN => ?_) ?_
        rotate_left 1
        · clear hN
          go_simp
          try simp only [e1]
          refine givesP_mk ?_
          with_reducible rfl
        refine rg_pure (v := ?_) rfl (by kernel_rfl) (by kernel_rfl) (fun w hS hN => ?_) ?_
        rotate_left 1
        · clear hN
          go_simp
          try simp only [e1]
          refine givesP_mk ?_
          with_reducible rfl
        refine rg_done rfl (Nat.le_of_ble_eq_true (by kernel_rfl)) ?_
        intro w8 hS hT
        have HX8 := Lib.hid (HX4.out.trans hS)
        have HX28 := Lib.hid (HX24.out.trans hS)
        clear hT hS hq
        cases bh with
        | false =>
          have HNO : Hid (s.places = false) := Lib.hid (HST.out HOK2.out)
          go_simp
          go_wp2
          go_ret
          exact ⟨by rw [HNO.out] <;> rfl, HX1.out.trans HX8.out⟩
        | true =>
          go_simp
          go_wp2
          go_roundw
          case rel =>
            refine ⟨k + 1, by omega, by go_num, fun i y hi hij => ?_, HX28.out⟩
            by_cases hij2 : i < k
            · exact HALL.out i y hi hij2
            · obtain rfl : i = k := by omega
              rw [← some_eq HG.out hi]
              exact HOK2.out
          case measure => simp [intOf]; omega
    · obtain rfl : k = s.gs.length := by omega
      have HY : Hid (s.places = true) := Lib.hid (by rw [HPL2.out]; exact allIx_yes fun j l hj => HALL.out j l hj (List.getElem?_eq_some_iff.1 hj).1)
      go_wp2
      go_ret
      exact ⟨by rw [HY.out] <;> rfl, HX1.out.trans (HX2.out.trans HX.out)⟩
theorem count_split (n : Int) : ∀ ms : List (Int × Int), ((ms.filter fun m => m.2 != 0).map Prod.snd).count n = ((ms.filter fun m => m.2 != 0 && ((m.1 != 0) == true)).map Prod.snd).count n + ((ms.filter fun m => m.2 != 0 && ((m.1 != 0) == false)).map Prod.snd).count n
  | [] => rfl
  | m :: ms => by
    have ih := count_split n ms
    obtain ⟨a, b⟩ := m
    simp only [List.filter_cons]
    cases hb : (b != 0) with
    | false => simp only [Bool.false_and, Bool.false_eq_true, if_false]; exact ih
    | true =>
      cases ha : (a != 0) with
      | false => simp only [Bool.true_and, if_true, List.map_cons, List.count_cons, beq_self_eq_true, show ((false == true) = true) = False by simp, if_false]; omega
      | true => simp only [Bool.true_and, if_true, List.map_cons, List.count_cons, beq_self_eq_true, show ((true == false) = true) = False by simp, if_false]; omega
theorem St.onAll_times (s : St) (n : Int) : St.times s.onAll n = St.times (s.onM true) n + St.times (s.onM false) n := count_split n s.ms
theorem St.mem_onM {s : St} {b : Bool} {n : Int} : n ∈ s.onM b ↔ ∃ m ∈ s.ms, m.2 = n ∧ n ≠ 0 ∧ (m.1 != 0) = b := by
  unfold St.onM
  simp only [List.mem_map, List.mem_filter, Bool.and_eq_true, bne_iff_ne, beq_iff_eq]
  constructor
  · rintro ⟨m, ⟨h1, h2, h3⟩, rfl⟩; exact ⟨m, h1, rfl, h2, h3⟩
  · rintro ⟨m, h1, rfl, h2, h3⟩; exact ⟨m, ⟨h1, h2, h3⟩, rfl⟩
theorem St.mem_onAll {s : St} {n : Int} : n ∈ s.onAll ↔ n ∈ s.onM true ∨ n ∈ s.onM false := by
  simp only [St.mem_onM]
  unfold St.onAll
  simp only [List.mem_map, List.mem_filter, bne_iff_ne]
  constructor
  · rintro ⟨m, ⟨h1, h2⟩, rfl⟩
    cases h : (m.1 != 0) with
    | true => exact .inl ⟨m, h1, rfl, h2, by simpa using h⟩
    | false => exact .inr ⟨m, h1, rfl, h2, by simpa using h⟩
  · rintro (⟨m, h1, rfl, h2, _⟩ | ⟨m, h1, rfl, h2, _⟩) <;> exact ⟨m, ⟨h1, h2⟩, rfl⟩
theorem St.within_iff {l : List Int} {n : Int} : St.within l n = true ↔ ∀ x ∈ l, 1 ≤ x ∧ x ≤ n := by unfold St.within; simp
theorem St.allIn_eq (s : St) : allW (l3 s.runs s.waiters s.onAll) s.gs.length = s.allIn := by
  rw [Bool.eq_iff_iff]
  unfold allW St.allIn
  simp only [Bool.and_eq_true, St.within_iff, l3, St.mem_onAll]
  constructor
  · rintro ⟨⟨h1, h2⟩, h3⟩; exact ⟨⟨⟨h1, h2⟩, fun x hx => h3 x (.inl hx)⟩, fun x hx => h3 x (.inr hx)⟩
  · rintro ⟨⟨⟨h1, h2⟩, h3⟩, h4⟩; exact ⟨⟨h1, h2⟩, fun x hx => hx.elim (h3 x) (h4 x)⟩
theorem St.onM_pos {s : St} {j : Nat} {x : Int × Int} (hx : s.ms[j]? = some x) (h0 : x.2 ≠ 0) : 1 ≤ St.times (s.onM (x.1 != 0)) x.2 := by
  unfold St.times
  exact List.count_pos_iff.2 (St.mem_onM.2 ⟨x, List.mem_of_getElem? hx, rfl, h0, rfl⟩)
theorem St.place_stands (s : St) (i : Nat) (g : Gr) (hs : 1 ≤ g.st ∧ g.st ≤ 5) : s.placeOk i g = s.stands i g := by
  have hc := s.onAll_times ((i : Int) + 1)
  have hp := fun (x : Int × Int) (j : Nat) (hx : s.ms[j]? = some x) (h0 : x.2 = (i : Int) + 1) => s.onM_pos hx (by omega : x.2 ≠ 0)
  unfold St.placeOk St.stands St.holdG
  rw [hc]
  generalize St.times s.runs ((i : Int) + 1) = a
  generalize St.times s.waiters ((i : Int) + 1) = b
  obtain ⟨fn, pc, st, m, sq⟩ := g
  simp only at hs ⊢
  rw [decide_eq_true hs, Bool.true_and]
  by_cases h24 : st ≠ 2 ∧ st ≠ 4
  · rw [if_pos h24, if_pos h24]
    generalize St.times (s.onM true) ((i : Int) + 1) = c
    generalize St.times (s.onM false) ((i : Int) + 1) = d
    congr 1
    obtain rfl | rfl | rfl : st = 1 ∨ st = 3 ∨ st = 5 := by omega
    all_goals
      rw [decide_eq_decide]
      simp [St.wanted, St.want]
      omega
  · rw [if_neg h24, if_neg h24, Bool.eq_iff_iff]
    simp only [Bool.and_eq_true, decide_eq_true_eq, wiB_iff, beq_iff_eq]
    by_cases hm : 1 ≤ m ∧ m ≤ (s.ms.length : Int)
    · obtain ⟨j, rfl⟩ : ∃ j : Nat, m = (j : Int) + 1 := ⟨(m - 1).toNat, by omega⟩
      obtain ⟨x, hx⟩ : ∃ x, s.ms[j]? = some x := ⟨_, List.getElem?_eq_getElem (by omega)⟩
      rw [show ((j : Int) + 1 - 1).toNat = j by omega]
      simp only [List.getD, hx, Option.getD_some]
      have hpx := hp x j hx
      by_cases h2 : x.2 = (i : Int) + 1
      · have hpx := hpx h2
        rw [h2] at hpx
        cases hb : (x.1 != 0) with
        | true =>
          rw [hb] at hpx
          generalize St.times (s.onM true) ((i : Int) + 1) = c at *
          generalize St.times (s.onM false) ((i : Int) + 1) = d at *
          obtain rfl | rfl : st = 2 ∨ st = 4 := by omega
          all_goals
            simp [St.wanted, St.want, h2, hm]
            omega
        | false =>
          rw [hb] at hpx
          generalize St.times (s.onM true) ((i : Int) + 1) = c at *
          generalize St.times (s.onM false) ((i : Int) + 1) = d at *
          obtain rfl | rfl : st = 2 ∨ st = 4 := by omega
          all_goals
            simp [St.wanted, St.want, h2, hm]
            omega
      · simp [h2]
    · simp [hm]
theorem St.may_eq (s : St) : (s.whole && s.counts && s.gs.all s.pGood && allIx s.holdP 0 s.ps && allIx s.holdM 0 s.ms && s.places) = s.may := by
  rw [Bool.eq_iff_iff]
  unfold St.may St.places St.goods St.holds
  rw [St.allIn_eq]
  simp only [Bool.and_eq_true, List.all_eq_true, allIx_iff (f := s.placeOk), allIx_iff (f := s.stands), Nat.zero_add]
  constructor
  · rintro ⟨⟨⟨⟨⟨h1, h2⟩, h3⟩, h4⟩, h5⟩, h6, h7⟩
    refine ⟨⟨⟨⟨⟨h1, fun g hg => ?_⟩, h4, h5⟩, h2⟩, h6⟩, fun j g hg => ?_⟩
    · have := h3 g hg; unfold St.pGood at this; rw [Bool.and_eq_true] at this; exact this.1
    · have := h3 g (List.mem_of_getElem? hg); unfold St.pGood at this; rw [Bool.and_eq_true] at this
      rw [← St.place_stands s j g (wiB_iff.1 this.2)]
      exact h7 j g hg
  · rintro ⟨⟨⟨⟨⟨h1, h3⟩, h4, h5⟩, h2⟩, h6⟩, h7⟩
    have hst : ∀ (j : Nat) g, s.gs[j]? = some g → 1 ≤ g.st ∧ g.st ≤ 5 := fun j g hg => by
      have := h7 j g hg
      unfold St.stands at this
      rw [Bool.and_eq_true, Bool.and_eq_true, decide_eq_true_eq] at this
      exact this.1.1
    refine ⟨⟨⟨⟨⟨h1, h2⟩, fun g hg => ?_⟩, h4⟩, h5⟩, h6, fun j g hg => ?_⟩
    · obtain ⟨j, hj⟩ := List.mem_iff_getElem?.1 hg
      unfold St.pGood
      rw [h3 g hg, wiB_iff.2 (hst j g hj)]; rfl
    · rw [St.place_stands s j g (hst j g hg)]
      exact h7 j g hg
theorem holdM_no {s : St} {i : Nat} {m : Int × Int} (h : ¬ (0 ≤ m.1 ∧ m.1 ≤ s.ps.length)) : s.holdM i m = false := by unfold St.holdM; rw [decide_eq_false h]; rfl
theorem holdM_no2 {s : St} {i : Nat} {m : Int × Int} (h : ¬ (0 < m.1 → (s.ps.getD (m.1 - 1).toNat St.nilP).m = i + 1)) : s.holdM i m = false := by unfold St.holdM; rw [decide_eq_false h, Bool.and_false]
theorem holdM_yes {s : St} {i : Nat} {m : Int × Int} (h : 0 ≤ m.1 ∧ m.1 ≤ s.ps.length) (h2 : 0 < m.1 → (s.ps.getD (m.1 - 1).toNat St.nilP).m = i + 1) : s.holdM i m = true := by unfold St.holdM; rw [decide_eq_true h, decide_eq_true h2]; rfl
set_option maxRecDepth 100000 in
set_option maxHeartbeats 8000000 in
theorem smayMs_any (h : StH) (s : St) (r : Bool) (hr : allIx s.holdM 0 s.ms = r) (w : World) (hk : StOk w h s) (hf : StFew s) : Calls Try.prog 65 #[stV h s] w fun e w' => e = .returned (.bool r) ∧ Ext w w' := by
  subst hr
  have f1 := hf.ms
  have f2 := hf.ps
  have HK := Lib.hid hk
  obtain ⟨w1, hw1⟩ : ∃ w1, w.alloc (.cells #[.slice h.pa s.prog.length h.pc, .slice h.ga s.gs.length h.gc, .slice h.qa s.ps.length h.qc, .slice h.ma s.ms.length h.mc, .slice h.la s.glob.length h.lc, .int .i64 s.c0, .int .i64 s.c1, .int .i64 s.c2, .int .i64 s.c3, .slice h.a0 s.w0.length h.k0, .slice h.a1 s.w1.length h.k1, .slice h.a2 s.w2.length h.k2, .slice h.a3 s.w3.length h.k3, .slice h.ta s.timers.length h.tc, .int .i64 s.clock, .int .i64 s.procs] 47) = w1 := ⟨_, rfl⟩
  have HX1 : Hid (Ext w w1) := Lib.hid (by rw [← hw1]; exact (Ext.refl w).alloc _)
  have HB1 : Hid (w1.heap[w.heap.size]? = some (.cells (stC h s) 47 (0, 0))) := Lib.hid (by rw [← hw1]; exact blk_new w _)
  have HK1 := Lib.hid (hk.ext HX1.out)
  have HW1 := Lib.hid hw1
  clear hw1 hk
  clear hf
  have q3 := st3 HB1.out
  unfold stV
  go_enter Try.func65, Try.ntmps65
  go_upto_region 1 with fail
  rw [HW1.out]
  generalize Value.agg #[.slice h.pa s.prog.length h.pc, .slice h.ga s.gs.length h.gc, .slice h.qa s.ps.length h.qc, .slice h.ma s.ms.length h.mc, .slice h.la s.glob.length h.lc, .int .i64 s.c0, .int .i64 s.c1, .int .i64 s.c2, .int .i64 s.c3, .slice h.a0 s.w0.length h.k0, .slice h.a1 s.w1.length h.k1, .slice h.a2 s.w2.length h.k2, .slice h.a3 s.w3.length h.k3, .slice h.ta s.timers.length h.tc, .int .i64 s.clock, .int .i64 s.procs] = sv0
  go_wp2_with fail
  clear q3
  obtain ⟨ma, hma⟩ : ∃ ma, h.ma = ma := ⟨_, rfl⟩
  have HMA := Lib.hid hma
  rw [hma]
  clear hma
  go_loopw [8] (fun iv wr => ∃ k : Nat, k ≤ s.ms.length ∧ iv = .int .i64 k ∧ (∀ (j : Nat) g, s.ms[j]? = some g → j < k → s.holdM j g = true) ∧ Ext w1 wr) (fun iv _ => s.ms.length - (intOf iv).toNat)
  case atStart => exact ⟨0, by omega, rfl, fun j l _ h => by omega, Ext.refl _⟩
  case round =>
    obtain ⟨k, hk, rfl, hall, hx⟩ := hrel
    have HALL := Lib.hid hall
    have HX := Lib.hid hx
    clear hall hx
    by_cases hlt : k < s.ms.length
    · obtain ⟨x, hx⟩ : ∃ x, s.ms[k]? = some x := ⟨_, List.getElem?_eq_getElem hlt⟩
      have HG := Lib.hid hx
      have HST : Hid (s.holdM k x = false → allIx s.holdM 0 s.ms = false) := Lib.hid fun h => allIx_no hx h
      obtain ⟨b, o, hA, hb, c0, c1⟩ := frs2_get (HK1.out.ext HX.out).ms hx
      rw [HMA.out] at hA
      subst hA
      obtain ⟨m, g⟩ := x
      simp only at c0 c1
      obtain ⟨w3, hw3⟩ : ∃ w3, wr.alloc (.cells #[.int .i64 m, .int .i64 g] 119) = w3 := ⟨_, rfl⟩
      have HW3 := Lib.hid hw3
      have HX4 : Hid (Ext w1 w3) := Lib.hid (by rw [← hw3]; exact HX.out.alloc _)
      have hq : w3.heap[wr.heap.size]? = some (.cells #[.int .i64 m, .int .i64 g] 119 (0, 0)) := by rw [← hw3]; exact blk_new wr _
      have z0 := blk_cell hq 0 _ rfl
      have y2 := st2 (HX4.out.blk HB1.out)
      clear hx hb hw3 hq
      by_cases a0 : m = 0
      · subst a0
        have HYES : Hid (s.holdM k (0, g) = true) := Lib.hid (holdM_yes (by simp) (fun h => by simp at h))
        go_wp2_with (rw [HW3.out])
        go_roundw
        case rel =>
          refine ⟨k + 1, by omega, by go_num, fun i y hi hij => ?_, HX4.out⟩
          by_cases hij2 : i < k
          · exact HALL.out i y hi hij2
          · obtain rfl : i = k := by omega
            rw [← some_eq HG.out hi]
            exact HYES.out
        case measure => simp [intOf]; omega
      · have a0' : (m != 0) = true := by simpa using a0
        have HA0 := Lib.hid a0
        clear a0
        cases bb : wiB m 1 (s.ps.length : Int) with
        | false =>
          have HNO : Hid (allIx s.holdM 0 s.ms = false) := Lib.hid (HST.out (holdM_no (fun h => by
            have := HA0.out
            rw [wiB_iff.2 (show 1 ≤ m ∧ m ≤ (s.ps.length : Int) by have := h.1; have := h.2; simp only at *; omega)] at bb
            cases bb)))
          go_wp2_with (rw [HW3.out])
          refine (swithin_any m 1 (s.ps.length : Int) _).mono ?_
          rintro e w' ⟨rfl, rfl⟩
          go_wp2
          (go_ret; exact ⟨by rw [HNO.out] <;> rfl, HX1.out.trans HX4.out⟩)
        | true =>
          obtain ⟨fb1, fb2⟩ := wiB_iff.1 bb
          obtain ⟨j, hj⟩ : ∃ j : Nat, m = (j : Int) + 1 := ⟨(m - 1).toNat, by omega⟩
          subst hj
          obtain ⟨p, hp⟩ : ∃ p, s.ps[j]? = some p := ⟨_, List.getElem?_eq_getElem (by omega)⟩
          obtain ⟨pm, nx, r, sq⟩ := p
          obtain ⟨b0, b1, b2, b3, b4, b5, b6, b7, hd, nn, rfl⟩ := Ri.open8 (HK.out.buf _ (List.mem_of_getElem? hp))
          obtain ⟨bp, op, hAp, hbp, hcp⟩ := ps_get (HK1.out.ext HX4.out).ps hp
          have c0' := hcp.1.1
          have HMX : Hid ((s.ps.getD ((j : Int) + 1 - 1).toNat St.nilP).m = pm) := Lib.hid (by
            rw [show ((j : Int) + 1 - 1).toNat = j by omega, List.getD, hp]; rfl)
          have HM3 : Hid (0 ≤ (j : Int) + 1 ∧ (j : Int) + 1 ≤ s.ps.length) := Lib.hid ⟨by omega, fb2⟩
          have e1 : (j : Int) + 1 - 1 = (j : Int) := by omega
          have e4 : (j : Int) < (s.ps.length : Int) := by omega
          clear hcp hp hbp fb1
          go_wp2_with (rw [HW3.out])
          refine (swithin_any ((j : Int) + 1) 1 (s.ps.length : Int) _).mono ?_
          rintro e w' ⟨rfl, rfl⟩
          by_cases d0 : pm = (k : Int) + 1
          · subst d0
            have HYES : Hid (s.holdM k ((j : Int) + 1, g) = true) := Lib.hid (holdM_yes HM3.out (fun _ => HMX.out))
            go_wp2
            go_roundw
            case rel =>
              refine ⟨k + 1, by omega, by go_num, fun i y hi hij => ?_, HX4.out⟩
              by_cases hij2 : i < k
              · exact HALL.out i y hi hij2
              · obtain rfl : i = k := by omega
                rw [← some_eq HG.out hi]
                exact HYES.out
            case measure => simp [intOf]; omega
          · have HNO : Hid (allIx s.holdM 0 s.ms = false) := Lib.hid (HST.out (holdM_no2 (fun h => d0 (by have := h (by simp only; omega); simp only [HMX.out] at this; exact this))))
            have d0' : (pm != (k : Int) + 1) = true := by simpa using d0
            clear d0
            go_wp2
            (go_ret; exact ⟨by rw [HNO.out] <;> rfl, HX1.out.trans HX4.out⟩)
    · obtain rfl : k = s.ms.length := by omega
      have HY : Hid (allIx s.holdM 0 s.ms = true) := Lib.hid (allIx_yes fun j l hj => HALL.out j l hj (List.getElem?_eq_some_iff.1 hj).1)
      go_wp2
      go_ret
      exact ⟨by rw [HY.out] <;> rfl, HX1.out.trans HX.out⟩
set_option maxRecDepth 100000 in
set_option maxHeartbeats 16000000 in
theorem smayPs_any (h : StH) (s : St) (r : Bool) (hr : allIx s.holdP 0 s.ps = r) (w : World) (hk : StOk w h s) (hf : StFew s) : Calls Try.prog 64 #[stV h s] w fun e w' => e = .returned (.bool r) ∧ Ext w w' := by
  subst hr
  have f1 := hf.ms
  have f2 := hf.ps
  have HK := Lib.hid hk
  obtain ⟨w1, hw1⟩ : ∃ w1, w.alloc (.cells #[.slice h.pa s.prog.length h.pc, .slice h.ga s.gs.length h.gc, .slice h.qa s.ps.length h.qc, .slice h.ma s.ms.length h.mc, .slice h.la s.glob.length h.lc, .int .i64 s.c0, .int .i64 s.c1, .int .i64 s.c2, .int .i64 s.c3, .slice h.a0 s.w0.length h.k0, .slice h.a1 s.w1.length h.k1, .slice h.a2 s.w2.length h.k2, .slice h.a3 s.w3.length h.k3, .slice h.ta s.timers.length h.tc, .int .i64 s.clock, .int .i64 s.procs] 47) = w1 := ⟨_, rfl⟩
  have HX1 : Hid (Ext w w1) := Lib.hid (by rw [← hw1]; exact (Ext.refl w).alloc _)
  have HB1 : Hid (w1.heap[w.heap.size]? = some (.cells (stC h s) 47 (0, 0))) := Lib.hid (by rw [← hw1]; exact blk_new w _)
  have HK1 := Lib.hid (hk.ext HX1.out)
  have HW1 := Lib.hid hw1
  clear hw1 hk
  clear hf
  have q2 := st2 HB1.out
  unfold stV
  go_enter Try.func64, Try.ntmps64
  go_upto_region 1 with fail
  rw [HW1.out]
  generalize Value.agg #[.slice h.pa s.prog.length h.pc, .slice h.ga s.gs.length h.gc, .slice h.qa s.ps.length h.qc, .slice h.ma s.ms.length h.mc, .slice h.la s.glob.length h.lc, .int .i64 s.c0, .int .i64 s.c1, .int .i64 s.c2, .int .i64 s.c3, .slice h.a0 s.w0.length h.k0, .slice h.a1 s.w1.length h.k1, .slice h.a2 s.w2.length h.k2, .slice h.a3 s.w3.length h.k3, .slice h.ta s.timers.length h.tc, .int .i64 s.clock, .int .i64 s.procs] = sv0
  go_wp2_with fail
  clear q2
  obtain ⟨qa, hqa⟩ : ∃ qa, h.qa = qa := ⟨_, rfl⟩
  have HQA := Lib.hid hqa
  rw [hqa]
  clear hqa
  go_loopw [8] (fun iv wr => ∃ k : Nat, k ≤ s.ps.length ∧ iv = .int .i64 k ∧ (∀ (j : Nat) g, s.ps[j]? = some g → j < k → s.holdP j g = true) ∧ Ext w1 wr) (fun iv _ => s.ps.length - (intOf iv).toNat)
  case atStart => exact ⟨0, by omega, rfl, fun j l _ h => by omega, Ext.refl _⟩
  case round =>
    obtain ⟨k, hk, rfl, hall, hx⟩ := hrel
    have HALL := Lib.hid hall
    have HX := Lib.hid hx
    clear hall hx
    by_cases hlt : k < s.ps.length
    · obtain ⟨p, hp⟩ : ∃ p, s.ps[k]? = some p := ⟨_, List.getElem?_eq_getElem hlt⟩
      have HST : Hid (s.holdP k p = false → allIx s.holdP 0 s.ps = false) := Lib.hid fun h => allIx_no hp h
      obtain ⟨m, nx, r, sq⟩ := p
      obtain ⟨b0, b1, b2, b3, b4, b5, b6, b7, hd, nn, rfl⟩ := Ri.open8 (HK.out.buf _ (List.mem_of_getElem? hp))
      have HG := Lib.hid hp
      obtain ⟨b, o, hA, hb, hc⟩ := ps_get (HK1.out.ext HX.out).ps hp
      rw [HQA.out] at hA
      subst hA
      obtain ⟨⟨p0, p1, p2, p3, p4, p5, p6⟩, p7, p8, p9, p10, p11, p12⟩ := hc
      obtain ⟨w3, hw3⟩ : ∃ w3, wr.alloc (.cells #[.int .i64 m, .int .i64 nx, .int .i64 b0, .int .i64 b1, .int .i64 b2, .int .i64 b3, .int .i64 b4, .int .i64 b5, .int .i64 b6, .int .i64 b7, .int .i64 hd, .int .i64 nn, .int .i64 sq] 77) = w3 := ⟨_, rfl⟩
      have HW3 := Lib.hid hw3
      have HX3 : Hid (Ext w1 w3) := Lib.hid (by rw [← hw3]; exact HX.out.alloc _)
      have HQ3 : Hid (w3.heap[wr.heap.size]? = some (.cells #[.int .i64 m, .int .i64 nx, .int .i64 b0, .int .i64 b1, .int .i64 b2, .int .i64 b3, .int .i64 b4, .int .i64 b5, .int .i64 b6, .int .i64 b7, .int .i64 hd, .int .i64 nn, .int .i64 sq] 77 (0, 0))) := Lib.hid (by rw [← hw3]; exact blk_new wr _)
      obtain ⟨mr, hmr⟩ : ∃ mr, Ri.may ⟨[b0, b1, b2, b3, b4, b5, b6, b7], hd, nn⟩ = mr := ⟨_, rfl⟩
      have HMR := Lib.hid hmr
      have HRM := Lib.hid (rmay_eq b0 b1 b2 b3 b4 b5 b6 b7 hd nn mr hmr w3)
      clear hp hb hw3 hmr
      go_upto_region 4 with fail
      rw [HW3.out]
      clear p0 p1 p2 p3 p4 p5 p6 p7 p8 p9 p10 p11 p12
      obtain ⟨⟨p0, p1, p2, p3, p4, p5, p6⟩, p7, p8, p9, p10, p11, p12⟩ := cells13 HQ3.out
      go_wp2_with fail
      refine HRM.out.mono ?_
      rintro e w4 ⟨rfl, hx4⟩
      have HX4 := Lib.hid (HX3.out.trans hx4)
      have HQ4 := Lib.hid (hx4.blk HQ3.out)
      clear p0 p1 p2 p3 p4 p5 p6 p7 p8 p9 p10 p11 p12
      clear hx4
      have y3 := st3 (HX4.out.blk HB1.out)
      have y15 := st15 (HX4.out.blk HB1.out)
      have z0 := blk_cell HQ4.out 0 _ rfl
      have z1 := blk_cell HQ4.out 1 _ rfl
      have z11 := blk_cell HQ4.out 11 _ rfl
      have z12 := blk_cell HQ4.out 12 _ rfl
      cases mr with
      | false =>
        have HNO : Hid (allIx s.holdP 0 s.ps = false) := Lib.hid (HST.out (holdP_no1 HMR.out))
        go_wp2
        (go_ret; exact ⟨by rw [HNO.out] <;> rfl, HX1.out.trans HX4.out⟩)
      | true =>
      have HNN : Hid (0 ≤ nn) := Lib.hid (by
        have hi : Ri.inside ⟨[b0, b1, b2, b3, b4, b5, b6, b7], hd, nn⟩ = true := by have := HMR.out; unfold Ri.may at this; rw [Bool.and_eq_true] at this; exact this.1
        exact ((Ri.inside_iff _).1 hi).2.1)
      go_wp2_with fail
      refine (smayNumber_any sq _).mono ?_
      rintro e w' ⟨rfl, rfl⟩
      cases hlow : St.low sq with
      | false =>
        have HNO : Hid (allIx s.holdP 0 s.ps = false) := Lib.hid (HST.out (holdP_no2 hlow))
        go_wp2
        (go_ret; exact ⟨by rw [HNO.out] <;> rfl, HX1.out.trans HX4.out⟩)
      | true =>
      have HLOW := Lib.hid hlow
      clear hlow
      by_cases a0 : m = 0
      · subst a0
        by_cases d1 : (k : Int) < s.procs
        · have HYES : Hid (s.holdP k ⟨0, nx, ⟨[b0, b1, b2, b3, b4, b5, b6, b7], hd, nn⟩, sq⟩ = true) := Lib.hid (holdP_yes HMR.out HLOW.out (by simp) (fun h => by simp at h) (.inl d1))
          go_wp2
          go_roundw
          case rel =>
            refine ⟨k + 1, by omega, by go_num, fun i y hi hij => ?_, HX4.out⟩
            by_cases hij2 : i < k
            · exact HALL.out i y hi hij2
            · obtain rfl : i = k := by omega
              rw [← some_eq HG.out hi]
              exact HYES.out
          case measure => simp [intOf]; omega
        · by_cases d2 : nx = 0
          · subst d2
            by_cases d3 : nn = 0
            · have HYES : Hid (s.holdP k ⟨0, 0, ⟨[b0, b1, b2, b3, b4, b5, b6, b7], hd, nn⟩, sq⟩ = true) := Lib.hid (holdP_yes HMR.out HLOW.out (by simp) (fun h => by simp at h) (.inr ⟨rfl, rfl, by simp only; omega⟩))
              subst d3
              go_wp2
              go_roundw
              case rel =>
                refine ⟨k + 1, by omega, by go_num, fun i y hi hij => ?_, HX4.out⟩
                by_cases hij2 : i < k
                · exact HALL.out i y hi hij2
                · obtain rfl : i = k := by omega
                  rw [← some_eq HG.out hi]
                  exact HYES.out
              case measure => simp [intOf]; omega
            · have HNO : Hid (allIx s.holdP 0 s.ps = false) := Lib.hid (HST.out (holdP_no5 (by omega) (.inr (.inr (by have := HNN.out; simp only; omega)))))
              have d3' : (nn != 0) = true := by simpa using d3
              clear d3
              go_wp2
              (go_ret; exact ⟨by rw [HNO.out] <;> rfl, HX1.out.trans HX4.out⟩)
          · have HNO : Hid (allIx s.holdP 0 s.ps = false) := Lib.hid (HST.out (holdP_no5 (by omega) (.inr (.inl d2))))
            have d2' : (nx != 0) = true := by simpa using d2
            clear d2
            go_wp2
            (go_ret; exact ⟨by rw [HNO.out] <;> rfl, HX1.out.trans HX4.out⟩)
      · have a0' : (m != 0) = true := by simpa using a0
        have HA0 := Lib.hid a0
        clear a0
        go_wp2_with fail
        refine (swithin_any m 1 (s.ms.length : Int) _).mono ?_
        rintro e w' ⟨rfl, rfl⟩
        cases bb : wiB m 1 (s.ms.length : Int) with
        | false =>
          have HNO : Hid (allIx s.holdP 0 s.ps = false) := Lib.hid (HST.out (holdP_no3 (fun h => by
            have := HA0.out
            rw [wiB_iff.2 (show 1 ≤ m ∧ m ≤ (s.ms.length : Int) by have := h.1; have := h.2; simp only at *; omega)] at bb
            cases bb)))
          go_wp2
          (go_ret; exact ⟨by rw [HNO.out] <;> rfl, HX1.out.trans HX4.out⟩)
        | true =>
          obtain ⟨fb1, fb2⟩ := wiB_iff.1 bb
          obtain ⟨j, hj⟩ : ∃ j : Nat, m = (j : Int) + 1 := ⟨(m - 1).toNat, by omega⟩
          subst hj
          obtain ⟨x, hx⟩ : ∃ x, s.ms[j]? = some x := ⟨_, List.getElem?_eq_getElem (by omega)⟩
          obtain ⟨bm, om, hAm, hbm, c0, c1⟩ := frs2_get (HK1.out.ext HX4.out).ms hx
          have HMX : Hid ((s.ms.getD ((j : Int) + 1 - 1).toNat (0, 0)).1 = x.1) := Lib.hid (by
            rw [show ((j : Int) + 1 - 1).toNat = j by omega, List.getD, hx]; rfl)
          have HM3 : Hid (0 ≤ (j : Int) + 1 ∧ (j : Int) + 1 ≤ s.ms.length) := Lib.hid ⟨by omega, fb2⟩
          have e1 : (j : Int) + 1 - 1 = (j : Int) := by omega
          have e4 : (j : Int) < (s.ms.length : Int) := by omega
          obtain ⟨xp, xg⟩ := x
          simp only at HMX c0
          clear hx hbm c1 fb1
          by_cases d0 : xp = (k : Int) + 1
          · subst d0
            by_cases d1 : (k : Int) < s.procs
            · have HYES : Hid (s.holdP k ⟨(j : Int) + 1, nx, ⟨[b0, b1, b2, b3, b4, b5, b6, b7], hd, nn⟩, sq⟩ = true) := Lib.hid (holdP_yes HMR.out HLOW.out HM3.out (fun _ => HMX.out) (.inl d1))
              go_wp2
              go_roundw
              case rel =>
                refine ⟨k + 1, by omega, by go_num, fun i y hi hij => ?_, HX4.out⟩
                by_cases hij2 : i < k
                · exact HALL.out i y hi hij2
                · obtain rfl : i = k := by omega
                  rw [← some_eq HG.out hi]
                  exact HYES.out
              case measure => simp [intOf]; omega
            · have HNO : Hid (allIx s.holdP 0 s.ps = false) := Lib.hid (HST.out (holdP_no5 (by omega) (.inl (by simp only; omega))))
              go_wp2
              (go_ret; exact ⟨by rw [HNO.out] <;> rfl, HX1.out.trans HX4.out⟩)
          · have HNO : Hid (allIx s.holdP 0 s.ps = false) := Lib.hid (HST.out (holdP_no4 (fun h => d0 (by have := h (by simp only; omega); simp only [HMX.out] at this; exact this))))
            have d0' : (xp != (k : Int) + 1) = true := by simpa using d0
            clear d0
            go_wp2
            (go_ret; exact ⟨by rw [HNO.out] <;> rfl, HX1.out.trans HX4.out⟩)
    · obtain rfl : k = s.ps.length := by omega
      have HY : Hid (allIx s.holdP 0 s.ps = true) := Lib.hid (allIx_yes fun j l hj => HALL.out j l hj (List.getElem?_eq_some_iff.1 hj).1)
      go_wp2
      go_ret
      exact ⟨by rw [HY.out] <;> rfl, HX1.out.trans HX.out⟩
def closF (b : Nat) : Value := .func (.func 109) #[] #[.pointer (some ⟨b, 0, none⟩)]
def closL (b : Nat) : Value := .func (.func 110) #[] #[.pointer (some ⟨b, 0, none⟩)]
def ClosAt (w : World) (v : Value) (m : Int) : Prop := ∃ b, (v = closF b ∧ w.heap[b]? = some (.cells #[.int .i64 m] 3 (0, 0))) ∨ (v = closL b ∧ w.heap[b]? = some (.cells #[.int .i64 (m + 1)] 3 (0, 0)))
theorem ClosAt.ext {w w' : World} {v : Value} {m : Int} (h : ClosAt w v m) (hx : Ext w w') : ClosAt w' v m := by
  obtain ⟨b, h | h⟩ := h
  · exact ⟨b, .inl ⟨h.1, hx.blk h.2⟩⟩
  · exact ⟨b, .inr ⟨h.1, hx.blk h.2⟩⟩
set_option maxHeartbeats 1000000 in
theorem closF_any (b : Nat) (m : Int) (w : World) (h : w.heap[b]? = some (.cells #[.int .i64 m] 3 (0, 0))) : Calls Try.prog 109 #[.pointer (some ⟨b, 0, none⟩)] w fun e w' => e = .returned (.int .i64 m) ∧ w' = w := by
  have c := blk_cell h 0 _ rfl
  clear h
  go_enter Try.func109, Try.ntmps109
  go_wp2
  go_ret
  exact ⟨rfl, rfl⟩
set_option maxHeartbeats 1000000 in
theorem closL_any (b : Nat) (m : Int) (w : World) (h : w.heap[b]? = some (.cells #[.int .i64 (m + 1)] 3 (0, 0))) (h0 : -10 ≤ m ∧ m ≤ 1000000) : Calls Try.prog 110 #[.pointer (some ⟨b, 0, none⟩)] w fun e w' => e = .returned (.int .i64 m) ∧ w' = w := by
  have c := blk_cell h 0 _ rfl
  have e1 : m + 1 - 1 = m := by omega
  obtain ⟨h1, h2⟩ := h0
  clear h
  go_enter Try.func110, Try.ntmps110
  go_wp2
  go_ret
  exact ⟨rfl, rfl⟩
set_option maxHeartbeats 1000000 in
theorem fixed_any (m : Int) (w : World) : Calls Try.prog 108 #[.int .i64 m] w fun e w' => e = .returned (closF w.heap.size) ∧ w' = w.alloc (.cells #[.int .i64 m] 3) := by
  go_enter Try.func108, Try.ntmps108
  go_wp2
  go_ret
  exact ⟨rfl, rfl⟩
set_option maxHeartbeats 2000000 in
theorem shmay_any (nm : ByteArray) (nb : Bool) (cv : Value) (m a : Int) (w : World) (h : ClosAt w cv m) (h0 : -10 ≤ m ∧ m ≤ 1000000) (r : Bool) (hr : decide (0 ≤ a ∧ a ≤ m) = r) : Calls Try.prog 101 #[.agg #[.string nm, .bool nb, cv], .int .i64 a] w fun e w' => e = .returned (.bool r) ∧ Ext w w' := by
  obtain ⟨b, h | h⟩ := h
  · obtain ⟨rfl, hb⟩ := h
    unfold closF
    obtain ⟨w1, hw1⟩ : ∃ w1, w.alloc (.cells #[.string nm, .bool nb, .func (.func 109) #[] #[.pointer (some ⟨b, 0, none⟩)]] 139) = w1 := ⟨_, rfl⟩
    have HX1 : Hid (Ext w w1) := Lib.hid (by rw [← hw1]; exact (Ext.refl w).alloc _)
    have hq : w1.heap[w.heap.size]? = some (.cells #[.string nm, .bool nb, .func (.func 109) #[] #[.pointer (some ⟨b, 0, none⟩)]] 139 (0, 0)) := by rw [← hw1]; exact blk_new w _
    have HC := Lib.hid (closF_any b m w1 (HX1.out.blk hb))
    have HW1 := Lib.hid hw1
    have q2 := blk_cell hq 2 _ rfl
    clear hb hq hw1
    by_cases a0 : a < 0
    · obtain rfl : r = false := by rw [← hr, decide_eq_false (by omega)]
      clear hr
      go_enter Try.func101, Try.ntmps101
      go_wp2_with (rw [HW1.out])
      go_ret
      exact ⟨rfl, HX1.out⟩
    · have a0' : 0 ≤ a := by omega
      clear a0
      by_cases a1 : a ≤ m
      · obtain rfl : r = true := by rw [← hr, decide_eq_true (by omega)]
        clear hr
        go_enter Try.func101, Try.ntmps101
        go_wp2_with (rw [HW1.out])
        refine HC.out.mono ?_
        rintro e w' ⟨rfl, rfl⟩
        go_wp2
        go_ret
        exact ⟨rfl, HX1.out⟩
      · obtain rfl : r = false := by rw [← hr, decide_eq_false (by omega)]
        clear hr
        have a1' : decide (a ≤ m) = false := by simpa using a1
        clear a1
        go_enter Try.func101, Try.ntmps101
        go_wp2_with (rw [HW1.out])
        refine HC.out.mono ?_
        rintro e w' ⟨rfl, rfl⟩
        go_wp2
        go_ret
        exact ⟨rfl, HX1.out⟩
  · obtain ⟨rfl, hb⟩ := h
    unfold closL
    obtain ⟨w1, hw1⟩ : ∃ w1, w.alloc (.cells #[.string nm, .bool nb, .func (.func 110) #[] #[.pointer (some ⟨b, 0, none⟩)]] 139) = w1 := ⟨_, rfl⟩
    have HX1 : Hid (Ext w w1) := Lib.hid (by rw [← hw1]; exact (Ext.refl w).alloc _)
    have hq : w1.heap[w.heap.size]? = some (.cells #[.string nm, .bool nb, .func (.func 110) #[] #[.pointer (some ⟨b, 0, none⟩)]] 139 (0, 0)) := by rw [← hw1]; exact blk_new w _
    have HC := Lib.hid (closL_any b m w1 (HX1.out.blk hb) h0)
    have HW1 := Lib.hid hw1
    have q2 := blk_cell hq 2 _ rfl
    clear hb hq hw1
    by_cases a0 : a < 0
    · obtain rfl : r = false := by rw [← hr, decide_eq_false (by omega)]
      clear hr
      go_enter Try.func101, Try.ntmps101
      go_wp2_with (rw [HW1.out])
      go_ret
      exact ⟨rfl, HX1.out⟩
    · have a0' : 0 ≤ a := by omega
      clear a0
      by_cases a1 : a ≤ m
      · obtain rfl : r = true := by rw [← hr, decide_eq_true (by omega)]
        clear hr
        go_enter Try.func101, Try.ntmps101
        go_wp2_with (rw [HW1.out])
        refine HC.out.mono ?_
        rintro e w' ⟨rfl, rfl⟩
        go_wp2
        go_ret
        exact ⟨rfl, HX1.out⟩
      · obtain rfl : r = false := by rw [← hr, decide_eq_false (by omega)]
        clear hr
        have a1' : decide (a ≤ m) = false := by simpa using a1
        clear a1
        go_enter Try.func101, Try.ntmps101
        go_wp2_with (rw [HW1.out])
        refine HC.out.mono ?_
        rintro e w' ⟨rfl, rfl⟩
        go_wp2
        go_ret
        exact ⟨rfl, HX1.out⟩
def ShapesOk (w : World) (cs : Array Value) (n : Int) : Prop := cs.size = 21 ∧ ∀ d : Nat, d < 7 → ∃ nm nb cv, cs[d * 3]? = some (.string nm) ∧ cs[d * 3 + 1]? = some (.bool nb) ∧ cs[d * 3 + 2]? = some cv ∧ ClosAt w cv (Pg.most n d)
theorem ShapesOk.ext {w w' : World} {cs : Array Value} {n : Int} (h : ShapesOk w cs n) (hx : Ext w w') : ShapesOk w' cs n := by
  refine ⟨h.1, fun d hd => ?_⟩
  obtain ⟨nm, nb, cv, h1, h2, h3, h4⟩ := h.2 d hd
  exact ⟨nm, nb, cv, h1, h2, h3, h4.ext hx⟩
def ShapesP (n : Int) (w : World) (e : Ending) (w' : World) : Prop := ∃ cs, e = .returned (.agg cs) ∧ ShapesOk w' cs n ∧ Ext w w'
set_option maxRecDepth 100000 in
set_option maxHeartbeats 8000000 in
theorem shapes_any (n : Int) (w : World) (hn : 0 ≤ n ∧ n ≤ 100000) : Calls Try.prog 100 #[.int .i64 n] w (ShapesP n w) := by
  obtain ⟨w1, hw1⟩ : ∃ w1, w.alloc (.cells #[.int .i64 n] 3) = w1 := ⟨_, rfl⟩
  obtain ⟨w2, hw2⟩ : ∃ w2, w1.alloc (.cells #[.string ⟨#[]⟩, .bool false, .nilFunc, .string ⟨#[]⟩, .bool false, .nilFunc, .string ⟨#[]⟩, .bool false, .nilFunc, .string ⟨#[]⟩, .bool false, .nilFunc, .string ⟨#[]⟩, .bool false, .nilFunc, .string ⟨#[]⟩, .bool false, .nilFunc, .string ⟨#[]⟩, .bool false, .nilFunc] 140) = w2 := ⟨_, rfl⟩
  have HX1 : Hid (Ext w w1) := Lib.hid (by rw [← hw1]; exact (Ext.refl w).alloc _)
  have HX2 : Hid (Ext w1 w2) := Lib.hid (by rw [← hw2]; exact (Ext.refl w1).alloc _)
  have HN1 : Hid (w1.heap[w.heap.size]? = some (.cells #[.int .i64 n] 3 (0, 0))) := Lib.hid (by rw [← hw1]; exact blk_new w _)
  have HB2 : Hid (w2.heap[w1.heap.size]? = some (.cells #[.string ⟨#[]⟩, .bool false, .nilFunc, .string ⟨#[]⟩, .bool false, .nilFunc, .string ⟨#[]⟩, .bool false, .nilFunc, .string ⟨#[]⟩, .bool false, .nilFunc, .string ⟨#[]⟩, .bool false, .nilFunc, .string ⟨#[]⟩, .bool false, .nilFunc, .string ⟨#[]⟩, .bool false, .nilFunc] 140 (0, 0))) := Lib.hid (by rw [← hw2]; exact blk_new w1 _)
  have HW1 := Lib.hid hw1
  have HW2 := Lib.hid hw2
  have HNN := Lib.hid hn
  clear hw1 hw2 hn
  go_enter Try.func100, Try.ntmps100
  go_wp2_with (first | rw [HW1.out] | rw [HW2.out])
  refine (fixed_any 0 w2).mono ?_
  rintro e w3 ⟨rfl, hw3⟩
  have HX3 : Hid (Ext w2 w3) := Lib.hid (by rw [hw3]; exact (Ext.refl w2).alloc _)
  have HC3 : Hid (w3.heap[w2.heap.size]? = some (.cells #[.int .i64 0] 3 (0, 0))) := Lib.hid (by rw [hw3]; exact blk_new w2 _)
  clear hw3
  unfold closF
  go_wp2_with fail
  refine (fixed_any 0 w3).mono ?_
  rintro e w4 ⟨rfl, hw4⟩
  have HX4 : Hid (Ext w3 w4) := Lib.hid (by rw [hw4]; exact (Ext.refl w3).alloc _)
  have HC4 : Hid (w4.heap[w3.heap.size]? = some (.cells #[.int .i64 0] 3 (0, 0))) := Lib.hid (by rw [hw4]; exact blk_new w3 _)
  clear hw4
  unfold closF
  go_wp2_with fail
  refine (fixed_any 3 w4).mono ?_
  rintro e w5 ⟨rfl, hw5⟩
  have HX5 : Hid (Ext w4 w5) := Lib.hid (by rw [hw5]; exact (Ext.refl w4).alloc _)
  have HC5 : Hid (w5.heap[w4.heap.size]? = some (.cells #[.int .i64 3] 3 (0, 0))) := Lib.hid (by rw [hw5]; exact blk_new w4 _)
  clear hw5
  unfold closF
  go_wp2_with fail
  refine (fixed_any 3 w5).mono ?_
  rintro e w6 ⟨rfl, hw6⟩
  have HX6 : Hid (Ext w5 w6) := Lib.hid (by rw [hw6]; exact (Ext.refl w5).alloc _)
  have HC6 : Hid (w6.heap[w5.heap.size]? = some (.cells #[.int .i64 3] 3 (0, 0))) := Lib.hid (by rw [hw6]; exact blk_new w5 _)
  clear hw6
  unfold closF
  go_wp2_with fail
  refine (fixed_any 0 w6).mono ?_
  rintro e w7 ⟨rfl, hw7⟩
  have HX7 : Hid (Ext w6 w7) := Lib.hid (by rw [hw7]; exact (Ext.refl w6).alloc _)
  have HC7 : Hid (w7.heap[w6.heap.size]? = some (.cells #[.int .i64 0] 3 (0, 0))) := Lib.hid (by rw [hw7]; exact blk_new w6 _)
  clear hw7
  unfold closF
  go_wp2_with fail
  refine (fixed_any 1000 w7).mono ?_
  rintro e w8 ⟨rfl, hw8⟩
  have HX8 : Hid (Ext w7 w8) := Lib.hid (by rw [hw8]; exact (Ext.refl w7).alloc _)
  have HC8 : Hid (w8.heap[w7.heap.size]? = some (.cells #[.int .i64 1000] 3 (0, 0))) := Lib.hid (by rw [hw8]; exact blk_new w7 _)
  clear hw8
  unfold closF
  have HXL : Hid (Ext w2 w8) := Lib.hid (((((HX3.out.trans HX4.out).trans HX5.out).trans HX6.out).trans HX7.out).trans HX8.out)
  have HBL := Lib.hid (HXL.out.blk HB2.out)
  obtain ⟨w9, hw9⟩ : ∃ w9, w8.setCells w1.heap.size 0 [.string ⟨#[119, 111, 114, 107]⟩, .bool false, .func (.func 109) #[] #[.pointer (some ⟨w2.heap.size, 0, none⟩)], .string ⟨#[115, 112, 97, 119, 110]⟩, .bool true, .func (.func 110) #[] #[.pointer (some ⟨w.heap.size, 0, none⟩)], .string ⟨#[121, 105, 101, 108, 100]⟩, .bool false, .func (.func 109) #[] #[.pointer (some ⟨w3.heap.size, 0, none⟩)], .string ⟨#[97, 99, 113, 117, 105, 114, 101]⟩, .bool true, .func (.func 109) #[] #[.pointer (some ⟨w4.heap.size, 0, none⟩)], .string ⟨#[114, 101, 108, 101, 97, 115, 101]⟩, .bool true, .func (.func 109) #[] #[.pointer (some ⟨w5.heap.size, 0, none⟩)], .string ⟨#[115, 121, 115]⟩, .bool false, .func (.func 109) #[] #[.pointer (some ⟨w6.heap.size, 0, none⟩)], .string ⟨#[115, 108, 101, 101, 112]⟩, .bool true, .func (.func 109) #[] #[.pointer (some ⟨w7.heap.size, 0, none⟩)]] = w9 := ⟨_, rfl⟩
  have HW9 := Lib.hid hw9
  have HB9 : Hid (w9.heap[w1.heap.size]? = some (.cells #[.string ⟨#[119, 111, 114, 107]⟩, .bool false, .func (.func 109) #[] #[.pointer (some ⟨w2.heap.size, 0, none⟩)], .string ⟨#[115, 112, 97, 119, 110]⟩, .bool true, .func (.func 110) #[] #[.pointer (some ⟨w.heap.size, 0, none⟩)], .string ⟨#[121, 105, 101, 108, 100]⟩, .bool false, .func (.func 109) #[] #[.pointer (some ⟨w3.heap.size, 0, none⟩)], .string ⟨#[97, 99, 113, 117, 105, 114, 101]⟩, .bool true, .func (.func 109) #[] #[.pointer (some ⟨w4.heap.size, 0, none⟩)], .string ⟨#[114, 101, 108, 101, 97, 115, 101]⟩, .bool true, .func (.func 109) #[] #[.pointer (some ⟨w5.heap.size, 0, none⟩)], .string ⟨#[115, 121, 115]⟩, .bool false, .func (.func 109) #[] #[.pointer (some ⟨w6.heap.size, 0, none⟩)], .string ⟨#[115, 108, 101, 101, 112]⟩, .bool true, .func (.func 109) #[] #[.pointer (some ⟨w7.heap.size, 0, none⟩)]] 140 (0, 0))) := Lib.hid (by rw [← hw9]; exact setCells_at [.string ⟨#[]⟩, .bool false, .nilFunc, .string ⟨#[]⟩, .bool false, .nilFunc, .string ⟨#[]⟩, .bool false, .nilFunc, .string ⟨#[]⟩, .bool false, .nilFunc, .string ⟨#[]⟩, .bool false, .nilFunc, .string ⟨#[]⟩, .bool false, .nilFunc, .string ⟨#[]⟩, .bool false, .nilFunc] _ rfl HBL.out)
  have hu9 : Upd w1.heap.size w8 w9 := by rw [← hw9]; exact setCells_upd _ _ _ _
  have HX9 : Hid (Ext w1 w9) := Lib.hid ((HX2.out.trans HXL.out).upd hu9 (Nat.le_refl _))
  have HU9 := Lib.hid hu9
  have HTH : Hid (w8.there w1.heap.size 0 21) := Lib.hid (there_row HBL.out (Nat.le_refl 21))
  have HON : Hid (∀ u ∈ ([.string ⟨#[119, 111, 114, 107]⟩, .bool false, .func (.func 109) #[] #[.pointer (some ⟨w2.heap.size, 0, none⟩)], .string ⟨#[115, 112, 97, 119, 110]⟩, .bool true, .func (.func 110) #[] #[.pointer (some ⟨w.heap.size, 0, none⟩)], .string ⟨#[121, 105, 101, 108, 100]⟩, .bool false, .func (.func 109) #[] #[.pointer (some ⟨w3.heap.size, 0, none⟩)], .string ⟨#[97, 99, 113, 117, 105, 114, 101]⟩, .bool true, .func (.func 109) #[] #[.pointer (some ⟨w4.heap.size, 0, none⟩)], .string ⟨#[114, 101, 108, 101, 97, 115, 101]⟩, .bool true, .func (.func 109) #[] #[.pointer (some ⟨w5.heap.size, 0, none⟩)], .string ⟨#[115, 121, 115]⟩, .bool false, .func (.func 109) #[] #[.pointer (some ⟨w6.heap.size, 0, none⟩)], .string ⟨#[115, 108, 101, 101, 112]⟩, .bool true, .func (.func 109) #[] #[.pointer (some ⟨w7.heap.size, 0, none⟩)]] : List Value), u.oneCell' = true) := Lib.hid (by simp [Value.oneCell'])
  clear hw9 hu9
  rename_i K hK
  refine hK _ _ ?_
  refine wpList_plain rfl fun K2 hK2 => ?_
  go_simp
  refine hK2 _ _ ?_
  refine wpList_plain rfl fun K3 hK3 => ?_
  go_simp
  refine hK3 _ _ ?_
  refine wpList_store_row rfl 140 _ _ rfl w1.heap.size [.string ⟨#[119, 111, 114, 107]⟩, .bool false, .func (.func 109) #[] #[.pointer (some ⟨w2.heap.size, 0, none⟩)], .string ⟨#[115, 112, 97, 119, 110]⟩, .bool true, .func (.func 110) #[] #[.pointer (some ⟨w.heap.size, 0, none⟩)], .string ⟨#[121, 105, 101, 108, 100]⟩, .bool false, .func (.func 109) #[] #[.pointer (some ⟨w3.heap.size, 0, none⟩)], .string ⟨#[97, 99, 113, 117, 105, 114, 101]⟩, .bool true, .func (.func 109) #[] #[.pointer (some ⟨w4.heap.size, 0, none⟩)], .string ⟨#[114, 101, 108, 101, 97, 115, 101]⟩, .bool true, .func (.func 109) #[] #[.pointer (some ⟨w5.heap.size, 0, none⟩)], .string ⟨#[115, 121, 115]⟩, .bool false, .func (.func 109) #[] #[.pointer (some ⟨w6.heap.size, 0, none⟩)], .string ⟨#[115, 108, 101, 101, 112]⟩, .bool true, .func (.func 109) #[] #[.pointer (some ⟨w7.heap.size, 0, none⟩)]] _ ?_ ?_ rfl HTH.out (by kernel_rfl) HON.out HW9.out ?_
  · go_simp
  · go_simp
  go_wp2
  refine bodyPost_ret (v := .agg #[.string ⟨#[119, 111, 114, 107]⟩, .bool false, .func (.func 109) #[] #[.pointer (some ⟨w2.heap.size, 0, none⟩)], .string ⟨#[115, 112, 97, 119, 110]⟩, .bool true, .func (.func 110) #[] #[.pointer (some ⟨w.heap.size, 0, none⟩)], .string ⟨#[121, 105, 101, 108, 100]⟩, .bool false, .func (.func 109) #[] #[.pointer (some ⟨w3.heap.size, 0, none⟩)], .string ⟨#[97, 99, 113, 117, 105, 114, 101]⟩, .bool true, .func (.func 109) #[] #[.pointer (some ⟨w4.heap.size, 0, none⟩)], .string ⟨#[114, 101, 108, 101, 97, 115, 101]⟩, .bool true, .func (.func 109) #[] #[.pointer (some ⟨w5.heap.size, 0, none⟩)], .string ⟨#[115, 121, 115]⟩, .bool false, .func (.func 109) #[] #[.pointer (some ⟨w6.heap.size, 0, none⟩)], .string ⟨#[115, 108, 101, 101, 112]⟩, .bool true, .func (.func 109) #[] #[.pointer (some ⟨w7.heap.size, 0, none⟩)]]) (results_cell_row rfl _ _ w1.heap.size _ _ _ _ rfl HB9.out Try.underlying140 rfl (by kernel_rfl)) rfl ?_
  refine ⟨_, rfl, ⟨rfl, fun d hd => ?_⟩, HX1.out.trans HX9.out⟩
  have hz1 : w.heap.size < w1.heap.size := blk_lt HN1.out
  have hz2 : w1.heap.size < w2.heap.size := blk_lt HB2.out
  have hz3 := HX3.out.size
  have hz4 := HX4.out.size
  have hz5 := HX5.out.size
  have hz6 := HX6.out.size
  have hz7 := HX7.out.size
  have hz8 := HX8.out.size
  obtain rfl | rfl | rfl | rfl | rfl | rfl | rfl : d = 0 ∨ d = 1 ∨ d = 2 ∨ d = 3 ∨ d = 4 ∨ d = 5 ∨ d = 6 := by omega
  · exact ⟨_, _, _, rfl, rfl, rfl, ⟨w2.heap.size, .inl ⟨rfl, HU9.out.blk (((((HX4.out.trans HX5.out).trans HX6.out).trans HX7.out).trans HX8.out).blk HC3.out) (by omega)⟩⟩⟩
  · exact ⟨_, _, _, rfl, rfl, rfl, ⟨w.heap.size, .inr ⟨rfl, HU9.out.blk ((HX2.out.trans HXL.out).blk (by rw [show Pg.most n ((1 : Nat) : Int) + 1 = n by simp [Pg.most]]; exact HN1.out)) (by omega)⟩⟩⟩
  · exact ⟨_, _, _, rfl, rfl, rfl, ⟨w3.heap.size, .inl ⟨rfl, HU9.out.blk ((((HX5.out.trans HX6.out).trans HX7.out).trans HX8.out).blk HC4.out) (by omega)⟩⟩⟩
  · exact ⟨_, _, _, rfl, rfl, rfl, ⟨w4.heap.size, .inl ⟨rfl, HU9.out.blk (((HX6.out.trans HX7.out).trans HX8.out).blk HC5.out) (by omega)⟩⟩⟩
  · exact ⟨_, _, _, rfl, rfl, rfl, ⟨w5.heap.size, .inl ⟨rfl, HU9.out.blk ((HX7.out.trans HX8.out).blk HC6.out) (by omega)⟩⟩⟩
  · exact ⟨_, _, _, rfl, rfl, rfl, ⟨w6.heap.size, .inl ⟨rfl, HU9.out.blk (HX8.out.blk HC7.out) (by omega)⟩⟩⟩
  · exact ⟨_, _, _, rfl, rfl, rfl, ⟨w7.heap.size, .inl ⟨rfl, HU9.out.blk (HC8.out) (by omega)⟩⟩⟩
theorem shapes_one {w : World} {cs : Array Value} {n : Int} (h : ShapesOk w cs n) : ∀ u ∈ cs.toList, u.oneCell' = true := fun u hu => by
  obtain ⟨i, hi⟩ := List.mem_iff_getElem?.1 hu
  have hlt : i < 21 := by have := (List.getElem?_eq_some_iff.1 hi).1; have h2 := h.1; simp at this; omega
  obtain ⟨nm, nb, cv, g0, g1, g2, b, hcv⟩ := h.2 (i / 3) (by omega)
  have hi' : cs[i]? = some u := by simpa using hi
  obtain hr | hr | hr : i % 3 = 0 ∨ i % 3 = 1 ∨ i % 3 = 2 := by omega
  · rw [show i / 3 * 3 = i by omega, hi'] at g0
    injection g0 with g0
    subst g0
    rfl
  · rw [show i / 3 * 3 + 1 = i by omega, hi'] at g1
    injection g1 with g1
    subst g1
    rfl
  · rw [show i / 3 * 3 + 2 = i by omega, hi'] at g2
    injection g2 with g2
    subst g2
    rcases hcv with hcv | hcv
    · rw [hcv.1]; rfl
    · rw [hcv.1]; rfl
set_option maxRecDepth 100000 in
set_option maxHeartbeats 8000000 in
theorem pmay_any (v : Value) (p : List (List (Int × Int))) (r : Bool) (hr : Pg.may p = r) (w : World) (h : NestAt 2 pairL w v p) (h1 : p.length ≤ 100000) (h2 : ∀ l ∈ p, l.length ≤ 100000) :
    Calls Try.prog 85 #[v] w fun e w' => e = .returned (.bool r) ∧ Ext w w' := by
  subst hr
  have H := Lib.hid h
  have H2 := Lib.hid h2
  obtain ⟨A, c, rfl⟩ := h.form2
  clear h h2
  by_cases a1 : p = []
  · have HT : Hid (Pg.may p = false) := Lib.hid (by subst a1; rfl)
    subst a1
    simp only [List.length_nil] at *
    go_enter Try.func85, Try.ntmps85
    go_wp2
    go_ret
    exact ⟨by rw [HT.out] <;> rfl, Ext.refl _⟩
  have hpos := List.length_pos_iff.2 a1
  have a0' : ((p.length : Int) == 0) = false := by simp; omega
  by_cases a2 : 8 < p.length
  · have HT : Hid (Pg.may p = false) := Lib.hid (by unfold Pg.may; rw [decide_eq_false (by omega)]; rfl)
    have a2' : (8 : Int) < (p.length : Int) := by omega
    clear hpos
    go_enter Try.func85, Try.ntmps85
    go_wp2
    go_ret
    exact ⟨by rw [HT.out] <;> rfl, Ext.refl _⟩
  have a1' : (1 : Int) ≤ (p.length : Int) := by omega
  have a2' : (p.length : Int) ≤ 8 := by omega
  have HST : Hid (∀ (j : Nat) l, p[j]? = some l → Pg.okC p.length l = false → Pg.may p = false) := Lib.hid fun j l hj hl => by
    unfold Pg.may; rw [all_no hj hl, Bool.and_false]
  have HOK : Hid ((∀ (j : Nat) l, p[j]? = some l → Pg.okC p.length l = true) → Pg.may p = true) := Lib.hid fun h => by
    unfold Pg.may; rw [all_yes h, decide_eq_true (by omega)]; rfl
  clear a2 hpos
  go_enter Try.func85, Try.ntmps85
  go_wp2_with fail
  refine (shapes_any p.length w ⟨by omega, by omega⟩).mono ?_
  rintro e ws ⟨cs, rfl, hsh, hxs⟩
  obtain ⟨wy, hwy⟩ : ∃ wy, ws.alloc (.cells #[.string ⟨#[]⟩, .bool false, .nilFunc, .string ⟨#[]⟩, .bool false, .nilFunc, .string ⟨#[]⟩, .bool false, .nilFunc, .string ⟨#[]⟩, .bool false, .nilFunc, .string ⟨#[]⟩, .bool false, .nilFunc, .string ⟨#[]⟩, .bool false, .nilFunc, .string ⟨#[]⟩, .bool false, .nilFunc] 140) = wy := ⟨_, rfl⟩
  have hyb : wy.heap[ws.heap.size]? = some (.cells #[.string ⟨#[]⟩, .bool false, .nilFunc, .string ⟨#[]⟩, .bool false, .nilFunc, .string ⟨#[]⟩, .bool false, .nilFunc, .string ⟨#[]⟩, .bool false, .nilFunc, .string ⟨#[]⟩, .bool false, .nilFunc, .string ⟨#[]⟩, .bool false, .nilFunc, .string ⟨#[]⟩, .bool false, .nilFunc] 140 (0, 0)) := by rw [← hwy]; exact blk_new ws _
  obtain ⟨wz, hwz⟩ : ∃ wz, wy.setCells ws.heap.size 0 cs.toList = wz := ⟨_, rfl⟩
  have hc21 : cs.toList.length = 21 := by simpa using hsh.1
  have hxy : Ext w wy := by rw [← hwy]; exact hxs.alloc _
  have HX0 : Hid (Ext w wz) := Lib.hid (by rw [← hwz]; exact hxy.upd (setCells_upd _ _ _ _) hxs.size)
  have HSB : Hid (wz.heap[ws.heap.size]? = some (.cells cs 140 (0, 0))) := Lib.hid (by
    rw [← hwz]
    have := setCells_at [.string ⟨#[]⟩, .bool false, .nilFunc, .string ⟨#[]⟩, .bool false, .nilFunc, .string ⟨#[]⟩, .bool false, .nilFunc, .string ⟨#[]⟩, .bool false, .nilFunc, .string ⟨#[]⟩, .bool false, .nilFunc, .string ⟨#[]⟩, .bool false, .nilFunc, .string ⟨#[]⟩, .bool false, .nilFunc] cs.toList (by rw [hc21]; rfl) hyb
    simpa using this)
  have HSH : Hid (ShapesOk wz cs p.length) := Lib.hid (by
    refine hsh.ext ?_
    rw [← hwz, ← hwy]
    exact ((Ext.refl ws).alloc _).upd (setCells_upd _ _ _ _) (Nat.le_refl _))
  have HTH : Hid (wy.there ws.heap.size 0 cs.toList.length) := Lib.hid (there_row hyb (by rw [hc21]; exact Nat.le_refl 21))
  have HIN0 : Hid ((Try.prog.info? 140).map (·.size) = some cs.toList.length) := Lib.hid (by rw [hc21]; kernel_rfl)
  have HONE := Lib.hid (shapes_one hsh)
  have HWY := Lib.hid hwy
  have HWZ := Lib.hid hwz
  clear hsh hxs hwz hwy hyb hc21 hxy
  rename_i K hK
  refine hK _ _ ?_
  refine wpList_plain rfl fun K2 hK2 => ?_
  go_simp
  rw [HWY.out]
  refine hK2 _ _ ?_
  refine wpList_store_row rfl 140 _ _ rfl ws.heap.size cs.toList (.agg cs) ?_ ?_ (by simp) HTH.out HIN0.out HONE.out HWZ.out ?_
  · go_simp
  · go_simp
  go_wp2_with fail
  go_loopw [21] (fun iv wr => ∃ k : Nat, k ≤ p.length ∧ iv = .int .i64 k ∧ (∀ (j : Nat) l, p[j]? = some l → j < k → Pg.okC p.length l = true) ∧ Ext wz wr) (fun iv _ => p.length - (intOf iv).toNat)
  case atStart => exact ⟨0, by omega, rfl, fun j l _ h => by omega, Ext.refl _⟩
  case round =>
    obtain ⟨k, hk, rfl, hall, hx⟩ := hrel
    have HALL := Lib.hid hall
    have HX := Lib.hid hx
    clear hall hx
    by_cases hlt : k < p.length
    · obtain ⟨l, hl⟩ : ∃ l, p[k]? = some l := ⟨_, List.getElem?_eq_getElem hlt⟩
      have hl2 := H2.out l (List.mem_of_getElem? hl)
      obtain ⟨b, o, B, d, rfl, hb, hcu, hrow⟩ := H.out.get hl
      have HCU := Lib.hid hcu
      have HB := Lib.hid hb
      have HR := Lib.hid hrow
      have HL := Lib.hid hl
      clear hl hb hcu hrow
      have c0 : wr.cell? ⟨b, o + k, none⟩ = some (.slice B l.length d) := (Below.cell (HX0.out.trans HX.out) HB.out).trans HCU.out
      by_cases b1 : 20 < l.length
      · have HT : Hid (Pg.may p = false) := Lib.hid (HST.out k l HL.out (by unfold Pg.okC; rw [decide_eq_false (by omega)]; rfl))
        have b1' : (20 : Int) < (l.length : Int) := by omega
        go_wp2
        go_ret
        rw [HT.out]
        exact ⟨rfl, HX0.out.trans HX.out⟩
      have b1' : (l.length : Int) ≤ 20 := by omega
      have HNI : Hid (∀ (j : Nat) x, l[j]? = some x → Pg.okI p.length x = false → Pg.may p = false) := Lib.hid fun j x hj hx => HST.out k l HL.out (by unfold Pg.okC; rw [all_no hj hx, Bool.and_false])
      have HYI : Hid ((∀ (j : Nat) x, l[j]? = some x → Pg.okI p.length x = true) → Pg.okC p.length l = true) := Lib.hid fun h => by unfold Pg.okC; rw [all_yes h, decide_eq_true (by omega)]; rfl
      obtain ⟨wo, rfl⟩ : ∃ wo, wo = wr := ⟨_, rfl⟩
      go_wp2_with fail
      clear c0
      go_loopw [30] (fun iv wr => ∃ j : Nat, j ≤ l.length ∧ iv = .int .i64 j ∧ (∀ (i : Nat) x, l[i]? = some x → i < j → Pg.okI p.length x = true) ∧ Ext wz wr) (fun iv _ => l.length - (intOf iv).toNat)
      case atStart => exact ⟨0, by omega, rfl, fun j l _ h => by omega, HX.out⟩
      case round =>
        clear HX
        obtain ⟨j, hj, rfl, hin, hx⟩ := hrel
        have HIN := Lib.hid hin
        have HX := Lib.hid hx
        clear hin hx
        by_cases hlt2 : j < l.length
        · obtain ⟨x, hx⟩ : ∃ x, l[j]? = some x := ⟨_, List.getElem?_eq_getElem hlt2⟩
          obtain ⟨b3, o3, rfl, hb3, e0, e1⟩ := frs2_get (HR.out.ext (HX0.out.trans HX.out)) hx
          have HXX := Lib.hid hx
          obtain ⟨d, a⟩ := x
          simp only at e0 e1
          obtain ⟨w3, hw3⟩ : ∃ w3, wr.alloc (.cells #[.int .i64 d, .int .i64 a] 106) = w3 := ⟨_, rfl⟩
          have HW3 := Lib.hid hw3
          have HX3 : Hid (Ext wz w3) := Lib.hid (by rw [← hw3]; exact HX.out.alloc _)
          have hq : w3.heap[wr.heap.size]? = some (.cells #[.int .i64 d, .int .i64 a] 106 (0, 0)) := by rw [← hw3]; exact blk_new wr _
          have q0 := blk_cell hq 0 _ rfl
          have q1 := blk_cell hq 1 _ rfl
          clear hx hb3 hq hw3
          have HQI : Hid (w3.heap[wr.heap.size]? = some (.cells #[.int .i64 d, .int .i64 a] 106 (0, 0))) := Lib.hid (by rw [← HW3.out]; exact blk_new wr _)
          by_cases t1 : d < 0
          · have HNO : Hid (Pg.may p = false) := Lib.hid (HNI.out j _ HXX.out (by unfold Pg.okI; rw [decide_eq_false (by simp only; omega)]))
            go_upto_region 12 with fail
            rw [HW3.out]
            go_quiet (fail)
            go_wp2
            go_ret
            exact ⟨by rw [HNO.out] <;> rfl, HX0.out.trans (HX3.out.drewN _)⟩
          by_cases t2 : 7 ≤ d
          · have HNO : Hid (Pg.may p = false) := Lib.hid (HNI.out j _ HXX.out (by unfold Pg.okI; rw [decide_eq_false (by simp only; omega)]))
            go_upto_region 12 with fail
            rw [HW3.out]
            go_quiet (fail)
            go_wp2
            go_ret
            exact ⟨by rw [HNO.out] <;> rfl, HX0.out.trans (HX3.out.drewN _)⟩
          obtain ⟨dd, rfl⟩ : ∃ dd : Nat, d = dd := ⟨d.toNat, by omega⟩
          obtain ⟨nm, nb, cv, g0, g1, g2, hcv⟩ := HSH.out.2 dd (by omega)
          have HCV := Lib.hid hcv
          have HSC : Hid (∀ v, Ext wz v → v.cell? ⟨ws.heap.size, dd * 3, none⟩ = some (.string nm) ∧ v.cell? ⟨ws.heap.size, dd * 3 + 1, none⟩ = some (.bool nb) ∧ v.cell? ⟨ws.heap.size, dd * 3 + 2, none⟩ = some cv) := Lib.hid fun v hv => ⟨blk_cell (hv.blk HSB.out) _ _ g0, blk_cell (hv.blk HSB.out) _ _ g1, blk_cell (hv.blk HSB.out) _ _ g2⟩
          obtain ⟨r, hr⟩ : ∃ r, decide (0 ≤ a ∧ a ≤ Pg.most p.length dd) = r := ⟨_, rfl⟩
          have HR0 := Lib.hid hr
          have HMB : Hid (-10 ≤ Pg.most p.length dd ∧ Pg.most p.length dd ≤ 1000000) := Lib.hid (by
            unfold Pg.most
            split
            · omega
            · split
              · omega
              · split <;> omega)
          have HOKI : Hid (Pg.okI p.length ((dd : Int), a) = r) := Lib.hid (by
            unfold Pg.okI
            rw [← hr]
            congr 1
            simp only [eq_iff_iff]
            omega)
          have i0 : (0 : Int) ≤ (dd : Int) := by omega
          have i1 : (dd : Int) < 7 := by omega
          have j0 : ((dd : Int) < 0) = False := by first | (simp; done) | (simp; omega)
          have j1 : decide ((7 : Int) ≤ (dd : Int)) = false := by first | (simp; done) | (simp; omega)
          clear t1 t2 g0 g1 g2 hcv hr q0 q1
          go_upto_region 12 with fail
          rw [HW3.out]
          refine region_rgx ([(15, (fun u => u = .bool r : Value → Prop), (fun _ _ => True : (Nat → GV) → World → Prop))]) (w3) (by kernel_rfl) (by kernel_rfl) ?_ ?_ ?_
          · exact List.forall_mem_cons.2 ⟨⟨⟨_, rfl⟩, fun _ _ _ _ _ => trivial, fun _ _ _ _ _ => trivial⟩, List.forall_mem_nil _⟩
          · first | assumption | exact Ext.refl _
          refine rg_pure (v := ?_) rfl (by kernel_rfl) (by kernel_rfl) (fun w hS hN => ?_) ?_
          rotate_left 1
          · clear hN
            go_simp
            try simp only [j0, j1]
            refine givesP_mk ?_
            with_reducible rfl
          refine rg_pure (v := ?_) rfl (by kernel_rfl) (by kernel_rfl) (fun w hS hN => ?_) ?_
          rotate_left 1
          · have q0 := blk_cell (hS.blk HQI.out) 0 _ rfl
            clear hN
            go_simp
            try simp only [j0, j1]
            refine givesP_mk ?_
            with_reducible rfl
          refine rg_pure (v := ?_) rfl (by kernel_rfl) (by kernel_rfl) (fun w hS hN => ?_) ?_
          rotate_left 1
          · clear hN
            go_simp
            try simp only [j0, j1]
            refine givesP_mk ?_
            with_reducible rfl
          refine rg_pure (v := ?_) rfl (by kernel_rfl) (by kernel_rfl) (fun w hS hN => ?_) ?_
          rotate_left 1
          · clear hN
            go_simp
            try simp only [j0, j1]
            refine givesP_mk ?_
            with_reducible rfl
          refine rg_pure (v := ?_) rfl (by kernel_rfl) (by kernel_rfl) (fun w hS hN => ?_) ?_
          rotate_left 1
          · clear hN
            go_simp
            try simp only [j0, j1]
            refine givesP_mk ?_
            with_reducible rfl
          refine rg_pure (v := ?_) rfl (by kernel_rfl) (by kernel_rfl) (fun w hS hN => ?_) ?_
          rotate_left 1
          · have q0 := blk_cell (hS.blk HQI.out) 0 _ rfl
            clear hN
            go_simp
            try simp only [j0, j1]
            refine givesP_mk ?_
            with_reducible rfl
          refine rg_pure (v := ?_) rfl (by kernel_rfl) (by kernel_rfl) (fun w hS hN => ?_) ?_
          rotate_left 1
          · clear hN
            go_simp
            try simp only [j0, j1]
            refine givesP_mk ?_
            with_reducible rfl
          refine rg_pure (v := ?_) rfl (by kernel_rfl) (by kernel_rfl) (fun w hS hN => ?_) ?_
          rotate_left 1
          · clear hN
            go_simp
            try simp only [j0, j1]
            refine givesP_mk ?_
            with_reducible rfl
          refine rg_pure (v := ?_) rfl (by kernel_rfl) (by kernel_rfl) (fun w hS hN => ?_) ?_
          rotate_left 1
          · clear hN
            go_simp
            try simp only [j0, j1]
            refine givesP_mk ?_
            with_reducible rfl
          refine rg_pure (v := ?_) rfl (by kernel_rfl) (by kernel_rfl) (fun w hS hN => ?_) ?_
          rotate_left 1
          · clear hN
            go_simp
            try simp only [j0, j1]
            refine givesP_mk ?_
            with_reducible rfl
          refine rg_pure (v := ?_) rfl (by kernel_rfl) (by kernel_rfl) (fun w hS hN => ?_) ?_
          rotate_left 1
          · have q0 := blk_cell (hS.blk HQI.out) 0 _ rfl
            clear hN
            go_simp
            try simp only [j0, j1]
            refine givesP_mk ?_
            with_reducible rfl
          refine rg_pure (v := ?_) rfl (by kernel_rfl) (by kernel_rfl) (fun w hS hN => ?_) ?_
          rotate_left 1
          · clear hN
            go_simp
            try simp only [j0, j1]
            refine givesP_mk ?_
            with_reducible rfl
          refine rg_pure (v := ?_) rfl (by kernel_rfl) (by kernel_rfl) (fun w hS hN => ?_) ?_
          rotate_left 1
          · obtain ⟨x0, x1, x2⟩ := HSC.out w (HX3.out.trans hS)
            clear hN
            go_simp
            try simp only [j0, j1]
            refine givesP_mk ?_
            with_reducible rfl
          refine rg_pure (v := ?_) rfl (by kernel_rfl) (by kernel_rfl) (fun w hS hN => ?_) ?_
          rotate_left 1
          · clear hN
            go_simp
            try simp only [j0, j1]
            refine givesP_mk ?_
            with_reducible rfl
          refine rg_pure (v := ?_) rfl (by kernel_rfl) (by kernel_rfl) (fun w hS hN => ?_) ?_
          rotate_left 1
          · have q1 := blk_cell (hS.blk HQI.out) 1 _ rfl
            clear hN
            go_simp
            try simp only [j0, j1]
            refine givesP_mk ?_
            with_reducible rfl
          refine rg_mem (fun u => u = .bool r : Value → Prop) (fun _ _ => True : (Nat → GV) → World → Prop) (fun _ => Ext) rfl rfl rfl rfl (by kernel_rfl) (by kernel_rfl) (fun w hS hN R hR => ?_) ?_
          · have HR := Lib.hid hR
            clear hR
            (try clear hN)
            go_simp
            refine givesM_call ((shmay_any nm nb cv (Pg.most p.length dd) a w (HCV.out.ext (HX3.out.trans hS)) HMB.out r HR0.out).mono ?_)
            rintro e w' ⟨rfl, hx⟩
            exact ⟨_, rfl, HR.out _ _ rfl trivial hx⟩
          rintro u15 s15 t15 rfl
          refine rg_pure (v := ?_) rfl (by kernel_rfl) (by kernel_rfl) (fun w hS hN => ?_) ?_
          rotate_left 1
          · clear hN
            go_simp
            try simp only [j0, j1]
            refine givesP_mk ?_
            with_reducible rfl
          refine rg_pure (v := ?_) rfl (by kernel_rfl) (by kernel_rfl) (fun w hS hN => ?_) ?_
          rotate_left 1
          · clear hN
            go_simp
            try simp only [j0, j1]
            refine givesP_mk ?_
            with_reducible rfl
          refine rg_done rfl (Nat.le_of_ble_eq_true (by kernel_rfl)) ?_
          intro w8 hS hT
          have HX8 := Lib.hid (HX3.out.trans hS)
          clear hT hS
          go_simp
          cases r with
          | false =>
            have HNO : Hid (Pg.may p = false) := Lib.hid (HNI.out j _ HXX.out HOKI.out)
            go_wp2
            go_ret
            exact ⟨by rw [HNO.out] <;> rfl, HX0.out.trans HX8.out⟩
          | true =>
            go_wp2
            go_roundw
            case rel =>
              refine ⟨j + 1, by omega, by go_num, fun i y hi hij => ?_, HX8.out⟩
              by_cases hij2 : i < j
              · exact HIN.out i y hi hij2
              · obtain rfl : i = j := by omega
                rw [HXX.out] at hi
                injection hi with hi
                rw [← hi]
                exact HOKI.out
            case measure => simp [intOf]; omega
        · obtain rfl : j = l.length := by omega
          have HKC : Hid (Pg.okC p.length l = true) := Lib.hid (HYI.out fun i x hi => HIN.out i x hi (List.getElem?_eq_some_iff.1 hi).1)
          go_wp2
          go_roundw
          case rel =>
            refine ⟨k + 1, by omega, by go_num, fun i y hi hij => ?_, HX.out⟩
            by_cases hij2 : i < k
            · exact HALL.out i y hi hij2
            · obtain rfl : i = k := by omega
              rw [HL.out] at hi
              injection hi with hi
              rw [← hi]
              exact HKC.out
          case measure => simp [intOf]; omega
    · obtain rfl : k = p.length := by omega
      have HY : Hid (Pg.may p = true) := Lib.hid (HOK.out fun j l hj => HALL.out j l hj (List.getElem?_eq_some_iff.1 hj).1)
      go_wp2
      go_ret
      rw [HY.out]
      exact ⟨rfl, HX0.out.trans HX.out⟩
end Go.Proofs.Ytdcbaddndoilfaa
