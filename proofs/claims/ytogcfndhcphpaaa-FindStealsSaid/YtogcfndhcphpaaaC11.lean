/-
  Several texts in one: Tze, Ls, Si, Sm, Sn, So.
-/
import Derived.Test.YtogcfndhcphpaaaC10
import Derived.Test.YtogcfndhcphpaaaC01
import Derived.Deep.Slices
import Derived.Deep.Fields
import Derived.ChangeSame
import Derived.SliceStrings
set_option linter.unusedVariables false
set_option linter.unusedSimpArgs false
namespace Go.Proofs.Ytogcfndhcphpaaa
open Go.RowKit
theorem St.wts_ne {s t : St} {k : Nat} {l m : List Int} (hl : s.wts[k]? = some l) (hm : t.wts[k]? = some m) (h : l ≠ m) : s ≠ t := by
  rintro rfl; rw [hl] at hm; exact h (Option.some.inj hm)
set_option maxRecDepth 100000 in
set_option maxHeartbeats 16000000 in
theorem rstsame_any (h h' : StH) (s s' : St) (r : Bool) (hr : r = true ↔ s = s') (w : World) (hk : StOk w h s) (hk' : StOk w h' s') (hf : StFew s) (ht : s.timers.length ≤ 9000) : Calls Try.prog 24 #[stV h s, stV h' s'] w fun e w' => e = .returned (.bool r) ∧ Ext w w' := by
  have FW := Lib.hid hf.w
  have FP := Lib.hid hf.prog
  have FG := Lib.hid hf.gs
  have FL := Lib.hid hf.glob
  have FT := Lib.hid ht
  have HFW := Lib.hid hf
  have HR := Lib.hid hr
  have HNO : Hid (s ≠ s' → r = false) := Lib.hid fun h => by
    cases r with
    | false => rfl
    | true => exact absurd (hr.1 rfl) h
  clear hf hr ht
  have HK := Lib.hid hk
  obtain ⟨w2, hw2⟩ : ∃ w2, (w.alloc (.cells #[.slice h.pa s.prog.length h.pc, .slice h.ga s.gs.length h.gc, .slice h.qa s.ps.length h.qc, .slice h.ma s.ms.length h.mc, .slice h.la s.glob.length h.lc, .int .i64 s.c0, .int .i64 s.c1, .int .i64 s.c2, .int .i64 s.c3, .slice h.a0 s.w0.length h.k0, .slice h.a1 s.w1.length h.k1, .slice h.a2 s.w2.length h.k2, .slice h.a3 s.w3.length h.k3, .slice h.ta s.timers.length h.tc, .int .i64 s.clock, .int .i64 s.procs] 32)).alloc (.cells #[.slice h'.pa s'.prog.length h'.pc, .slice h'.ga s'.gs.length h'.gc, .slice h'.qa s'.ps.length h'.qc, .slice h'.ma s'.ms.length h'.mc, .slice h'.la s'.glob.length h'.lc, .int .i64 s'.c0, .int .i64 s'.c1, .int .i64 s'.c2, .int .i64 s'.c3, .slice h'.a0 s'.w0.length h'.k0, .slice h'.a1 s'.w1.length h'.k1, .slice h'.a2 s'.w2.length h'.k2, .slice h'.a3 s'.w3.length h'.k3, .slice h'.ta s'.timers.length h'.tc, .int .i64 s'.clock, .int .i64 s'.procs] 32) = w2 := ⟨_, rfl⟩
  obtain ⟨B, hB⟩ : ∃ B, w.heap.size + 1 = B := ⟨_, rfl⟩
  have hx2 : Ext w w2 := by rw [← hw2]; exact ((Ext.refl w).alloc _).alloc _
  have HBA : Hid (w2.heap[w.heap.size]? = some (.cells (stC h s) 32 (0, 0))) := Lib.hid (by rw [← hw2]; exact blk_alloc (blk_new w _) _)
  have HBB : Hid (w2.heap[B]? = some (.cells (stC h' s') 32 (0, 0))) := Lib.hid (by
    have := blk_new (w.alloc (.cells #[.slice h.pa s.prog.length h.pc, .slice h.ga s.gs.length h.gc, .slice h.qa s.ps.length h.qc, .slice h.ma s.ms.length h.mc, .slice h.la s.glob.length h.lc, .int .i64 s.c0, .int .i64 s.c1, .int .i64 s.c2, .int .i64 s.c3, .slice h.a0 s.w0.length h.k0, .slice h.a1 s.w1.length h.k1, .slice h.a2 s.w2.length h.k2, .slice h.a3 s.w3.length h.k3, .slice h.ta s.timers.length h.tc, .int .i64 s.clock, .int .i64 s.procs] 32)) (.cells #[.slice h'.pa s'.prog.length h'.pc, .slice h'.ga s'.gs.length h'.gc, .slice h'.qa s'.ps.length h'.qc, .slice h'.ma s'.ms.length h'.mc, .slice h'.la s'.glob.length h'.lc, .int .i64 s'.c0, .int .i64 s'.c1, .int .i64 s'.c2, .int .i64 s'.c3, .slice h'.a0 s'.w0.length h'.k0, .slice h'.a1 s'.w1.length h'.k1, .slice h'.a2 s'.w2.length h'.k2, .slice h'.a3 s'.w3.length h'.k3, .slice h'.ta s'.timers.length h'.tc, .int .i64 s'.clock, .int .i64 s'.procs] 32)
    rw [hw2, World.size_alloc, hB] at this
    exact this)
  have HX2 := Lib.hid hx2
  have HB := Lib.hid hB
  have HKA := Lib.hid (hk.ext hx2)
  have HKB := Lib.hid (hk'.ext hx2)
  have HW2 := Lib.hid hw2
  clear hw2 hx2 hB hk hk'
  obtain ⟨W0, hW0⟩ : ∃ W0, w.heap.size = W0 := ⟨_, rfl⟩
  rw [hW0] at HBA
  have HW0 := Lib.hid hW0
  clear hW0
  unfold stV
  go_enter Try.func24, Try.ntmps24
  go_upto_region 1 with fail
  rw [HW2.out, HB.out]
  generalize Value.agg #[.slice h.pa s.prog.length h.pc, .slice h.ga s.gs.length h.gc, .slice h.qa s.ps.length h.qc, .slice h.ma s.ms.length h.mc, .slice h.la s.glob.length h.lc, .int .i64 s.c0, .int .i64 s.c1, .int .i64 s.c2, .int .i64 s.c3, .slice h.a0 s.w0.length h.k0, .slice h.a1 s.w1.length h.k1, .slice h.a2 s.w2.length h.k2, .slice h.a3 s.w3.length h.k3, .slice h.ta s.timers.length h.tc, .int .i64 s.clock, .int .i64 s.procs] = sv0
  generalize Value.agg #[.slice h'.pa s'.prog.length h'.pc, .slice h'.ga s'.gs.length h'.gc, .slice h'.qa s'.ps.length h'.qc, .slice h'.ma s'.ms.length h'.mc, .slice h'.la s'.glob.length h'.lc, .int .i64 s'.c0, .int .i64 s'.c1, .int .i64 s'.c2, .int .i64 s'.c3, .slice h'.a0 s'.w0.length h'.k0, .slice h'.a1 s'.w1.length h'.k1, .slice h'.a2 s'.w2.length h'.k2, .slice h'.a3 s'.w3.length h'.k3, .slice h'.ta s'.timers.length h'.tc, .int .i64 s'.clock, .int .i64 s'.procs] = sv1
  rw [HW0.out]
  go_wp2_with fail
  go_loopw [5] (fun iv wr => ∃ k : Nat, k ≤ 4 ∧ iv = .int .i64 k ∧ s.wts.take k = s'.wts.take k ∧ Ext w2 wr) (fun iv _ => 4 - (intOf iv).toNat)
  case atStart => exact ⟨0, by omega, rfl, rfl, Ext.refl _⟩
  case round =>
    obtain ⟨k, hk, rfl, heq, hx⟩ := hrel
    have HX := Lib.hid hx
    have HEQ := Lib.hid heq
    clear hx heq
    by_cases hlt : k < 4
    · obtain ⟨A0, d0, l, hcell, hI, hl⟩ := HKA.out.wait hlt
      obtain ⟨A1, d1, m, hcell', hI', hm⟩ := HKB.out.wait hlt
      have HCA : Hid (∀ v, Ext wr v → v.cell? ⟨W0, 9 + k, none⟩ = some (.slice A0 l.length d0)) := Lib.hid fun v hv => blk_cell ((HX.out.trans hv).blk HBA.out) (9 + k) _ hcell
      have HCB : Hid (∀ v, Ext wr v → v.cell? ⟨B, 9 + k, none⟩ = some (.slice A1 m.length d1)) := Lib.hid fun v hv => blk_cell ((HX.out.trans hv).blk HBB.out) (9 + k) _ hcell'
      have HIA : Hid (∀ v, Ext wr v → IntsAt v (.slice A0 l.length d0) l) := Lib.hid fun v hv => hI.ext (HX.out.trans hv)
      have HIB : Hid (∀ v, Ext wr v → IntsAt v (.slice A1 m.length d1) m) := Lib.hid fun v hv => hI'.ext (HX.out.trans hv)
      have HL := Lib.hid (wts_few FW.out hl)
      have HN0 : Hid (l ≠ m → r = false) := Lib.hid fun hne => HNO.out (St.wts_ne hl hm hne)
      have HY0 : Hid (l = m → s.wts.take (k + 1) = s'.wts.take (k + 1)) := Lib.hid fun he => take_eq_next HEQ.out hl (by rw [he]; exact hm)
      have i0 : (0 : Int) ≤ (k : Int) := by omega
      have i1 : (k : Int) < 4 := by omega
      obtain ⟨bi, hbi⟩ : ∃ bi, decide (l = m) = bi := ⟨_, rfl⟩
      have HBI := Lib.hid hbi
      clear hcell hcell' hI hI' hl hm hbi
      go_wp2
      refine region_rgx ([(8, (fun u => u = .bool bi : Value → Prop), (fun _ _ => True : (Nat → GV) → World → Prop))]) (wr) (by kernel_rfl) (by kernel_rfl) ?_ ?_ ?_
      · exact List.forall_mem_cons.2 ⟨⟨⟨_, rfl⟩, fun _ _ _ _ _ => trivial, fun _ _ _ _ _ => trivial⟩, List.forall_mem_nil _⟩
      · first | assumption | exact Ext.refl _
      refine rg_pure (v := ?_) rfl (by kernel_rfl) (by kernel_rfl) (fun w hS hN => ?_) ?_
      rotate_left 1
      · clear hN
        go_simp
        refine givesP_mk ?_
        with_reducible rfl
      refine rg_pure (v := ?_) rfl (by kernel_rfl) (by kernel_rfl) (fun w hS hN => ?_) ?_
      rotate_left 1
      · clear hN
        go_simp
        refine givesP_mk ?_
        with_reducible rfl
      refine rg_pure (v := ?_) rfl (by kernel_rfl) (by kernel_rfl) (fun w hS hN => ?_) ?_
      rotate_left 1
      · clear hN
        go_simp
        refine givesP_mk ?_
        with_reducible rfl
      refine rg_pure (v := ?_) rfl (by kernel_rfl) (by kernel_rfl) (fun w hS hN => ?_) ?_
      rotate_left 1
      · have k1 := HCA.out w hS
        clear hN
        go_simp
        refine givesP_mk ?_
        with_reducible rfl
      refine rg_pure (v := ?_) rfl (by kernel_rfl) (by kernel_rfl) (fun w hS hN => ?_) ?_
      rotate_left 1
      · clear hN
        go_simp
        refine givesP_mk ?_
        with_reducible rfl
      refine rg_pure (v := ?_) rfl (by kernel_rfl) (by kernel_rfl) (fun w hS hN => ?_) ?_
      rotate_left 1
      · clear hN
        go_simp
        refine givesP_mk ?_
        with_reducible rfl
      refine rg_pure (v := ?_) rfl (by kernel_rfl) (by kernel_rfl) (fun w hS hN => ?_) ?_
      rotate_left 1
      · clear hN
        go_simp
        refine givesP_mk ?_
        with_reducible rfl
      refine rg_pure (v := ?_) rfl (by kernel_rfl) (by kernel_rfl) (fun w hS hN => ?_) ?_
      rotate_left 1
      · have k2 := HCB.out w hS
        clear hN
        go_simp
        refine givesP_mk ?_
        with_reducible rfl
      refine rg_mem (fun u => u = .bool bi : Value → Prop) (fun _ _ => True : (Nat → GV) → World → Prop) (fun _ => Ext) rfl rfl rfl rfl (by kernel_rfl) (by kernel_rfl) (fun w hS hN R hR => ?_) ?_
      · have HR := Lib.hid hR
        clear hR
        (try clear hN)
        go_simp
        refine givesM_call ((rints_eq _ _ l m bi HBI.out w (HIA.out w hS) (HIB.out w hS) (by have := HL.out; omega)).mono ?_)
        rintro e w' ⟨rfl, hx⟩
        exact ⟨_, rfl, HR.out _ _ rfl trivial hx⟩
      rintro u8 s8 t8 rfl
      refine rg_pure (v := ?_) rfl (by kernel_rfl) (by kernel_rfl) (fun w hS hN => ?_) ?_
      rotate_left 1
      · clear hN
        go_simp
        refine givesP_mk ?_
        with_reducible rfl
      refine rg_done rfl (Nat.le_of_ble_eq_true (by kernel_rfl)) ?_
      intro w8 hS hT
      have HX8 := Lib.hid (HX.out.trans hS)
      clear hT hS i1
      cases bi with
      | false =>
        have HN := Lib.hid (HN0.out (of_decide_eq_false HBI.out))
        have HXC := HX8
        go_simp
        go_wp2
        (go_ret; exact ⟨by rw [HN.out] <;> rfl, HX2.out.trans HXC.out⟩)
      | true =>
        have HN2 := Lib.hid (HY0.out (of_decide_eq_true HBI.out))
        go_simp
        go_wp2
        go_roundw
        case rel => exact ⟨k + 1, by omega, by go_num, HN2.out, HX8.out⟩
        case measure => simp [intOf]; omega
    · have HWE : Hid (s.wts = s'.wts) := Lib.hid (by
        have := HEQ.out
        rwa [List.take_of_length_le (by simp [St.wts]; omega), List.take_of_length_le (by simp [St.wts]; omega)] at this)
      clear HEQ
      have a0 := st0 (HX.out.blk HBA.out)
      have b0 := st0 (HX.out.blk HBB.out)
      obtain ⟨bi, hbi⟩ : ∃ bi : Bool, bi = true ↔ s.prog = s'.prog := by
        by_cases hd : s.prog = s'.prog
        · exact ⟨true, by simp [hd]⟩
        · exact ⟨false, by simp [hd]⟩
      have HBI := Lib.hid hbi
      clear hbi
      go_wp2_with (first | refine wpList_load_rowW rfl 32 _ rfl W0 rfl (stL h s) (stV h s) rfl _ (range_row HLA.out) Try.underlying32 rfl (by kernel_rfl) ?_ | refine wpList_load_rowW rfl 32 _ rfl B rfl (stL h' s') (stV h' s') rfl _ (range_row HLB.out) Try.underlying32 rfl (by kernel_rfl) ?_)
      refine (rpsame_any _ _ _ _ s.prog s'.prog bi HBI.out _ (HKA.out.ext HX.out).prog (HKB.out.ext HX.out).prog (by have := FP.out.1; omega) (fun l hl => by have := FP.out.2 l hl; omega)).mono ?_
      rintro e w5 ⟨rfl, hx5⟩
      have HX5 := Lib.hid (HX.out.trans hx5)
      clear HX hx5
      have HX := Lib.hid HX5.out
      clear HX5
      clear a0 b0
      cases bi with
      | false =>
        have HN := Lib.hid (HNO.out fun he => absurd (HBI.out.2 (by rw [he])) (by simp))
        have HXC := HX
        go_wp2
        (go_ret; exact ⟨by rw [HN.out] <;> rfl, HX2.out.trans HXC.out⟩)
      | true =>
      have E1 : Hid (s.prog = s'.prog) := Lib.hid (HBI.out.1 rfl)
      clear HBI
      have a1 := st1 (HX.out.blk HBA.out)
      have b1 := st1 (HX.out.blk HBB.out)
      obtain ⟨bi, hbi⟩ : ∃ bi : Bool, bi = true ↔ s.gs = s'.gs := by
        by_cases hd : s.gs = s'.gs
        · exact ⟨true, by simp [hd]⟩
        · exact ⟨false, by simp [hd]⟩
      have HBI := Lib.hid hbi
      clear hbi
      go_wp2_with (first | refine wpList_load_rowW rfl 32 _ rfl W0 rfl (stL h s) (stV h s) rfl _ (range_row HLA.out) Try.underlying32 rfl (by kernel_rfl) ?_ | refine wpList_load_rowW rfl 32 _ rfl B rfl (stL h' s') (stV h' s') rfl _ (range_row HLB.out) Try.underlying32 rfl (by kernel_rfl) ?_)
      refine (rgs_any _ _ _ _ s.gs s'.gs bi HBI.out _ (HKA.out.ext HX.out).gs (HKB.out.ext HX.out).gs (by have := FG.out; omega)).mono ?_
      rintro e w5 ⟨rfl, hx5⟩
      have HX5 := Lib.hid (HX.out.trans hx5)
      clear HX hx5
      have HX := Lib.hid HX5.out
      clear HX5
      clear a1 b1
      cases bi with
      | false =>
        have HN := Lib.hid (HNO.out fun he => absurd (HBI.out.2 (by rw [he])) (by simp))
        have HXC := HX
        go_wp2
        (go_ret; exact ⟨by rw [HN.out] <;> rfl, HX2.out.trans HXC.out⟩)
      | true =>
      have E2 : Hid (s.gs = s'.gs) := Lib.hid (HBI.out.1 rfl)
      clear HBI
      have HLA := Lib.hid (HX.out.blk HBA.out)
      have HLB := Lib.hid (HX.out.blk HBB.out)
      obtain ⟨bi, hbi⟩ : ∃ bi : Bool, bi = true ↔ s.ps = s'.ps ∧ s.ms = s'.ms := by
        by_cases hd : s.ps = s'.ps ∧ s.ms = s'.ms
        · exact ⟨true, by simp [hd]⟩
        · exact ⟨false, by simp [hd]⟩
      have HBI := Lib.hid hbi
      clear hbi
      go_wp2_with (first | refine wpList_load_rowW rfl 32 _ rfl W0 rfl (stL h s) (stV h s) rfl _ (range_row HLA.out) Try.underlying32 rfl (by kernel_rfl) ?_ | refine wpList_load_rowW rfl 32 _ rfl B rfl (stL h' s') (stV h' s') rfl _ (range_row HLB.out) Try.underlying32 rfl (by kernel_rfl) ?_)
      refine (rps_any h h' s s' bi HBI.out _ (HKA.out.ext HX.out) (HKB.out.ext HX.out) HFW.out).mono ?_
      rintro e w5 ⟨rfl, hx5⟩
      have HX5 := Lib.hid (HX.out.trans hx5)
      clear HX hx5
      have HX := Lib.hid HX5.out
      clear HX5
      clear HLA HLB
      cases bi with
      | false =>
        have HN := Lib.hid (HNO.out fun he => absurd (HBI.out.2 (by rw [he]; exact ⟨rfl, rfl⟩)) (by simp))
        have HXC := HX
        go_wp2
        (go_ret; exact ⟨by rw [HN.out] <;> rfl, HX2.out.trans HXC.out⟩)
      | true =>
      have E3 : Hid (s.ps = s'.ps ∧ s.ms = s'.ms) := Lib.hid (HBI.out.1 rfl)
      clear HBI
      have a4 := st4 (HX.out.blk HBA.out)
      have b4 := st4 (HX.out.blk HBB.out)
      obtain ⟨bi, hbi⟩ : ∃ bi : Bool, bi = true ↔ s.glob = s'.glob := by
        by_cases hd : s.glob = s'.glob
        · exact ⟨true, by simp [hd]⟩
        · exact ⟨false, by simp [hd]⟩
      have HBI := Lib.hid hbi
      clear hbi
      go_wp2_with (first | refine wpList_load_rowW rfl 32 _ rfl W0 rfl (stL h s) (stV h s) rfl _ (range_row HLA.out) Try.underlying32 rfl (by kernel_rfl) ?_ | refine wpList_load_rowW rfl 32 _ rfl B rfl (stL h' s') (stV h' s') rfl _ (range_row HLB.out) Try.underlying32 rfl (by kernel_rfl) ?_)
      refine (rints_eq _ _ s.glob s'.glob bi (by have := HBI.out; cases bi <;> simp_all) _ (HKA.out.ext HX.out).glob (HKB.out.ext HX.out).glob (by have := FL.out; omega)).mono ?_
      rintro e w5 ⟨rfl, hx5⟩
      have HX5 := Lib.hid (HX.out.trans hx5)
      clear HX hx5
      have HX := Lib.hid HX5.out
      clear HX5
      clear a4 b4
      cases bi with
      | false =>
        have HN := Lib.hid (HNO.out fun he => absurd (HBI.out.2 (by rw [he])) (by simp))
        have HXC := HX
        go_wp2
        (go_ret; exact ⟨by rw [HN.out] <;> rfl, HX2.out.trans HXC.out⟩)
      | true =>
      have E4 : Hid (s.glob = s'.glob) := Lib.hid (HBI.out.1 rfl)
      clear HBI
      have a5 := st5 (HX.out.blk HBA.out)
      have b5 := st5 (HX.out.blk HBB.out)
      have a6 := st6 (HX.out.blk HBA.out)
      have b6 := st6 (HX.out.blk HBB.out)
      have a7 := st7 (HX.out.blk HBA.out)
      have b7 := st7 (HX.out.blk HBB.out)
      have a8 := st8 (HX.out.blk HBA.out)
      have b8 := st8 (HX.out.blk HBB.out)
      by_cases hcc : [s.c0, s.c1, s.c2, s.c3] = [s'.c0, s'.c1, s'.c2, s'.c3]
      rotate_left 1
      · have hq : ∀ w, (Op.equalIn 10000 28 (.agg #[.int .i64 s.c0, .int .i64 s.c1, .int .i64 s.c2, .int .i64 s.c3]) (.agg #[.int .i64 s'.c0, .int .i64 s'.c1, .int .i64 s'.c2, .int .i64 s'.c3])).run Try.prog w = .ok false w := fun w => by rw [run_eq4, decide_eq_false hcc]
        have HN := Lib.hid (HNO.out fun he => hcc (by rw [he]))
        have HXC := HX
        clear hcc
        go_wp2
        (go_ret; exact ⟨by rw [HN.out] <;> rfl, HX2.out.trans HXC.out⟩)
      have hq : ∀ w, (Op.equalIn 10000 28 (.agg #[.int .i64 s.c0, .int .i64 s.c1, .int .i64 s.c2, .int .i64 s.c3]) (.agg #[.int .i64 s'.c0, .int .i64 s'.c1, .int .i64 s'.c2, .int .i64 s'.c3])).run Try.prog w = .ok true w := fun w => by rw [run_eq4, decide_eq_true hcc]
      have E5 : Hid (s.cnts = s'.cnts) := Lib.hid hcc
      clear hcc
      have a13 := st13 (HX.out.blk HBA.out)
      have b13 := st13 (HX.out.blk HBB.out)
      obtain ⟨bi, hbi⟩ : ∃ bi : Bool, bi = true ↔ s.timers = s'.timers := by
        by_cases hd : s.timers = s'.timers
        · exact ⟨true, by simp [hd]⟩
        · exact ⟨false, by simp [hd]⟩
      have HBI := Lib.hid hbi
      clear hbi
      go_wp2_with (first | refine wpList_load_rowW rfl 32 _ rfl W0 rfl (stL h s) (stV h s) rfl _ (range_row HLA.out) Try.underlying32 rfl (by kernel_rfl) ?_ | refine wpList_load_rowW rfl 32 _ rfl B rfl (stL h' s') (stV h' s') rfl _ (range_row HLB.out) Try.underlying32 rfl (by kernel_rfl) ?_)
      refine (rsame_eq _ _ s.timers s'.timers bi (by have := HBI.out; cases bi <;> simp_all) _ (HKA.out.ext HX.out).timers (HKB.out.ext HX.out).timers (by have := FT.out; omega)).mono ?_
      rintro e w5 ⟨rfl, hx5⟩
      have HX5 := Lib.hid (HX.out.trans hx5)
      clear HX hx5
      have HX := Lib.hid HX5.out
      clear HX5
      clear a13 b13
      clear hq a5 a6 a7 a8 b5 b6 b7 b8
      cases bi with
      | false =>
        have HN := Lib.hid (HNO.out fun he => absurd (HBI.out.2 (by rw [he])) (by simp))
        have HXC := HX
        go_wp2
        (go_ret; exact ⟨by rw [HN.out] <;> rfl, HX2.out.trans HXC.out⟩)
      | true =>
      have E6 : Hid (s.timers = s'.timers) := Lib.hid (HBI.out.1 rfl)
      clear HBI
      have a14 := st14 (HX.out.blk HBA.out)
      have b14 := st14 (HX.out.blk HBB.out)
      have a15 := st15 (HX.out.blk HBA.out)
      have b15 := st15 (HX.out.blk HBB.out)
      by_cases hcl : s.clock = s'.clock
      rotate_left 1
      · have hcl' : (s.clock == s'.clock) = false := by simpa using hcl
        have HN := Lib.hid (HNO.out fun he => hcl (by rw [he]))
        have HXC := HX
        clear hcl
        go_wp2
        (go_ret; exact ⟨by rw [HN.out] <;> rfl, HX2.out.trans HXC.out⟩)
      have hcl' : (s.clock == s'.clock) = true := by simpa using hcl
      have E7 := Lib.hid hcl
      clear hcl
      by_cases hpr : s.procs = s'.procs
      rotate_left 1
      · have hpr' : (s.procs == s'.procs) = false := by simpa using hpr
        have HN := Lib.hid (HNO.out fun he => hpr (by rw [he]))
        have HXC := HX
        clear hpr
        go_wp2
        (go_ret; exact ⟨by rw [HN.out] <;> rfl, HX2.out.trans HXC.out⟩)
      have hpr' : (s.procs == s'.procs) = true := by simpa using hpr
      have HN : Hid (r = true) := Lib.hid (HR.out.2 ((St.same_iff s s').2 ⟨E1.out, E2.out, E3.out.1, E3.out.2, E4.out, E5.out, HWE.out, E6.out, E7.out, hpr⟩))
      have HXC := HX
      clear hpr
      go_wp2
      (go_ret; exact ⟨by rw [HN.out] <;> rfl, HX2.out.trans HXC.out⟩)
open Go.ChangeShapes Go.WideShapes Go.Deep Go.RowKit
section
variable {H : Type} {enc : TypeId × Value → H} {P : Program} {w : World} {base : Nat} {spare : Nat → Bool} {held : Bool}
end
theorem sfits_eq (n : Int) (b : Bool) (hb : decide (0 ≤ n ∧ n < 4611686018427387904) = b) (w : World) : Calls Try.prog 116 #[.int .i64 n] w fun e w' => e = .returned (.bool b) ∧ w = w' := by
  subst hb
  by_cases h : 0 ≤ n
  · by_cases h2 : n < 4611686018427387904
    · rw [decide_eq_true (show 0 ≤ n ∧ n < 4611686018427387904 from ⟨h, h2⟩)]
      go_enter Try.func116, Try.ntmps116
      go_wp2
      go_ret
      exact ⟨rfl, rfl⟩
    · rw [decide_eq_false (show ¬ (0 ≤ n ∧ n < 4611686018427387904) by omega)]
      have hd : decide (n < 4611686018427387904) = false := by simp; omega
      clear h2
      go_enter Try.func116, Try.ntmps116
      go_wp2
      go_ret
      exact ⟨rfl, rfl⟩
  · rw [decide_eq_false (show ¬ (0 ≤ n ∧ n < 4611686018427387904) by omega)]
    have hd : decide (0 ≤ n) = false := by simp; omega
    go_enter Try.func116, Try.ntmps116
    go_wp2
    go_ret
    exact ⟨rfl, rfl⟩
set_option maxRecDepth 100000 in
set_option maxHeartbeats 1000000 in
theorem rahead_eq (a0 a1 b0 b1 : Int) (r : Bool) (hr : decide (Sl.lt (a0, a1) (b0, b1)) = r) (w : World) : Calls Try.prog 117 #[.agg #[.int .i64 a0, .int .i64 a1], .agg #[.int .i64 b0, .int .i64 b1]] w fun e w' => e = .returned (.bool r) ∧ Ext w w' := by
  subst hr
  by_cases h0 : a0 < b0
  · rw [show decide (Sl.lt (a0, a1) (b0, b1)) = true from decide_eq_true (Or.inl h0)]
    go_enter Try.func117, Try.ntmps117
    go_wp2
    go_ret
    exact ⟨rfl, ((Ext.refl _).alloc _).alloc _⟩
  · by_cases h1 : a0 = b0
    · subst h1
      rw [show decide (Sl.lt (a0, a1) (a0, b1)) = decide (a1 < b1) from decide_eq_decide.2 (show (a0 < a0 ∨ a0 = a0 ∧ a1 < b1) ↔ a1 < b1 by omega)]
      go_enter Try.func117, Try.ntmps117
      go_wp2
      go_ret
      exact ⟨rfl, ((Ext.refl _).alloc _).alloc _⟩
    · have hb : (a0 == b0) = false := by simpa using h1
      rw [show decide (Sl.lt (a0, a1) (b0, b1)) = false from decide_eq_false (show ¬ (a0 < b0 ∨ a0 = b0 ∧ a1 < b1) by omega)]
      go_enter Try.func117, Try.ntmps117
      go_wp2
      go_ret
      exact ⟨rfl, ((Ext.refl _).alloc _).alloc _⟩
set_option maxRecDepth 100000 in
set_option maxHeartbeats 1000000 in
theorem srmay_any (v : Value) (xs : List (Int × Int)) (w : World) (h : PairsAt w v xs) (hn : xs.length ≤ 1000000) :
    Calls Try.prog 75 #[v] w fun e w' => e = .returned (.bool (decide (Sl.May xs))) ∧ Ext w w' := by
  obtain ⟨A, c, rfl, hc, hA⟩ := h
  have HA := Lib.hid hA; clear hA
  go_enter Try.func75, Try.ntmps75
  go_wp2
  go_loopw [3] (fun i wr => ∃ k : Nat, k ≤ xs.length ∧ i = .int .i64 k ∧ Sl.May (xs.take k) ∧ Ext w wr) (fun i _ => xs.length - (intOf i).toNat)
  case atStart => exact ⟨0, by omega, rfl, by simpa using Sl.May.nil, Ext.refl _⟩
  case round =>
    obtain ⟨k, hk, rfl, hm, hx⟩ := hrel
    have HM := Lib.hid hm; clear hm
    have HX := Lib.hid hx; clear hx
    by_cases hlt : k < xs.length
    · obtain ⟨b, o, rfl, hb, hc⟩ := HA.out (by omega)
      have HB := Lib.hid hb
      have HCC := Lib.hid hc
      have HC := Lib.hid (hc k _ (List.getElem?_eq_getElem hlt))
      have HP : Hid (0 < k → ∃ q, xs[k - 1]? = some q ∧ w.cell? ⟨b, o + (k - 1) * 2, none⟩ = some (.int .i64 q.1) ∧ w.cell? ⟨b, o + (k - 1) * 2 + 1, none⟩ = some (.int .i64 q.2)) := Lib.hid fun h0 => ⟨xs[k - 1], List.getElem?_eq_getElem (by omega), hc (k - 1) _ (List.getElem?_eq_getElem (by omega))⟩
      have HNX := Lib.hid (Sl.may_next hlt)
      have HNO := Lib.hid (@Sl.may_no xs k hlt)
      clear hc hb
      generalize xs[k] = p at *
      obtain ⟨p0, p1⟩ := p
      simp only at HC HNX
      by_cases h01 : 0 ≤ p0 ∧ p0 < 4611686018427387904
      · have HFI : Hid (decide (0 ≤ p0 ∧ p0 < 4611686018427387904) = true) := Lib.hid (decide_eq_true h01)
        by_cases h2 : 1 ≤ p1
        · have HF : Hid (Sl.fit (p0, p1)) := Lib.hid ⟨h01.1, h01.2, h2⟩
          clear h01
          rcases Nat.eq_zero_or_pos k with h0 | h0
          · subst h0
            have HCON : Hid (p1 ∉ (xs.take 0).map Prod.snd → Sl.May (xs.take (0 + 1))) := Lib.hid fun hn => HNX.out.2 ⟨HM.out, HF.out, fun q h => absurd h (by omega), hn⟩
            clear HP HNX
            simp only [Nat.zero_mul, Nat.add_zero] at HC
            have b2 : decide (p1 < 1) = false := by simp; omega
            go_wp2
            refine region_all (fun v => Ext wr v) (by kernel_rfl) (Ext.refl _).drew ?_
            have K0 : ∀ v, Ext wr v → v.cell? ⟨b, o, none⟩ = some (.int .i64 p0) := fun v hv => by rw [Below.cell (HX.out.trans hv) HB.out]; exact HC.out.1
            have K1 : ∀ v, Ext wr v → v.cell? ⟨b, o + 1, none⟩ = some (.int .i64 p1) := fun v hv => by rw [Below.cell (HX.out.trans hv) HB.out]; exact HC.out.2
            refine all_take (i := 0) (v := ?_) rfl (by kernel_rfl) (by kernel_rfl) (by kernel_rfl) (fun _ _ _ h => h) (Tame.yes (by kernel_rfl) fun w hS => ?_) ?_
            rotate_left 1
            · skip
              go_simp
              try simp only [b2]
              refine gives_mk ?_ hS
              with_reducible rfl
            refine all_take (i := 1) (v := ?_) rfl (by kernel_rfl) (by kernel_rfl) (by kernel_rfl) (fun _ _ _ h => h) (Tame.yes (by kernel_rfl) fun w hS => ?_) ?_
            rotate_left 1
            · skip
              go_simp
              try simp only [b2]
              refine gives_mk ?_ hS
              with_reducible rfl
            refine all_take (i := 2) (v := ?_) rfl (by kernel_rfl) (by kernel_rfl) (by kernel_rfl) (fun _ _ _ h => h) (Tame.yes (by kernel_rfl) fun w hS => ?_) ?_
            rotate_left 1
            · skip
              go_simp
              try simp only [b2]
              refine gives_mk ?_ hS
              with_reducible rfl
            refine all_take (i := 3) (v := ?_) rfl (by kernel_rfl) (by kernel_rfl) (by kernel_rfl) (fun _ _ _ h => h) (Tame.yes (by kernel_rfl) fun w hS => ?_) ?_
            rotate_left 1
            · skip
              go_simp
              try simp only [b2]
              refine gives_mk ?_ hS
              with_reducible rfl
            refine all_take (i := 4) (v := ?_) rfl (by kernel_rfl) (by kernel_rfl) (by kernel_rfl) (fun _ _ _ h => h) (Tame.yes (by kernel_rfl) fun w hS => ?_) ?_
            rotate_left 1
            · skip
              go_simp
              try simp only [b2]
              refine gives_mk ?_ hS
              with_reducible rfl
            refine all_take (i := 5) (v := .bool true) rfl (by kernel_rfl) (by kernel_rfl) (by kernel_rfl) (fun _ _ _ h => h) (Tame.yes (by kernel_rfl) fun w hS => ?_) ?_
            · go_simp
              refine gives_call ((sfits_eq p0 true HFI.out _).mono ?_)
              exact fun r w2 ⟨he, hx⟩ => ⟨he, hx ▸ hS⟩
            refine all_take (i := 6) (v := ?_) rfl (by kernel_rfl) (by kernel_rfl) (by kernel_rfl) (fun _ _ _ h => h) (Tame.yes (by kernel_rfl) fun w hS => ?_) ?_
            rotate_left 1
            · skip
              go_simp
              try simp only [b2]
              refine gives_mk ?_ hS
              with_reducible rfl
            refine all_take (i := 7) (v := ?_) rfl (by kernel_rfl) (by kernel_rfl) (by kernel_rfl) (fun _ _ _ h => h) (Tame.yes (by kernel_rfl) fun w hS => ?_) ?_
            rotate_left 1
            · skip
              go_simp
              try simp only [b2]
              refine gives_mk ?_ hS
              with_reducible rfl
            refine all_take (i := 8) (v := ?_) rfl (by kernel_rfl) (by kernel_rfl) (by kernel_rfl) (fun _ _ _ h => h) (Tame.yes (by kernel_rfl) fun w hS => ?_) ?_
            rotate_left 1
            · skip
              go_simp
              try simp only [b2]
              refine gives_mk ?_ hS
              with_reducible rfl
            refine all_take (i := 9) (v := ?_) rfl (by kernel_rfl) (by kernel_rfl) (by kernel_rfl) (fun _ _ _ h => h) (Tame.yes (by kernel_rfl) fun w hS => ?_) ?_
            rotate_left 1
            · skip
              go_simp
              try simp only [b2]
              refine gives_mk ?_ hS
              with_reducible rfl
            refine all_take (i := 10) (v := ?_) rfl (by kernel_rfl) (by kernel_rfl) (by kernel_rfl) (fun _ _ _ h => h) (Tame.yes (by kernel_rfl) fun w hS => ?_) ?_
            rotate_left 1
            · skip
              go_simp
              try simp only [b2]
              refine gives_mk ?_ hS
              with_reducible rfl
            refine all_take (i := 11) (v := ?_) rfl (by kernel_rfl) (by kernel_rfl) (by kernel_rfl) (fun _ _ _ h => h) (Tame.yes (by kernel_rfl) fun w hS => ?_) ?_
            rotate_left 1
            · skip
              go_simp
              try simp only [b2]
              refine gives_mk ?_ hS
              with_reducible rfl
            refine all_take (i := 12) (v := ?_) rfl (by kernel_rfl) (by kernel_rfl) (by kernel_rfl) (fun _ _ _ h => h) (Tame.yes (by kernel_rfl) fun w hS => ?_) ?_
            rotate_left 1
            · skip
              go_simp
              try simp only [b2]
              refine gives_mk ?_ hS
              with_reducible rfl
            refine all_take (i := 13) (v := ?_) rfl (by kernel_rfl) (by kernel_rfl) (by kernel_rfl) (fun _ _ _ h => h) (Tame.yes (by kernel_rfl) fun w hS => ?_) ?_
            rotate_left 1
            · skip
              go_simp
              try simp only [b2]
              refine gives_mk ?_ hS
              with_reducible rfl
            refine all_take (i := 14) (v := ?_) rfl (by kernel_rfl) (by kernel_rfl) (by kernel_rfl) (fun _ _ _ h => h) (Tame.yes (by kernel_rfl) fun w hS => ?_) ?_
            rotate_left 1
            · skip
              go_simp
              try simp only [b2]
              refine gives_mk ?_ hS
              with_reducible rfl
            refine all_take (i := 15) (v := ?_) rfl (by kernel_rfl) (by kernel_rfl) (by kernel_rfl) (fun _ _ _ h => h) (Tame.yes (by kernel_rfl) fun w hS => ?_) ?_
            rotate_left 1
            · skip
              go_simp
              try simp only [b2]
              refine gives_mk ?_ hS
              with_reducible rfl
            refine all_take (i := 16) (v := ?_) rfl (by kernel_rfl) (by kernel_rfl) (by kernel_rfl) (fun _ _ _ h => h) (Tame.yes (by kernel_rfl) fun w hS => ?_) ?_
            rotate_left 1
            · skip
              go_simp
              try simp only [b2]
              refine gives_mk ?_ hS
              with_reducible rfl
            refine all_take (i := 17) (v := ?_) rfl (by kernel_rfl) (by kernel_rfl) (by kernel_rfl) (fun _ _ _ h => h) (Tame.yes (by kernel_rfl) fun w hS => ?_) ?_
            rotate_left 1
            · skip
              go_simp
              try simp only [b2]
              refine gives_mk ?_ hS
              with_reducible rfl
            refine all_take (i := 18) (v := ?_) rfl (by kernel_rfl) (by kernel_rfl) (by kernel_rfl) (fun _ _ _ h => h) (Tame.yes (by kernel_rfl) fun w hS => ?_) ?_
            rotate_left 1
            · skip
              go_simp
              try simp only [b2]
              refine gives_mk ?_ hS
              with_reducible rfl
            refine all_take (i := 19) rfl (by kernel_rfl) (by kernel_rfl) (by kernel_rfl) (fun _ _ _ h => h) (Tame.no (by kernel_rfl)) ?_
            refine all_take (i := 20) rfl (by kernel_rfl) (by kernel_rfl) (by kernel_rfl) (fun _ _ _ h => h) (Tame.no (by kernel_rfl)) ?_
            refine all_take (i := 21) rfl (by kernel_rfl) (by kernel_rfl) (by kernel_rfl) (fun _ _ _ h => h) (Tame.no (by kernel_rfl)) ?_
            refine all_take (i := 22) rfl (by kernel_rfl) (by kernel_rfl) (by kernel_rfl) (fun _ _ _ h => h) (Tame.no (by kernel_rfl)) ?_
            refine all_take (i := 23) rfl (by kernel_rfl) (by kernel_rfl) (by kernel_rfl) (fun _ _ _ h => h) (Tame.no (by kernel_rfl)) ?_
            refine all_take (i := 24) rfl (by kernel_rfl) (by kernel_rfl) (by kernel_rfl) (fun _ _ _ h => h) (Tame.no (by kernel_rfl)) ?_
            refine all_take (i := 25) rfl (by kernel_rfl) (by kernel_rfl) (by kernel_rfl) (fun _ _ _ h => h) (Tame.no (by kernel_rfl)) ?_
            refine all_take (i := 26) rfl (by kernel_rfl) (by kernel_rfl) (by kernel_rfl) (fun _ _ _ h => h) (Tame.no (by kernel_rfl)) ?_
            refine all_take (i := 27) rfl (by kernel_rfl) (by kernel_rfl) (by kernel_rfl) (fun _ _ _ h => h) (Tame.no (by kernel_rfl)) ?_
            refine all_take (i := 28) rfl (by kernel_rfl) (by kernel_rfl) (by kernel_rfl) (fun _ _ _ h => h) (Tame.no (by kernel_rfl)) ?_
            refine all_take (i := 29) rfl (by kernel_rfl) (by kernel_rfl) (by kernel_rfl) (fun _ _ _ h => h) (Tame.no (by kernel_rfl)) ?_
            refine all_take (i := 30) (v := ?_) rfl (by kernel_rfl) (by kernel_rfl) (by kernel_rfl) (fun _ _ _ h => h) (Tame.yes (by kernel_rfl) fun w hS => ?_) ?_
            rotate_left 1
            · skip
              go_simp
              try simp only [b2]
              refine gives_mk ?_ hS
              with_reducible rfl
            refine all_take (i := 31) (v := ?_) rfl (by kernel_rfl) (by kernel_rfl) (by kernel_rfl) (fun _ _ _ h => h) (Tame.yes (by kernel_rfl) fun w hS => ?_) ?_
            rotate_left 1
            · skip
              go_simp
              try simp only [b2]
              refine gives_mk ?_ hS
              with_reducible rfl
            clear b2
            refine all_done (by kernel_rfl) ?_ _
            intro w2 hx2
            have HX2 := Lib.hid (HX.out.trans hx2)
            clear hx2 K0 K1
            go_simp
            go_wp2
            refine wp_loop_rounds 1 ?_
            rw [rounds_succ]
            have HCN := Lib.hid (HCON.out (by simp))
            go_wp2
            go_roundw
            case rel => exact ⟨0 + 1, by omega, by go_num, HCN.out, HX2.out⟩
            case measure => simp [intOf]; omega
          · obtain ⟨q, hq, hq0, hq1⟩ := HP.out h0
            obtain ⟨q0, q1⟩ := q
            simp only at hq0 hq1
            have HQ0 := Lib.hid hq0
            have HQ1 := Lib.hid hq1
            have HQ := Lib.hid hq
            clear hq hq0 hq1 HP
            cases hl : decide (Sl.lt (q0, q1) (p0, p1)) with
            | false =>
              have HL := Lib.hid hl
              have HE : Hid (decide (Sl.May xs) = false) := Lib.hid (HNO.out fun hm => of_decide_eq_false HL.out ((HNX.out.1 hm).2.2.1 _ h0 HQ.out))
              clear hl
              have b2 : decide (p1 < 1) = false := by simp; omega
              go_wp2
              refine region_all (fun v => Ext wr v) (by kernel_rfl) (Ext.refl _).drew ?_
              have K0 : ∀ v, Ext wr v → v.cell? ⟨b, o + k * 2, none⟩ = some (.int .i64 p0) := fun v hv => by rw [Below.cell (HX.out.trans hv) HB.out]; exact HC.out.1
              have K1 : ∀ v, Ext wr v → v.cell? ⟨b, o + k * 2 + 1, none⟩ = some (.int .i64 p1) := fun v hv => by rw [Below.cell (HX.out.trans hv) HB.out]; exact HC.out.2
              have K2 : ∀ v, Ext wr v → v.cell? ⟨b, o + (k - 1) * 2, none⟩ = some (.int .i64 q0) := fun v hv => by rw [Below.cell (HX.out.trans hv) HB.out]; exact HQ0.out
              have K3 : ∀ v, Ext wr v → v.cell? ⟨b, o + (k - 1) * 2 + 1, none⟩ = some (.int .i64 q1) := fun v hv => by rw [Below.cell (HX.out.trans hv) HB.out]; exact HQ1.out
              have e1 : ((k : Int) - 1).toNat = k - 1 := by omega
              have e2 : 1 ≤ (k : Int) := by omega
              have e3 : (k : Int) - 1 < (xs.length : Int) := by omega
              have e4 : IntKind.i64.wrap ((k : Int) - 1) = (k : Int) - 1 := IntWalk.i64_in _ (by omega)
              refine all_take (i := 0) (v := ?_) rfl (by kernel_rfl) (by kernel_rfl) (by kernel_rfl) (fun _ _ _ h => h) (Tame.yes (by kernel_rfl) fun w hS => ?_) ?_
              rotate_left 1
              · skip
                go_simp
                try simp only [b2, e1, e4]
                refine gives_mk ?_ hS
                with_reducible rfl
              refine all_take (i := 1) (v := ?_) rfl (by kernel_rfl) (by kernel_rfl) (by kernel_rfl) (fun _ _ _ h => h) (Tame.yes (by kernel_rfl) fun w hS => ?_) ?_
              rotate_left 1
              · skip
                go_simp
                try simp only [b2, e1, e4]
                refine gives_mk ?_ hS
                with_reducible rfl
              refine all_take (i := 2) (v := ?_) rfl (by kernel_rfl) (by kernel_rfl) (by kernel_rfl) (fun _ _ _ h => h) (Tame.yes (by kernel_rfl) fun w hS => ?_) ?_
              rotate_left 1
              · skip
                go_simp
                try simp only [b2, e1, e4]
                refine gives_mk ?_ hS
                with_reducible rfl
              refine all_take (i := 3) (v := ?_) rfl (by kernel_rfl) (by kernel_rfl) (by kernel_rfl) (fun _ _ _ h => h) (Tame.yes (by kernel_rfl) fun w hS => ?_) ?_
              rotate_left 1
              · skip
                go_simp
                try simp only [b2, e1, e4]
                refine gives_mk ?_ hS
                with_reducible rfl
              refine all_take (i := 4) (v := ?_) rfl (by kernel_rfl) (by kernel_rfl) (by kernel_rfl) (fun _ _ _ h => h) (Tame.yes (by kernel_rfl) fun w hS => ?_) ?_
              rotate_left 1
              · skip
                go_simp
                try simp only [b2, e1, e4]
                refine gives_mk ?_ hS
                with_reducible rfl
              refine all_take (i := 5) (v := .bool true) rfl (by kernel_rfl) (by kernel_rfl) (by kernel_rfl) (fun _ _ _ h => h) (Tame.yes (by kernel_rfl) fun w hS => ?_) ?_
              · go_simp
                refine gives_call ((sfits_eq p0 true HFI.out _).mono ?_)
                exact fun r w2 ⟨he, hx⟩ => ⟨he, hx ▸ hS⟩
              refine all_take (i := 6) (v := ?_) rfl (by kernel_rfl) (by kernel_rfl) (by kernel_rfl) (fun _ _ _ h => h) (Tame.yes (by kernel_rfl) fun w hS => ?_) ?_
              rotate_left 1
              · skip
                go_simp
                try simp only [b2, e1, e4]
                refine gives_mk ?_ hS
                with_reducible rfl
              refine all_take (i := 7) (v := ?_) rfl (by kernel_rfl) (by kernel_rfl) (by kernel_rfl) (fun _ _ _ h => h) (Tame.yes (by kernel_rfl) fun w hS => ?_) ?_
              rotate_left 1
              · skip
                go_simp
                try simp only [b2, e1, e4]
                refine gives_mk ?_ hS
                with_reducible rfl
              refine all_take (i := 8) (v := ?_) rfl (by kernel_rfl) (by kernel_rfl) (by kernel_rfl) (fun _ _ _ h => h) (Tame.yes (by kernel_rfl) fun w hS => ?_) ?_
              rotate_left 1
              · skip
                go_simp
                try simp only [b2, e1, e4]
                refine gives_mk ?_ hS
                with_reducible rfl
              refine all_take (i := 9) (v := ?_) rfl (by kernel_rfl) (by kernel_rfl) (by kernel_rfl) (fun _ _ _ h => h) (Tame.yes (by kernel_rfl) fun w hS => ?_) ?_
              rotate_left 1
              · skip
                go_simp
                try simp only [b2, e1, e4]
                refine gives_mk ?_ hS
                with_reducible rfl
              refine all_take (i := 10) (v := ?_) rfl (by kernel_rfl) (by kernel_rfl) (by kernel_rfl) (fun _ _ _ h => h) (Tame.yes (by kernel_rfl) fun w hS => ?_) ?_
              rotate_left 1
              · skip
                go_simp
                try simp only [b2, e1, e4]
                refine gives_mk ?_ hS
                with_reducible rfl
              refine all_take (i := 11) (v := ?_) rfl (by kernel_rfl) (by kernel_rfl) (by kernel_rfl) (fun _ _ _ h => h) (Tame.yes (by kernel_rfl) fun w hS => ?_) ?_
              rotate_left 1
              · skip
                go_simp
                try simp only [b2, e1, e4]
                refine gives_mk ?_ hS
                with_reducible rfl
              refine all_take (i := 12) (v := ?_) rfl (by kernel_rfl) (by kernel_rfl) (by kernel_rfl) (fun _ _ _ h => h) (Tame.yes (by kernel_rfl) fun w hS => ?_) ?_
              rotate_left 1
              · skip
                go_simp
                try simp only [b2, e1, e4]
                refine gives_mk ?_ hS
                with_reducible rfl
              refine all_take (i := 13) (v := ?_) rfl (by kernel_rfl) (by kernel_rfl) (by kernel_rfl) (fun _ _ _ h => h) (Tame.yes (by kernel_rfl) fun w hS => ?_) ?_
              rotate_left 1
              · skip
                go_simp
                try simp only [b2, e1, e4]
                refine gives_mk ?_ hS
                with_reducible rfl
              refine all_take (i := 14) (v := ?_) rfl (by kernel_rfl) (by kernel_rfl) (by kernel_rfl) (fun _ _ _ h => h) (Tame.yes (by kernel_rfl) fun w hS => ?_) ?_
              rotate_left 1
              · skip
                go_simp
                try simp only [b2, e1, e4]
                refine gives_mk ?_ hS
                with_reducible rfl
              refine all_take (i := 15) (v := ?_) rfl (by kernel_rfl) (by kernel_rfl) (by kernel_rfl) (fun _ _ _ h => h) (Tame.yes (by kernel_rfl) fun w hS => ?_) ?_
              rotate_left 1
              · skip
                go_simp
                try simp only [b2, e1, e4]
                refine gives_mk ?_ hS
                with_reducible rfl
              refine all_take (i := 16) (v := ?_) rfl (by kernel_rfl) (by kernel_rfl) (by kernel_rfl) (fun _ _ _ h => h) (Tame.yes (by kernel_rfl) fun w hS => ?_) ?_
              rotate_left 1
              · skip
                go_simp
                try simp only [b2, e1, e4]
                refine gives_mk ?_ hS
                with_reducible rfl
              refine all_take (i := 17) (v := ?_) rfl (by kernel_rfl) (by kernel_rfl) (by kernel_rfl) (fun _ _ _ h => h) (Tame.yes (by kernel_rfl) fun w hS => ?_) ?_
              rotate_left 1
              · skip
                go_simp
                try simp only [b2, e1, e4]
                refine gives_mk ?_ hS
                with_reducible rfl
              refine all_take (i := 18) (v := ?_) rfl (by kernel_rfl) (by kernel_rfl) (by kernel_rfl) (fun _ _ _ h => h) (Tame.yes (by kernel_rfl) fun w hS => ?_) ?_
              rotate_left 1
              · skip
                go_simp
                try simp only [b2, e1, e4]
                refine gives_mk ?_ hS
                with_reducible rfl
              refine all_take (i := 19) (v := ?_) rfl (by kernel_rfl) (by kernel_rfl) (by kernel_rfl) (fun _ _ _ h => h) (Tame.yes (by kernel_rfl) fun w hS => ?_) ?_
              rotate_left 1
              · skip
                go_simp
                try simp only [b2, e1, e4]
                refine gives_mk ?_ hS
                with_reducible rfl
              refine all_take (i := 20) (v := ?_) rfl (by kernel_rfl) (by kernel_rfl) (by kernel_rfl) (fun _ _ _ h => h) (Tame.yes (by kernel_rfl) fun w hS => ?_) ?_
              rotate_left 1
              · skip
                go_simp
                try simp only [b2, e1, e4]
                refine gives_mk ?_ hS
                with_reducible rfl
              refine all_take (i := 21) (v := ?_) rfl (by kernel_rfl) (by kernel_rfl) (by kernel_rfl) (fun _ _ _ h => h) (Tame.yes (by kernel_rfl) fun w hS => ?_) ?_
              rotate_left 1
              · skip
                go_simp
                try simp only [b2, e1, e4]
                refine gives_mk ?_ hS
                with_reducible rfl
              refine all_take (i := 22) (v := ?_) rfl (by kernel_rfl) (by kernel_rfl) (by kernel_rfl) (fun _ _ _ h => h) (Tame.yes (by kernel_rfl) fun w hS => ?_) ?_
              rotate_left 1
              · skip
                go_simp
                try simp only [b2, e1, e4]
                refine gives_mk ?_ hS
                with_reducible rfl
              refine all_take (i := 23) (v := ?_) rfl (by kernel_rfl) (by kernel_rfl) (by kernel_rfl) (fun _ _ _ h => h) (Tame.yes (by kernel_rfl) fun w hS => ?_) ?_
              rotate_left 1
              · skip
                go_simp
                try simp only [b2, e1, e4]
                refine gives_mk ?_ hS
                with_reducible rfl
              refine all_take (i := 24) (v := ?_) rfl (by kernel_rfl) (by kernel_rfl) (by kernel_rfl) (fun _ _ _ h => h) (Tame.yes (by kernel_rfl) fun w hS => ?_) ?_
              rotate_left 1
              · skip
                go_simp
                try simp only [b2, e1, e4]
                refine gives_mk ?_ hS
                with_reducible rfl
              refine all_take (i := 25) (v := ?_) rfl (by kernel_rfl) (by kernel_rfl) (by kernel_rfl) (fun _ _ _ h => h) (Tame.yes (by kernel_rfl) fun w hS => ?_) ?_
              rotate_left 1
              · skip
                go_simp
                try simp only [b2, e1, e4]
                refine gives_mk ?_ hS
                with_reducible rfl
              refine all_take (i := 26) (v := ?_) rfl (by kernel_rfl) (by kernel_rfl) (by kernel_rfl) (fun _ _ _ h => h) (Tame.yes (by kernel_rfl) fun w hS => ?_) ?_
              rotate_left 1
              · skip
                go_simp
                try simp only [b2, e1, e4]
                refine gives_mk ?_ hS
                with_reducible rfl
              refine all_take (i := 27) (v := ?_) rfl (by kernel_rfl) (by kernel_rfl) (by kernel_rfl) (fun _ _ _ h => h) (Tame.yes (by kernel_rfl) fun w hS => ?_) ?_
              rotate_left 1
              · skip
                go_simp
                try simp only [b2, e1, e4]
                refine gives_mk ?_ hS
                with_reducible rfl
              refine all_take (i := 28) (v := .bool false) rfl (by kernel_rfl) (by kernel_rfl) (by kernel_rfl) (fun _ _ _ h => h) (Tame.yes (by kernel_rfl) fun w hS => ?_) ?_
              · go_simp
                refine gives_call ((rahead_eq q0 q1 p0 p1 false HL.out _).mono ?_)
                exact fun r w2 ⟨he, hx⟩ => ⟨he, hS.trans hx⟩
              refine all_take (i := 29) (v := ?_) rfl (by kernel_rfl) (by kernel_rfl) (by kernel_rfl) (fun _ _ _ h => h) (Tame.yes (by kernel_rfl) fun w hS => ?_) ?_
              rotate_left 1
              · skip
                go_simp
                try simp only [b2, e1, e4]
                refine gives_mk ?_ hS
                with_reducible rfl
              refine all_take (i := 30) (v := ?_) rfl (by kernel_rfl) (by kernel_rfl) (by kernel_rfl) (fun _ _ _ h => h) (Tame.yes (by kernel_rfl) fun w hS => ?_) ?_
              rotate_left 1
              · skip
                go_simp
                try simp only [b2, e1, e4]
                refine gives_mk ?_ hS
                with_reducible rfl
              refine all_take (i := 31) (v := ?_) rfl (by kernel_rfl) (by kernel_rfl) (by kernel_rfl) (fun _ _ _ h => h) (Tame.yes (by kernel_rfl) fun w hS => ?_) ?_
              rotate_left 1
              · skip
                go_simp
                try simp only [b2, e1, e4]
                refine gives_mk ?_ hS
                with_reducible rfl
              clear e1 e2 e3 e4 K2 K3 b2
              refine all_done (by kernel_rfl) ?_ _
              intro w2 hx2
              have HX2 := Lib.hid (HX.out.trans hx2)
              clear hx2 K0 K1
              go_simp
              go_wp2
              go_ret
              exact ⟨by rw [HE.out]; rfl, HX2.out⟩
            | true =>
              have HL := Lib.hid hl
              have HCON : Hid (p1 ∉ (xs.take k).map Prod.snd → Sl.May (xs.take (k + 1))) := Lib.hid fun hn => HNX.out.2 ⟨HM.out, HF.out, fun q _ h => by rw [HQ.out] at h; cases h; exact of_decide_eq_true HL.out, hn⟩
              clear hl
              have b2 : decide (p1 < 1) = false := by simp; omega
              go_wp2
              refine region_all (fun v => Ext wr v) (by kernel_rfl) (Ext.refl _).drew ?_
              have K0 : ∀ v, Ext wr v → v.cell? ⟨b, o + k * 2, none⟩ = some (.int .i64 p0) := fun v hv => by rw [Below.cell (HX.out.trans hv) HB.out]; exact HC.out.1
              have K1 : ∀ v, Ext wr v → v.cell? ⟨b, o + k * 2 + 1, none⟩ = some (.int .i64 p1) := fun v hv => by rw [Below.cell (HX.out.trans hv) HB.out]; exact HC.out.2
              have K2 : ∀ v, Ext wr v → v.cell? ⟨b, o + (k - 1) * 2, none⟩ = some (.int .i64 q0) := fun v hv => by rw [Below.cell (HX.out.trans hv) HB.out]; exact HQ0.out
              have K3 : ∀ v, Ext wr v → v.cell? ⟨b, o + (k - 1) * 2 + 1, none⟩ = some (.int .i64 q1) := fun v hv => by rw [Below.cell (HX.out.trans hv) HB.out]; exact HQ1.out
              have e1 : ((k : Int) - 1).toNat = k - 1 := by omega
              have e2 : 1 ≤ (k : Int) := by omega
              have e3 : (k : Int) - 1 < (xs.length : Int) := by omega
              have e4 : IntKind.i64.wrap ((k : Int) - 1) = (k : Int) - 1 := IntWalk.i64_in _ (by omega)
              refine all_take (i := 0) (v := ?_) rfl (by kernel_rfl) (by kernel_rfl) (by kernel_rfl) (fun _ _ _ h => h) (Tame.yes (by kernel_rfl) fun w hS => ?_) ?_
              rotate_left 1
              · skip
                go_simp
                try simp only [b2, e1, e4]
                refine gives_mk ?_ hS
                with_reducible rfl
              refine all_take (i := 1) (v := ?_) rfl (by kernel_rfl) (by kernel_rfl) (by kernel_rfl) (fun _ _ _ h => h) (Tame.yes (by kernel_rfl) fun w hS => ?_) ?_
              rotate_left 1
              · skip
                go_simp
                try simp only [b2, e1, e4]
                refine gives_mk ?_ hS
                with_reducible rfl
              refine all_take (i := 2) (v := ?_) rfl (by kernel_rfl) (by kernel_rfl) (by kernel_rfl) (fun _ _ _ h => h) (Tame.yes (by kernel_rfl) fun w hS => ?_) ?_
              rotate_left 1
              · skip
                go_simp
                try simp only [b2, e1, e4]
                refine gives_mk ?_ hS
                with_reducible rfl
              refine all_take (i := 3) (v := ?_) rfl (by kernel_rfl) (by kernel_rfl) (by kernel_rfl) (fun _ _ _ h => h) (Tame.yes (by kernel_rfl) fun w hS => ?_) ?_
              rotate_left 1
              · skip
                go_simp
                try simp only [b2, e1, e4]
                refine gives_mk ?_ hS
                with_reducible rfl
              refine all_take (i := 4) (v := ?_) rfl (by kernel_rfl) (by kernel_rfl) (by kernel_rfl) (fun _ _ _ h => h) (Tame.yes (by kernel_rfl) fun w hS => ?_) ?_
              rotate_left 1
              · skip
                go_simp
                try simp only [b2, e1, e4]
                refine gives_mk ?_ hS
                with_reducible rfl
              refine all_take (i := 5) (v := .bool true) rfl (by kernel_rfl) (by kernel_rfl) (by kernel_rfl) (fun _ _ _ h => h) (Tame.yes (by kernel_rfl) fun w hS => ?_) ?_
              · go_simp
                refine gives_call ((sfits_eq p0 true HFI.out _).mono ?_)
                exact fun r w2 ⟨he, hx⟩ => ⟨he, hx ▸ hS⟩
              refine all_take (i := 6) (v := ?_) rfl (by kernel_rfl) (by kernel_rfl) (by kernel_rfl) (fun _ _ _ h => h) (Tame.yes (by kernel_rfl) fun w hS => ?_) ?_
              rotate_left 1
              · skip
                go_simp
                try simp only [b2, e1, e4]
                refine gives_mk ?_ hS
                with_reducible rfl
              refine all_take (i := 7) (v := ?_) rfl (by kernel_rfl) (by kernel_rfl) (by kernel_rfl) (fun _ _ _ h => h) (Tame.yes (by kernel_rfl) fun w hS => ?_) ?_
              rotate_left 1
              · skip
                go_simp
                try simp only [b2, e1, e4]
                refine gives_mk ?_ hS
                with_reducible rfl
              refine all_take (i := 8) (v := ?_) rfl (by kernel_rfl) (by kernel_rfl) (by kernel_rfl) (fun _ _ _ h => h) (Tame.yes (by kernel_rfl) fun w hS => ?_) ?_
              rotate_left 1
              · skip
                go_simp
                try simp only [b2, e1, e4]
                refine gives_mk ?_ hS
                with_reducible rfl
              refine all_take (i := 9) (v := ?_) rfl (by kernel_rfl) (by kernel_rfl) (by kernel_rfl) (fun _ _ _ h => h) (Tame.yes (by kernel_rfl) fun w hS => ?_) ?_
              rotate_left 1
              · skip
                go_simp
                try simp only [b2, e1, e4]
                refine gives_mk ?_ hS
                with_reducible rfl
              refine all_take (i := 10) (v := ?_) rfl (by kernel_rfl) (by kernel_rfl) (by kernel_rfl) (fun _ _ _ h => h) (Tame.yes (by kernel_rfl) fun w hS => ?_) ?_
              rotate_left 1
              · skip
                go_simp
                try simp only [b2, e1, e4]
                refine gives_mk ?_ hS
                with_reducible rfl
              refine all_take (i := 11) (v := ?_) rfl (by kernel_rfl) (by kernel_rfl) (by kernel_rfl) (fun _ _ _ h => h) (Tame.yes (by kernel_rfl) fun w hS => ?_) ?_
              rotate_left 1
              · skip
                go_simp
                try simp only [b2, e1, e4]
                refine gives_mk ?_ hS
                with_reducible rfl
              refine all_take (i := 12) (v := ?_) rfl (by kernel_rfl) (by kernel_rfl) (by kernel_rfl) (fun _ _ _ h => h) (Tame.yes (by kernel_rfl) fun w hS => ?_) ?_
              rotate_left 1
              · skip
                go_simp
                try simp only [b2, e1, e4]
                refine gives_mk ?_ hS
                with_reducible rfl
              refine all_take (i := 13) (v := ?_) rfl (by kernel_rfl) (by kernel_rfl) (by kernel_rfl) (fun _ _ _ h => h) (Tame.yes (by kernel_rfl) fun w hS => ?_) ?_
              rotate_left 1
              · skip
                go_simp
                try simp only [b2, e1, e4]
                refine gives_mk ?_ hS
                with_reducible rfl
              refine all_take (i := 14) (v := ?_) rfl (by kernel_rfl) (by kernel_rfl) (by kernel_rfl) (fun _ _ _ h => h) (Tame.yes (by kernel_rfl) fun w hS => ?_) ?_
              rotate_left 1
              · skip
                go_simp
                try simp only [b2, e1, e4]
                refine gives_mk ?_ hS
                with_reducible rfl
              refine all_take (i := 15) (v := ?_) rfl (by kernel_rfl) (by kernel_rfl) (by kernel_rfl) (fun _ _ _ h => h) (Tame.yes (by kernel_rfl) fun w hS => ?_) ?_
              rotate_left 1
              · skip
                go_simp
                try simp only [b2, e1, e4]
                refine gives_mk ?_ hS
                with_reducible rfl
              refine all_take (i := 16) (v := ?_) rfl (by kernel_rfl) (by kernel_rfl) (by kernel_rfl) (fun _ _ _ h => h) (Tame.yes (by kernel_rfl) fun w hS => ?_) ?_
              rotate_left 1
              · skip
                go_simp
                try simp only [b2, e1, e4]
                refine gives_mk ?_ hS
                with_reducible rfl
              refine all_take (i := 17) (v := ?_) rfl (by kernel_rfl) (by kernel_rfl) (by kernel_rfl) (fun _ _ _ h => h) (Tame.yes (by kernel_rfl) fun w hS => ?_) ?_
              rotate_left 1
              · skip
                go_simp
                try simp only [b2, e1, e4]
                refine gives_mk ?_ hS
                with_reducible rfl
              refine all_take (i := 18) (v := ?_) rfl (by kernel_rfl) (by kernel_rfl) (by kernel_rfl) (fun _ _ _ h => h) (Tame.yes (by kernel_rfl) fun w hS => ?_) ?_
              rotate_left 1
              · skip
                go_simp
                try simp only [b2, e1, e4]
                refine gives_mk ?_ hS
                with_reducible rfl
              refine all_take (i := 19) (v := ?_) rfl (by kernel_rfl) (by kernel_rfl) (by kernel_rfl) (fun _ _ _ h => h) (Tame.yes (by kernel_rfl) fun w hS => ?_) ?_
              rotate_left 1
              · skip
                go_simp
                try simp only [b2, e1, e4]
                refine gives_mk ?_ hS
                with_reducible rfl
              refine all_take (i := 20) (v := ?_) rfl (by kernel_rfl) (by kernel_rfl) (by kernel_rfl) (fun _ _ _ h => h) (Tame.yes (by kernel_rfl) fun w hS => ?_) ?_
              rotate_left 1
              · skip
                go_simp
                try simp only [b2, e1, e4]
                refine gives_mk ?_ hS
                with_reducible rfl
              refine all_take (i := 21) (v := ?_) rfl (by kernel_rfl) (by kernel_rfl) (by kernel_rfl) (fun _ _ _ h => h) (Tame.yes (by kernel_rfl) fun w hS => ?_) ?_
              rotate_left 1
              · skip
                go_simp
                try simp only [b2, e1, e4]
                refine gives_mk ?_ hS
                with_reducible rfl
              refine all_take (i := 22) (v := ?_) rfl (by kernel_rfl) (by kernel_rfl) (by kernel_rfl) (fun _ _ _ h => h) (Tame.yes (by kernel_rfl) fun w hS => ?_) ?_
              rotate_left 1
              · skip
                go_simp
                try simp only [b2, e1, e4]
                refine gives_mk ?_ hS
                with_reducible rfl
              refine all_take (i := 23) (v := ?_) rfl (by kernel_rfl) (by kernel_rfl) (by kernel_rfl) (fun _ _ _ h => h) (Tame.yes (by kernel_rfl) fun w hS => ?_) ?_
              rotate_left 1
              · skip
                go_simp
                try simp only [b2, e1, e4]
                refine gives_mk ?_ hS
                with_reducible rfl
              refine all_take (i := 24) (v := ?_) rfl (by kernel_rfl) (by kernel_rfl) (by kernel_rfl) (fun _ _ _ h => h) (Tame.yes (by kernel_rfl) fun w hS => ?_) ?_
              rotate_left 1
              · skip
                go_simp
                try simp only [b2, e1, e4]
                refine gives_mk ?_ hS
                with_reducible rfl
              refine all_take (i := 25) (v := ?_) rfl (by kernel_rfl) (by kernel_rfl) (by kernel_rfl) (fun _ _ _ h => h) (Tame.yes (by kernel_rfl) fun w hS => ?_) ?_
              rotate_left 1
              · skip
                go_simp
                try simp only [b2, e1, e4]
                refine gives_mk ?_ hS
                with_reducible rfl
              refine all_take (i := 26) (v := ?_) rfl (by kernel_rfl) (by kernel_rfl) (by kernel_rfl) (fun _ _ _ h => h) (Tame.yes (by kernel_rfl) fun w hS => ?_) ?_
              rotate_left 1
              · skip
                go_simp
                try simp only [b2, e1, e4]
                refine gives_mk ?_ hS
                with_reducible rfl
              refine all_take (i := 27) (v := ?_) rfl (by kernel_rfl) (by kernel_rfl) (by kernel_rfl) (fun _ _ _ h => h) (Tame.yes (by kernel_rfl) fun w hS => ?_) ?_
              rotate_left 1
              · skip
                go_simp
                try simp only [b2, e1, e4]
                refine gives_mk ?_ hS
                with_reducible rfl
              refine all_take (i := 28) (v := .bool true) rfl (by kernel_rfl) (by kernel_rfl) (by kernel_rfl) (fun _ _ _ h => h) (Tame.yes (by kernel_rfl) fun w hS => ?_) ?_
              · go_simp
                refine gives_call ((rahead_eq q0 q1 p0 p1 true HL.out _).mono ?_)
                exact fun r w2 ⟨he, hx⟩ => ⟨he, hS.trans hx⟩
              refine all_take (i := 29) (v := ?_) rfl (by kernel_rfl) (by kernel_rfl) (by kernel_rfl) (fun _ _ _ h => h) (Tame.yes (by kernel_rfl) fun w hS => ?_) ?_
              rotate_left 1
              · skip
                go_simp
                try simp only [b2, e1, e4]
                refine gives_mk ?_ hS
                with_reducible rfl
              refine all_take (i := 30) (v := ?_) rfl (by kernel_rfl) (by kernel_rfl) (by kernel_rfl) (fun _ _ _ h => h) (Tame.yes (by kernel_rfl) fun w hS => ?_) ?_
              rotate_left 1
              · skip
                go_simp
                try simp only [b2, e1, e4]
                refine gives_mk ?_ hS
                with_reducible rfl
              refine all_take (i := 31) (v := ?_) rfl (by kernel_rfl) (by kernel_rfl) (by kernel_rfl) (fun _ _ _ h => h) (Tame.yes (by kernel_rfl) fun w hS => ?_) ?_
              rotate_left 1
              · skip
                go_simp
                try simp only [b2, e1, e4]
                refine gives_mk ?_ hS
                with_reducible rfl
              clear e1 e2 e3 e4 K2 K3 b2
              refine all_done (by kernel_rfl) ?_ _
              intro w2 hx2
              have HX2 := Lib.hid (HX.out.trans hx2)
              clear hx2 K0 K1
              go_simp
              go_wp2
              go_loopw [4] (fun i wi => ∃ m : Nat, m ≤ k ∧ i = .int .i64 m ∧ p1 ∉ (xs.take m).map Prod.snd ∧ Ext w wi) (fun i _ => k - (intOf i).toNat)
              case atStart => exact ⟨0, by omega, rfl, by simp, HX2.out⟩
              case round =>
                clear HX2
                obtain ⟨m, hm, rfl, hnot, hxi⟩ := hrel
                have HNOT := Lib.hid hnot
                have HXI := Lib.hid hxi
                clear hnot hxi
                by_cases hmk : m < k
                · have hml : m < xs.length := by omega
                  have HCM := Lib.hid (HCC.out m _ (List.getElem?_eq_getElem hml))
                  have HTM : Hid (xs.take (m + 1) = xs.take m ++ [xs[m]]) := Lib.hid (List.take_succ_eq_append_getElem hml)
                  have HMM : Hid (xs[m].2 ∈ (xs.take k).map Prod.snd) := Lib.hid (by
                    refine List.mem_map.2 ⟨xs[m], ?_, rfl⟩
                    rw [List.mem_iff_getElem?]
                    exact ⟨m, by rw [List.getElem?_take, if_pos hmk]; exact List.getElem?_eq_getElem hml⟩)
                  generalize xs[m] = z at *
                  obtain ⟨z0, z1⟩ := z
                  simp only at HCM HMM
                  have K0 : ∀ v, Ext wr v → v.cell? ⟨b, o + m * 2 + 1, none⟩ = some (.int .i64 z1) := fun v hv => by rw [Below.cell (HXI.out.trans hv) HB.out]; exact HCM.out.2
                  have K1 : ∀ v, Ext wr v → v.cell? ⟨b, o + k * 2 + 1, none⟩ = some (.int .i64 p1) := fun v hv => by rw [Below.cell (HXI.out.trans hv) HB.out]; exact HC.out.2
                  by_cases hz : z1 = p1
                  · have HE : Hid (decide (Sl.May xs) = false) := Lib.hid (HNO.out fun hh => (HNX.out.1 hh).2.2.2 (hz ▸ HMM.out))
                    have hzb : (z1 == p1) = true := by simpa using hz
                    clear hz
                    go_wp2
                    refine region_all (fun v => Ext wr v) (by kernel_rfl) (Ext.refl _).drew ?_
                    refine all_take (i := 0) (v := ?_) rfl (by kernel_rfl) (by kernel_rfl) (by kernel_rfl) (fun _ _ _ h => h) (Tame.yes (by kernel_rfl) fun w hS => ?_) ?_
                    rotate_left 1
                    · skip
                      go_simp
                      try simp only [hzb]
                      refine gives_mk ?_ hS
                      with_reducible rfl
                    refine all_take (i := 1) (v := ?_) rfl (by kernel_rfl) (by kernel_rfl) (by kernel_rfl) (fun _ _ _ h => h) (Tame.yes (by kernel_rfl) fun w hS => ?_) ?_
                    rotate_left 1
                    · skip
                      go_simp
                      try simp only [hzb]
                      refine gives_mk ?_ hS
                      with_reducible rfl
                    refine all_take (i := 2) (v := ?_) rfl (by kernel_rfl) (by kernel_rfl) (by kernel_rfl) (fun _ _ _ h => h) (Tame.yes (by kernel_rfl) fun w hS => ?_) ?_
                    rotate_left 1
                    · skip
                      go_simp
                      try simp only [hzb]
                      refine gives_mk ?_ hS
                      with_reducible rfl
                    refine all_take (i := 3) (v := ?_) rfl (by kernel_rfl) (by kernel_rfl) (by kernel_rfl) (fun _ _ _ h => h) (Tame.yes (by kernel_rfl) fun w hS => ?_) ?_
                    rotate_left 1
                    · skip
                      go_simp
                      try simp only [hzb]
                      refine gives_mk ?_ hS
                      with_reducible rfl
                    refine all_take (i := 4) (v := ?_) rfl (by kernel_rfl) (by kernel_rfl) (by kernel_rfl) (fun _ _ _ h => h) (Tame.yes (by kernel_rfl) fun w hS => ?_) ?_
                    rotate_left 1
                    · skip
                      go_simp
                      try simp only [hzb]
                      refine gives_mk ?_ hS
                      with_reducible rfl
                    refine all_take (i := 5) (v := ?_) rfl (by kernel_rfl) (by kernel_rfl) (by kernel_rfl) (fun _ _ _ h => h) (Tame.yes (by kernel_rfl) fun w hS => ?_) ?_
                    rotate_left 1
                    · skip
                      go_simp
                      try simp only [hzb]
                      refine gives_mk ?_ hS
                      with_reducible rfl
                    refine all_take (i := 6) (v := ?_) rfl (by kernel_rfl) (by kernel_rfl) (by kernel_rfl) (fun _ _ _ h => h) (Tame.yes (by kernel_rfl) fun w hS => ?_) ?_
                    rotate_left 1
                    · skip
                      go_simp
                      try simp only [hzb]
                      refine gives_mk ?_ hS
                      with_reducible rfl
                    refine all_take (i := 7) (v := ?_) rfl (by kernel_rfl) (by kernel_rfl) (by kernel_rfl) (fun _ _ _ h => h) (Tame.yes (by kernel_rfl) fun w hS => ?_) ?_
                    rotate_left 1
                    · skip
                      go_simp
                      try simp only [hzb]
                      refine gives_mk ?_ hS
                      with_reducible rfl
                    refine all_take (i := 8) (v := ?_) rfl (by kernel_rfl) (by kernel_rfl) (by kernel_rfl) (fun _ _ _ h => h) (Tame.yes (by kernel_rfl) fun w hS => ?_) ?_
                    rotate_left 1
                    · skip
                      go_simp
                      try simp only [hzb]
                      refine gives_mk ?_ hS
                      with_reducible rfl
                    refine all_take (i := 9) (v := ?_) rfl (by kernel_rfl) (by kernel_rfl) (by kernel_rfl) (fun _ _ _ h => h) (Tame.yes (by kernel_rfl) fun w hS => ?_) ?_
                    rotate_left 1
                    · skip
                      go_simp
                      try simp only [hzb]
                      refine gives_mk ?_ hS
                      with_reducible rfl
                    refine all_take (i := 10) (v := ?_) rfl (by kernel_rfl) (by kernel_rfl) (by kernel_rfl) (fun _ _ _ h => h) (Tame.yes (by kernel_rfl) fun w hS => ?_) ?_
                    rotate_left 1
                    · skip
                      go_simp
                      try simp only [hzb]
                      refine gives_mk ?_ hS
                      with_reducible rfl
                    refine all_done (by kernel_rfl) ?_ _
                    intro w3 hx3
                    have HX3 := Lib.hid (HXI.out.trans hx3)
                    clear hx3 K0 K1
                    go_simp
                    go_wp2
                    go_ret
                    exact ⟨by rw [HE.out]; rfl, HX3.out⟩
                  · have hzb : (z1 == p1) = false := by simpa using hz
                    have HZ := Lib.hid hz
                    clear hz
                    go_wp2
                    refine region_all (fun v => Ext wr v) (by kernel_rfl) (Ext.refl _).drew ?_
                    refine all_take (i := 0) (v := ?_) rfl (by kernel_rfl) (by kernel_rfl) (by kernel_rfl) (fun _ _ _ h => h) (Tame.yes (by kernel_rfl) fun w hS => ?_) ?_
                    rotate_left 1
                    · skip
                      go_simp
                      try simp only [hzb]
                      refine gives_mk ?_ hS
                      with_reducible rfl
                    refine all_take (i := 1) (v := ?_) rfl (by kernel_rfl) (by kernel_rfl) (by kernel_rfl) (fun _ _ _ h => h) (Tame.yes (by kernel_rfl) fun w hS => ?_) ?_
                    rotate_left 1
                    · skip
                      go_simp
                      try simp only [hzb]
                      refine gives_mk ?_ hS
                      with_reducible rfl
                    refine all_take (i := 2) (v := ?_) rfl (by kernel_rfl) (by kernel_rfl) (by kernel_rfl) (fun _ _ _ h => h) (Tame.yes (by kernel_rfl) fun w hS => ?_) ?_
                    rotate_left 1
                    · skip
                      go_simp
                      try simp only [hzb]
                      refine gives_mk ?_ hS
                      with_reducible rfl
                    refine all_take (i := 3) (v := ?_) rfl (by kernel_rfl) (by kernel_rfl) (by kernel_rfl) (fun _ _ _ h => h) (Tame.yes (by kernel_rfl) fun w hS => ?_) ?_
                    rotate_left 1
                    · skip
                      go_simp
                      try simp only [hzb]
                      refine gives_mk ?_ hS
                      with_reducible rfl
                    refine all_take (i := 4) (v := ?_) rfl (by kernel_rfl) (by kernel_rfl) (by kernel_rfl) (fun _ _ _ h => h) (Tame.yes (by kernel_rfl) fun w hS => ?_) ?_
                    rotate_left 1
                    · skip
                      go_simp
                      try simp only [hzb]
                      refine gives_mk ?_ hS
                      with_reducible rfl
                    refine all_take (i := 5) (v := ?_) rfl (by kernel_rfl) (by kernel_rfl) (by kernel_rfl) (fun _ _ _ h => h) (Tame.yes (by kernel_rfl) fun w hS => ?_) ?_
                    rotate_left 1
                    · skip
                      go_simp
                      try simp only [hzb]
                      refine gives_mk ?_ hS
                      with_reducible rfl
                    refine all_take (i := 6) (v := ?_) rfl (by kernel_rfl) (by kernel_rfl) (by kernel_rfl) (fun _ _ _ h => h) (Tame.yes (by kernel_rfl) fun w hS => ?_) ?_
                    rotate_left 1
                    · skip
                      go_simp
                      try simp only [hzb]
                      refine gives_mk ?_ hS
                      with_reducible rfl
                    refine all_take (i := 7) (v := ?_) rfl (by kernel_rfl) (by kernel_rfl) (by kernel_rfl) (fun _ _ _ h => h) (Tame.yes (by kernel_rfl) fun w hS => ?_) ?_
                    rotate_left 1
                    · skip
                      go_simp
                      try simp only [hzb]
                      refine gives_mk ?_ hS
                      with_reducible rfl
                    refine all_take (i := 8) (v := ?_) rfl (by kernel_rfl) (by kernel_rfl) (by kernel_rfl) (fun _ _ _ h => h) (Tame.yes (by kernel_rfl) fun w hS => ?_) ?_
                    rotate_left 1
                    · skip
                      go_simp
                      try simp only [hzb]
                      refine gives_mk ?_ hS
                      with_reducible rfl
                    refine all_take (i := 9) (v := ?_) rfl (by kernel_rfl) (by kernel_rfl) (by kernel_rfl) (fun _ _ _ h => h) (Tame.yes (by kernel_rfl) fun w hS => ?_) ?_
                    rotate_left 1
                    · skip
                      go_simp
                      try simp only [hzb]
                      refine gives_mk ?_ hS
                      with_reducible rfl
                    refine all_take (i := 10) (v := ?_) rfl (by kernel_rfl) (by kernel_rfl) (by kernel_rfl) (fun _ _ _ h => h) (Tame.yes (by kernel_rfl) fun w hS => ?_) ?_
                    rotate_left 1
                    · skip
                      go_simp
                      try simp only [hzb]
                      refine gives_mk ?_ hS
                      with_reducible rfl
                    refine all_done (by kernel_rfl) ?_ _
                    intro w3 hx3
                    have HX3 := Lib.hid (HXI.out.trans hx3)
                    clear hx3 K0 K1 hzb
                    go_simp
                    go_wp2
                    go_roundw
                    case rel => exact ⟨m + 1, by omega, by go_num, by rw [HTM.out]; have h1 := HNOT.out; have h2 := HZ.out; simp only [List.map_append, List.mem_append, List.map_cons, List.map_nil, List.mem_singleton]; rintro (h | h); exact h1 h; exact h2 h.symm, HX3.out⟩
                    case measure => simp [intOf]; omega
                · obtain rfl : m = k := by omega
                  have HCN := Lib.hid (HCON.out HNOT.out)
                  go_wp2
                  go_roundw
                  case rel => exact ⟨m + 1, by omega, by go_num, HCN.out, HXI.out⟩
                  case measure => simp [intOf]; omega
        · have HE : Hid (decide (Sl.May xs) = false) := Lib.hid (HNO.out fun hm => h2 ((HNX.out.1 hm).2.1).2.2)
          clear HP HNX HNO h01
          have b2 : decide (p1 < 1) = true := by simp; omega
          clear h2
          go_wp2
          refine region_all (fun v => Ext wr v) (by kernel_rfl) (Ext.refl _).drew ?_
          have K0 : ∀ v, Ext wr v → v.cell? ⟨b, o + k * 2, none⟩ = some (.int .i64 p0) := fun v hv => by rw [Below.cell (HX.out.trans hv) HB.out]; exact HC.out.1
          have K1 : ∀ v, Ext wr v → v.cell? ⟨b, o + k * 2 + 1, none⟩ = some (.int .i64 p1) := fun v hv => by rw [Below.cell (HX.out.trans hv) HB.out]; exact HC.out.2
          refine all_take (i := 0) (v := ?_) rfl (by kernel_rfl) (by kernel_rfl) (by kernel_rfl) (fun _ _ _ h => h) (Tame.yes (by kernel_rfl) fun w hS => ?_) ?_
          rotate_left 1
          · skip
            go_simp
            try simp only [b2]
            refine gives_mk ?_ hS
            with_reducible rfl
          refine all_take (i := 1) (v := ?_) rfl (by kernel_rfl) (by kernel_rfl) (by kernel_rfl) (fun _ _ _ h => h) (Tame.yes (by kernel_rfl) fun w hS => ?_) ?_
          rotate_left 1
          · skip
            go_simp
            try simp only [b2]
            refine gives_mk ?_ hS
            with_reducible rfl
          refine all_take (i := 2) (v := ?_) rfl (by kernel_rfl) (by kernel_rfl) (by kernel_rfl) (fun _ _ _ h => h) (Tame.yes (by kernel_rfl) fun w hS => ?_) ?_
          rotate_left 1
          · skip
            go_simp
            try simp only [b2]
            refine gives_mk ?_ hS
            with_reducible rfl
          refine all_take (i := 3) (v := ?_) rfl (by kernel_rfl) (by kernel_rfl) (by kernel_rfl) (fun _ _ _ h => h) (Tame.yes (by kernel_rfl) fun w hS => ?_) ?_
          rotate_left 1
          · skip
            go_simp
            try simp only [b2]
            refine gives_mk ?_ hS
            with_reducible rfl
          refine all_take (i := 4) (v := ?_) rfl (by kernel_rfl) (by kernel_rfl) (by kernel_rfl) (fun _ _ _ h => h) (Tame.yes (by kernel_rfl) fun w hS => ?_) ?_
          rotate_left 1
          · skip
            go_simp
            try simp only [b2]
            refine gives_mk ?_ hS
            with_reducible rfl
          refine all_take (i := 5) (v := .bool true) rfl (by kernel_rfl) (by kernel_rfl) (by kernel_rfl) (fun _ _ _ h => h) (Tame.yes (by kernel_rfl) fun w hS => ?_) ?_
          · go_simp
            refine gives_call ((sfits_eq p0 true HFI.out _).mono ?_)
            exact fun r w2 ⟨he, hx⟩ => ⟨he, hx ▸ hS⟩
          refine all_take (i := 6) (v := ?_) rfl (by kernel_rfl) (by kernel_rfl) (by kernel_rfl) (fun _ _ _ h => h) (Tame.yes (by kernel_rfl) fun w hS => ?_) ?_
          rotate_left 1
          · skip
            go_simp
            try simp only [b2]
            refine gives_mk ?_ hS
            with_reducible rfl
          refine all_take (i := 7) (v := ?_) rfl (by kernel_rfl) (by kernel_rfl) (by kernel_rfl) (fun _ _ _ h => h) (Tame.yes (by kernel_rfl) fun w hS => ?_) ?_
          rotate_left 1
          · skip
            go_simp
            try simp only [b2]
            refine gives_mk ?_ hS
            with_reducible rfl
          refine all_take (i := 8) (v := ?_) rfl (by kernel_rfl) (by kernel_rfl) (by kernel_rfl) (fun _ _ _ h => h) (Tame.yes (by kernel_rfl) fun w hS => ?_) ?_
          rotate_left 1
          · skip
            go_simp
            try simp only [b2]
            refine gives_mk ?_ hS
            with_reducible rfl
          refine all_take (i := 9) (v := ?_) rfl (by kernel_rfl) (by kernel_rfl) (by kernel_rfl) (fun _ _ _ h => h) (Tame.yes (by kernel_rfl) fun w hS => ?_) ?_
          rotate_left 1
          · skip
            go_simp
            try simp only [b2]
            refine gives_mk ?_ hS
            with_reducible rfl
          refine all_take (i := 10) (v := ?_) rfl (by kernel_rfl) (by kernel_rfl) (by kernel_rfl) (fun _ _ _ h => h) (Tame.yes (by kernel_rfl) fun w hS => ?_) ?_
          rotate_left 1
          · skip
            go_simp
            try simp only [b2]
            refine gives_mk ?_ hS
            with_reducible rfl
          refine all_take (i := 11) (v := ?_) rfl (by kernel_rfl) (by kernel_rfl) (by kernel_rfl) (fun _ _ _ h => h) (Tame.yes (by kernel_rfl) fun w hS => ?_) ?_
          rotate_left 1
          · skip
            go_simp
            try simp only [b2]
            refine gives_mk ?_ hS
            with_reducible rfl
          refine all_take (i := 12) (v := ?_) rfl (by kernel_rfl) (by kernel_rfl) (by kernel_rfl) (fun _ _ _ h => h) (Tame.yes (by kernel_rfl) fun w hS => ?_) ?_
          rotate_left 1
          · skip
            go_simp
            try simp only [b2]
            refine gives_mk ?_ hS
            with_reducible rfl
          refine all_take (i := 13) (v := ?_) rfl (by kernel_rfl) (by kernel_rfl) (by kernel_rfl) (fun _ _ _ h => h) (Tame.yes (by kernel_rfl) fun w hS => ?_) ?_
          rotate_left 1
          · skip
            go_simp
            try simp only [b2]
            refine gives_mk ?_ hS
            with_reducible rfl
          refine all_take (i := 14) (v := ?_) rfl (by kernel_rfl) (by kernel_rfl) (by kernel_rfl) (fun _ _ _ h => h) (Tame.yes (by kernel_rfl) fun w hS => ?_) ?_
          rotate_left 1
          · skip
            go_simp
            try simp only [b2]
            refine gives_mk ?_ hS
            with_reducible rfl
          refine all_take (i := 15) (v := ?_) rfl (by kernel_rfl) (by kernel_rfl) (by kernel_rfl) (fun _ _ _ h => h) (Tame.yes (by kernel_rfl) fun w hS => ?_) ?_
          rotate_left 1
          · skip
            go_simp
            try simp only [b2]
            refine gives_mk ?_ hS
            with_reducible rfl
          refine all_take (i := 16) rfl (by kernel_rfl) (by kernel_rfl) (by kernel_rfl) (fun _ _ _ h => h) (Tame.no (by kernel_rfl)) ?_
          refine all_take (i := 17) rfl (by kernel_rfl) (by kernel_rfl) (by kernel_rfl) (fun _ _ _ h => h) (Tame.no (by kernel_rfl)) ?_
          refine all_take (i := 18) rfl (by kernel_rfl) (by kernel_rfl) (by kernel_rfl) (fun _ _ _ h => h) (Tame.no (by kernel_rfl)) ?_
          refine all_take (i := 19) rfl (by kernel_rfl) (by kernel_rfl) (by kernel_rfl) (fun _ _ _ h => h) (Tame.no (by kernel_rfl)) ?_
          refine all_take (i := 20) rfl (by kernel_rfl) (by kernel_rfl) (by kernel_rfl) (fun _ _ _ h => h) (Tame.no (by kernel_rfl)) ?_
          refine all_take (i := 21) rfl (by kernel_rfl) (by kernel_rfl) (by kernel_rfl) (fun _ _ _ h => h) (Tame.no (by kernel_rfl)) ?_
          refine all_take (i := 22) rfl (by kernel_rfl) (by kernel_rfl) (by kernel_rfl) (fun _ _ _ h => h) (Tame.no (by kernel_rfl)) ?_
          refine all_take (i := 23) rfl (by kernel_rfl) (by kernel_rfl) (by kernel_rfl) (fun _ _ _ h => h) (Tame.no (by kernel_rfl)) ?_
          refine all_take (i := 24) rfl (by kernel_rfl) (by kernel_rfl) (by kernel_rfl) (fun _ _ _ h => h) (Tame.no (by kernel_rfl)) ?_
          refine all_take (i := 25) rfl (by kernel_rfl) (by kernel_rfl) (by kernel_rfl) (fun _ _ _ h => h) (Tame.no (by kernel_rfl)) ?_
          refine all_take (i := 26) rfl (by kernel_rfl) (by kernel_rfl) (by kernel_rfl) (fun _ _ _ h => h) (Tame.no (by kernel_rfl)) ?_
          refine all_take (i := 27) rfl (by kernel_rfl) (by kernel_rfl) (by kernel_rfl) (fun _ _ _ h => h) (Tame.no (by kernel_rfl)) ?_
          refine all_take (i := 28) rfl (by kernel_rfl) (by kernel_rfl) (by kernel_rfl) (fun _ _ _ h => h) (Tame.no (by kernel_rfl)) ?_
          refine all_take (i := 29) rfl (by kernel_rfl) (by kernel_rfl) (by kernel_rfl) (fun _ _ _ h => h) (Tame.no (by kernel_rfl)) ?_
          refine all_take (i := 30) rfl (by kernel_rfl) (by kernel_rfl) (by kernel_rfl) (fun _ _ _ h => h) (Tame.no (by kernel_rfl)) ?_
          refine all_take (i := 31) (v := ?_) rfl (by kernel_rfl) (by kernel_rfl) (by kernel_rfl) (fun _ _ _ h => h) (Tame.yes (by kernel_rfl) fun w hS => ?_) ?_
          rotate_left 1
          · skip
            go_simp
            try simp only [b2]
            refine gives_mk ?_ hS
            with_reducible rfl
          clear b2
          refine all_done (by kernel_rfl) ?_ _
          intro w2 hx2
          have HX2 := Lib.hid (HX.out.trans hx2)
          clear hx2 K0 K1
          go_simp
          go_wp2
          go_ret
          exact ⟨by rw [HE.out]; rfl, HX2.out⟩
      · have HE : Hid (decide (Sl.May xs) = false) := Lib.hid (HNO.out fun hm => h01 ⟨((HNX.out.1 hm).2.1).1, ((HNX.out.1 hm).2.1).2.1⟩)
        have HFI : Hid (decide (0 ≤ p0 ∧ p0 < 4611686018427387904) = false) := Lib.hid (decide_eq_false h01)
        clear HP HNX HNO h01
        go_wp2
        refine region_all (fun v => Ext wr v) (by kernel_rfl) (Ext.refl _).drew ?_
        have K0 : ∀ v, Ext wr v → v.cell? ⟨b, o + k * 2, none⟩ = some (.int .i64 p0) := fun v hv => by rw [Below.cell (HX.out.trans hv) HB.out]; exact HC.out.1
        have K1 : ∀ v, Ext wr v → v.cell? ⟨b, o + k * 2 + 1, none⟩ = some (.int .i64 p1) := fun v hv => by rw [Below.cell (HX.out.trans hv) HB.out]; exact HC.out.2
        refine all_take (i := 0) (v := ?_) rfl (by kernel_rfl) (by kernel_rfl) (by kernel_rfl) (fun _ _ _ h => h) (Tame.yes (by kernel_rfl) fun w hS => ?_) ?_
        rotate_left 1
        · skip
          go_simp
          refine gives_mk ?_ hS
          with_reducible rfl
        refine all_take (i := 1) (v := ?_) rfl (by kernel_rfl) (by kernel_rfl) (by kernel_rfl) (fun _ _ _ h => h) (Tame.yes (by kernel_rfl) fun w hS => ?_) ?_
        rotate_left 1
        · skip
          go_simp
          refine gives_mk ?_ hS
          with_reducible rfl
        refine all_take (i := 2) (v := ?_) rfl (by kernel_rfl) (by kernel_rfl) (by kernel_rfl) (fun _ _ _ h => h) (Tame.yes (by kernel_rfl) fun w hS => ?_) ?_
        rotate_left 1
        · skip
          go_simp
          refine gives_mk ?_ hS
          with_reducible rfl
        refine all_take (i := 3) (v := ?_) rfl (by kernel_rfl) (by kernel_rfl) (by kernel_rfl) (fun _ _ _ h => h) (Tame.yes (by kernel_rfl) fun w hS => ?_) ?_
        rotate_left 1
        · skip
          go_simp
          refine gives_mk ?_ hS
          with_reducible rfl
        refine all_take (i := 4) (v := ?_) rfl (by kernel_rfl) (by kernel_rfl) (by kernel_rfl) (fun _ _ _ h => h) (Tame.yes (by kernel_rfl) fun w hS => ?_) ?_
        rotate_left 1
        · skip
          go_simp
          refine gives_mk ?_ hS
          with_reducible rfl
        refine all_take (i := 5) (v := .bool false) rfl (by kernel_rfl) (by kernel_rfl) (by kernel_rfl) (fun _ _ _ h => h) (Tame.yes (by kernel_rfl) fun w hS => ?_) ?_
        · go_simp
          refine gives_call ((sfits_eq p0 false HFI.out _).mono ?_)
          exact fun r w2 ⟨he, hx⟩ => ⟨he, hx ▸ hS⟩
        refine all_take (i := 6) (v := ?_) rfl (by kernel_rfl) (by kernel_rfl) (by kernel_rfl) (fun _ _ _ h => h) (Tame.yes (by kernel_rfl) fun w hS => ?_) ?_
        rotate_left 1
        · skip
          go_simp
          refine gives_mk ?_ hS
          with_reducible rfl
        refine all_take (i := 7) (v := ?_) rfl (by kernel_rfl) (by kernel_rfl) (by kernel_rfl) (fun _ _ _ h => h) (Tame.yes (by kernel_rfl) fun w hS => ?_) ?_
        rotate_left 1
        · skip
          go_simp
          refine gives_mk ?_ hS
          with_reducible rfl
        refine all_take (i := 8) rfl (by kernel_rfl) (by kernel_rfl) (by kernel_rfl) (fun _ _ _ h => h) (Tame.no (by kernel_rfl)) ?_
        refine all_take (i := 9) rfl (by kernel_rfl) (by kernel_rfl) (by kernel_rfl) (fun _ _ _ h => h) (Tame.no (by kernel_rfl)) ?_
        refine all_take (i := 10) rfl (by kernel_rfl) (by kernel_rfl) (by kernel_rfl) (fun _ _ _ h => h) (Tame.no (by kernel_rfl)) ?_
        refine all_take (i := 11) rfl (by kernel_rfl) (by kernel_rfl) (by kernel_rfl) (fun _ _ _ h => h) (Tame.no (by kernel_rfl)) ?_
        refine all_take (i := 12) rfl (by kernel_rfl) (by kernel_rfl) (by kernel_rfl) (fun _ _ _ h => h) (Tame.no (by kernel_rfl)) ?_
        refine all_take (i := 13) rfl (by kernel_rfl) (by kernel_rfl) (by kernel_rfl) (fun _ _ _ h => h) (Tame.no (by kernel_rfl)) ?_
        refine all_take (i := 14) (v := ?_) rfl (by kernel_rfl) (by kernel_rfl) (by kernel_rfl) (fun _ _ _ h => h) (Tame.yes (by kernel_rfl) fun w hS => ?_) ?_
        rotate_left 1
        · skip
          go_simp
          refine gives_mk ?_ hS
          with_reducible rfl
        refine all_take (i := 15) (v := ?_) rfl (by kernel_rfl) (by kernel_rfl) (by kernel_rfl) (fun _ _ _ h => h) (Tame.yes (by kernel_rfl) fun w hS => ?_) ?_
        rotate_left 1
        · skip
          go_simp
          refine gives_mk ?_ hS
          with_reducible rfl
        refine all_take (i := 16) rfl (by kernel_rfl) (by kernel_rfl) (by kernel_rfl) (fun _ _ _ h => h) (Tame.no (by kernel_rfl)) ?_
        refine all_take (i := 17) rfl (by kernel_rfl) (by kernel_rfl) (by kernel_rfl) (fun _ _ _ h => h) (Tame.no (by kernel_rfl)) ?_
        refine all_take (i := 18) rfl (by kernel_rfl) (by kernel_rfl) (by kernel_rfl) (fun _ _ _ h => h) (Tame.no (by kernel_rfl)) ?_
        refine all_take (i := 19) rfl (by kernel_rfl) (by kernel_rfl) (by kernel_rfl) (fun _ _ _ h => h) (Tame.no (by kernel_rfl)) ?_
        refine all_take (i := 20) rfl (by kernel_rfl) (by kernel_rfl) (by kernel_rfl) (fun _ _ _ h => h) (Tame.no (by kernel_rfl)) ?_
        refine all_take (i := 21) rfl (by kernel_rfl) (by kernel_rfl) (by kernel_rfl) (fun _ _ _ h => h) (Tame.no (by kernel_rfl)) ?_
        refine all_take (i := 22) rfl (by kernel_rfl) (by kernel_rfl) (by kernel_rfl) (fun _ _ _ h => h) (Tame.no (by kernel_rfl)) ?_
        refine all_take (i := 23) rfl (by kernel_rfl) (by kernel_rfl) (by kernel_rfl) (fun _ _ _ h => h) (Tame.no (by kernel_rfl)) ?_
        refine all_take (i := 24) rfl (by kernel_rfl) (by kernel_rfl) (by kernel_rfl) (fun _ _ _ h => h) (Tame.no (by kernel_rfl)) ?_
        refine all_take (i := 25) rfl (by kernel_rfl) (by kernel_rfl) (by kernel_rfl) (fun _ _ _ h => h) (Tame.no (by kernel_rfl)) ?_
        refine all_take (i := 26) rfl (by kernel_rfl) (by kernel_rfl) (by kernel_rfl) (fun _ _ _ h => h) (Tame.no (by kernel_rfl)) ?_
        refine all_take (i := 27) rfl (by kernel_rfl) (by kernel_rfl) (by kernel_rfl) (fun _ _ _ h => h) (Tame.no (by kernel_rfl)) ?_
        refine all_take (i := 28) rfl (by kernel_rfl) (by kernel_rfl) (by kernel_rfl) (fun _ _ _ h => h) (Tame.no (by kernel_rfl)) ?_
        refine all_take (i := 29) rfl (by kernel_rfl) (by kernel_rfl) (by kernel_rfl) (fun _ _ _ h => h) (Tame.no (by kernel_rfl)) ?_
        refine all_take (i := 30) rfl (by kernel_rfl) (by kernel_rfl) (by kernel_rfl) (fun _ _ _ h => h) (Tame.no (by kernel_rfl)) ?_
        refine all_take (i := 31) (v := ?_) rfl (by kernel_rfl) (by kernel_rfl) (by kernel_rfl) (fun _ _ _ h => h) (Tame.yes (by kernel_rfl) fun w hS => ?_) ?_
        rotate_left 1
        · skip
          go_simp
          refine gives_mk ?_ hS
          with_reducible rfl
        refine all_done (by kernel_rfl) ?_ _
        intro w2 hx2
        have HX2 := Lib.hid (HX.out.trans hx2)
        clear hx2 K0 K1
        go_simp
        go_wp2
        go_ret
        exact ⟨by rw [HE.out]; rfl, HX2.out⟩
    · have HE : Hid (decide (Sl.May xs) = true) := Lib.hid (decide_eq_true (by have := HM.out; rwa [List.take_of_length_le (by omega)] at this))
      go_wp2
      go_ret
      exact ⟨by rw [HE.out]; rfl, HX.out⟩
end Go.Proofs.Ytogcfndhcphpaaa
