/-
  Several texts in one: Hzl, Hu, Tx, Ty, Tzg, Tzh, Tzi, Tzj, Gi, Tza, Tzb, Tzc, Tzd, Tze, Tz, Tzk, Mj, Mk.
-/
import Derived.Test.YtdcbaddndoilfaaE14
import Derived.Test.YtdcbaddndoilfaaE09
import Derived.Test.YtdcbaddndoilfaaE16
import Derived.Test.YtdcbaddndoilfaaE10
import Derived.Test.YtdcbaddndoilfaaE05
import Derived.Test.YtdcbaddndoilfaaE11
import Derived.Test.YtdcbaddndoilfaaE06
import Derived.Deep.MidRow
import Derived.Test.YtdcbaddndoilfaaE04
import Derived.Test.YtdcbaddndoilfaaE01
set_option linter.unusedVariables false
set_option linter.unusedSimpArgs false
namespace Go.Proofs.Ytdcbaddndoilfaa
open Go.RowKit
namespace OfBox
variable {w0 w w' : World} {X : Nat} {t : Int} {u1 u2 : Value} {ps : List (Int × Int)} {gs : List Gs4}
theorem timed (h : OfBox w0 w X t u1 u2 ps gs) (t' : Int) : w.cell? ⟨X, 0, none⟩ = some (.int .i64 t) ∧ w.frozen? ⟨X, 0, none⟩ = false ∧ OfBox w0 (w.setCell ⟨X, 0, none⟩ (.int .i64 t')) X t' u1 u2 ps gs := by
  have hu : Upd X w (w.setCell ⟨X, 0, none⟩ (.int .i64 t')) := (Upd.refl _ _).set 0 _
  refine ⟨blk_cell h.box 0 _ rfl, frozen_of_row _ _ 0 _ _ h.box, ?_, h.ps.upd hu (by omega), h.gs.upd hu (by omega), h.nn, Ext.upd h.ext hu h.lo, h.lo⟩
  have := blk_set h.box 0 (.int .i64 t')
  simpa using this
end OfBox
theorem cell_off {w1 v : World} {X i : Nat} {u : Value} {a : Addr} (hx : Ext w1 (v.setCell ⟨X, i, none⟩ u)) (ha : a.block < w1.heap.size) (hX : w1.heap.size ≤ X) : v.cell? a = w1.cell? a := by
  rw [← Below.cell hx ha]
  exact (World.cell?_of_block (Below.heap_setCell v ⟨X, i, none⟩ u a.block (by simp only; omega))).symm
set_option maxRecDepth 100000 in
set_option maxHeartbeats 16000000 in
theorem rOf_any (h : StH) (s : St) (w : World) (hk : StOk w h s) (hf : StFew s) (o : Sn) (ho : Md.of s = o) : Calls Try.prog 17 #[stV h s] w (SnRet w o) := by
  subst ho
  have HF := Lib.hid hf
  have f1 := hf.gs
  have f2 := hf.ps
  have HK := Lib.hid hk
  obtain ⟨w1, hw1, hx1, hb1, hz1⟩ := of_two w #[.slice h.pa s.prog.length h.pc, .slice h.ga s.gs.length h.gc, .slice h.qa s.ps.length h.qc, .slice h.ma s.ms.length h.mc, .slice h.la s.glob.length h.lc, .int .i64 s.c0, .int .i64 s.c1, .int .i64 s.c2, .int .i64 s.c3, .slice h.a0 s.w0.length h.k0, .slice h.a1 s.w1.length h.k1, .slice h.a2 s.w2.length h.k2, .slice h.a3 s.w3.length h.k3, .slice h.ta s.timers.length h.tc, .int .i64 s.clock, .int .i64 s.procs] 47 #[.int .i64 0, .slice none 0 0, .slice none 0 0] 25
  have HW1 := Lib.hid hw1
  have HX1 := Lib.hid hx1
  have HB1 : Hid (w1.heap[w.heap.size]? = some (.cells (stC h s) 47 (0, 0))) := Lib.hid hb1
  have HZ1 := Lib.hid hz1
  have HK1 := Lib.hid (hk.ext hx1)
  clear hw1 hx1 hb1 hz1 hk hf
  obtain ⟨wz, hwz, hth, wa, hwa, hof⟩ := of_start (Ext.refl w1) 0
  obtain ⟨X, hX⟩ : ∃ X, w1.heap.size = X := ⟨_, rfl⟩
  rw [hX] at hth hwa hof
  have HWZ := Lib.hid hwz
  have HTH := Lib.hid hth
  have HWA := Lib.hid hwa
  have HOF := Lib.hid hof
  have HXX := Lib.hid hX
  clear hwz hth hwa hof hX
  unfold stV
  go_enter Try.func17, Try.ntmps17
  go_upto_region 1 with fail
  rw [HW1.out]
  generalize Value.agg #[.slice h.pa s.prog.length h.pc, .slice h.ga s.gs.length h.gc, .slice h.qa s.ps.length h.qc, .slice h.ma s.ms.length h.mc, .slice h.la s.glob.length h.lc, .int .i64 s.c0, .int .i64 s.c1, .int .i64 s.c2, .int .i64 s.c3, .slice h.a0 s.w0.length h.k0, .slice h.a1 s.w1.length h.k1, .slice h.a2 s.w2.length h.k2, .slice h.a3 s.w3.length h.k3, .slice h.ta s.timers.length h.tc, .int .i64 s.clock, .int .i64 s.procs] = sv0
  go_upto_region 2 with (first | rw [HWZ.out, HXX.out] | (refine wpList_store_rowN rfl 25 _ _ rfl X 0 [.int .i64 0, .slice none 0 0, .slice none 0 0] (.agg ([.int .i64 0, .slice none 0 0, .slice none 0 0]).toArray) (by go_simp) (by go_simp) rfl HTH.out (by kernel_rfl) (sn3_one _ _ _ rfl rfl) HWA.out ?_))
  have HLD := Lib.hid (HOF.out.ext.blk HB1.out)
  go_wp2_with (refine wpList_load_rowW rfl 47 _ rfl w.heap.size rfl (stL h s) (stV h s) rfl _ (range_row HLD.out) Try.underlying47 rfl (by kernel_rfl) ?_)
  refine (rstmay_any h s _ rfl _ (HK1.out.ext HOF.out.ext) HF.out).mono ?_
  rintro e w2 ⟨rfl, hx2⟩
  have HO2 := Lib.hid (HOF.out.more hx2)
  clear hx2 HLD
  obtain ⟨my, hmy⟩ : ∃ my, s.may = my := ⟨_, rfl⟩
  have HMY := Lib.hid hmy
  rw [hmy]
  clear hmy
  cases my with
  | false =>
    have hlay := sn_lay (y := Md.zero) (A := none) (B := none) (c := 0) (d := 0) (time := 0) (HX1.out.trans HO2.out.ext) (show w.heap.size ≤ w.heap.size + 1 by omega) (HO2.out.ext.blk HZ1.out) (snZ_at _)
    simp only [Md.zero, List.length_nil] at hlay
    obtain ⟨hth6, w6, hw6, hb6, hret⟩ := hlay
    have HTH6 := Lib.hid hth6
    have HW6 := Lib.hid hw6
    have HB6 := Lib.hid hb6
    have HRET := Lib.hid hret
    have HRX := Lib.hid (range_row (cs := [.int .i64 0, .slice none 0 0, .slice none 0 0]) HO2.out.box)
    clear hth6 hw6 hb6 hret
    have HN : Hid (Md.of s = Md.zero) := Lib.hid (by unfold Md.of; rw [HMY.out]; rfl)
    go_wp2_with (first | (refine wpList_load_rowW (by rfl) 25 _ rfl X (by go_simp) [.int .i64 0, .slice none 0 0, .slice none 0 0] (.agg ([.int .i64 0, .slice none 0 0, .slice none 0 0]).toArray) rfl _ HRX.out Try.underlying25 rfl (by kernel_rfl) ?_) | (refine wpList_store_rowN rfl 25 _ _ rfl (w.heap.size + 1) 0 [.int .i64 0, .slice none 0 0, .slice none 0 0] (.agg ([.int .i64 0, .slice none 0 0, .slice none 0 0]).toArray) (by go_simp) (by go_simp) rfl HTH6.out (by kernel_rfl) (sn3_one _ _ _ rfl rfl) HW6.out ?_))
    refine bodyPost_ret (v := .agg ([.int .i64 0, .slice none 0 0, .slice none 0 0]).toArray) (results_cell_row rfl _ _ (w.heap.size + 1) _ _ _ _ rfl HB6.out Try.underlying25 rfl (by kernel_rfl)) rfl ?_
    rw [HN.out]
    exact HRET.out
  | true =>
  have HN : Hid (Md.of s = ⟨s.clock, Md.psOf s.ps, Md.gsOf s.gs 1⟩) := Lib.hid (by unfold Md.of; rw [HMY.out]; rfl)
  have q14 := st14 (HO2.out.ext.blk HB1.out)
  obtain ⟨x0, f0, hof3⟩ := HO2.out.timed s.clock
  have HO3 := Lib.hid hof3
  clear hof3
  go_upto_region 5 with fail
  clear q14 x0 f0
  go_wp2_with fail
  go_loopw [4] (fun iv wr => ∃ (k : Nat) (u1 : Value), k ≤ s.ps.length ∧ iv = .int .i64 k ∧ OfBox w1 wr X s.clock u1 (.slice none 0 0) (Md.psOf (s.ps.take k)) []) (fun iv _ => s.ps.length - (intOf iv).toNat)
  case atStart => exact ⟨0, _, by omega, rfl, HO3.out⟩
  case round =>
    obtain ⟨k, u1, hk, rfl, hof⟩ := hrel
    have HO := Lib.hid hof
    clear hof
    have q2 := st2 (HO.out.ext.blk HB1.out)
    by_cases hlt : k < s.ps.length
    · obtain ⟨p, hp⟩ : ∃ p, s.ps[k]? = some p := ⟨_, List.getElem?_eq_getElem hlt⟩
      have HTK := Lib.hid (Md.psOf_take hp)
      obtain ⟨m, nx, r, sq⟩ := p
      obtain ⟨b0, b1, b2, b3, b4, b5, b6, b7, hd, nn, rfl⟩ := Ri.open8 (HK.out.buf _ (List.mem_of_getElem? hp))
      obtain ⟨b, o, hA, hb, hc⟩ := ps_get HK1.out.ps hp
      rw [hA] at q2
      have hkl : (k : Int) < (s.ps.length : Int) := by omega
      have HCX : Hid (∀ v, Ext wr v → v.cell? ⟨X, 1, none⟩ = some u1 ∧ v.cell? ⟨w.heap.size, 2, none⟩ = some (.slice (some ⟨b, o, none⟩) s.ps.length h.qc) ∧ v.cell? ⟨b, o + k * 13, none⟩ = some (.int .i64 m) ∧ v.cell? ⟨b, o + k * 13 + 12, none⟩ = some (.int .i64 sq)) := Lib.hid fun v hv =>
        ⟨blk_cell (hv.blk HO.out.box) 1 _ rfl, by rw [← hA]; exact st2 (hv.blk (HO.out.ext.blk HB1.out)), (Below.cell (p := ⟨b, o + k * 13, none⟩) (HO.out.ext.trans hv) hb).trans hc.1.1, (Below.cell (p := ⟨b, o + k * 13 + 12, none⟩) (HO.out.ext.trans hv) hb).trans hc.2.2.2.2.2.2⟩
      have HCY : Hid (∀ (u : Value) (v : World), v.cell? ⟨X, 1, none⟩ = some u1 → Ext w1 (v.setCell ⟨X, 1, none⟩ u) → v.cell? ⟨X, 1, none⟩ = some u1 ∧ v.cell? ⟨w.heap.size, 2, none⟩ = some (.slice (some ⟨b, o, none⟩) s.ps.length h.qc) ∧ v.cell? ⟨b, o + k * 13, none⟩ = some (.int .i64 m) ∧ v.cell? ⟨b, o + k * 13 + 12, none⟩ = some (.int .i64 sq)) := Lib.hid fun u v h1 hv =>
        ⟨h1, by rw [← hA, cell_off hv (blk_lt HB1.out) HO.out.lo]; exact st2 HB1.out, (cell_off hv hb HO.out.lo).trans hc.1.1, (cell_off hv hb HO.out.lo).trans hc.2.2.2.2.2.2⟩
      have HLP : Hid ((Md.psOf (s.ps.take k)).length ≤ 1000000) := Lib.hid (by unfold Md.psOf; rw [List.length_map, List.length_take]; omega)
      clear hp hb hc hA
      go_wp2_with fail
      clear q2
      refine region_gq 18 (fun v => v.cell? ⟨X, 1, none⟩ = some u1 ∧ v.cell? ⟨w.heap.size, 2, none⟩ = some (.slice (some ⟨b, o, none⟩) s.ps.length h.qc) ∧ v.cell? ⟨b, o + k * 13, none⟩ = some (.int .i64 m) ∧ v.cell? ⟨b, o + k * 13 + 12, none⟩ = some (.int .i64 sq)) (fun v => Ext wr v) (by kernel_rfl) (Ext.refl wr).drew (fun _ _ d _ _ h => by cases d <;> exact h) ?_
      intro Q9 HQE HQP
      have HG : ∀ (l : Array Bool) v, Ext wr v → l.getD 18 false = false → v.cell? ⟨X, 1, none⟩ = some u1 ∧ v.cell? ⟨w.heap.size, 2, none⟩ = some (.slice (some ⟨b, o, none⟩) s.ps.length h.qc) ∧ v.cell? ⟨b, o + k * 13, none⟩ = some (.int .i64 m) ∧ v.cell? ⟨b, o + k * 13 + 12, none⟩ = some (.int .i64 sq) := fun _ v hx _ => HCX.out v hx
      refine g_take (HG _) (i := 0) (v := ?_) rfl (by kernel_rfl) (by kernel_rfl) (by kernel_rfl) (by kernel_rfl) (by kernel_rfl) (fun c a w h => HQP c a _ _ w h) (Still.yes (by kernel_rfl) fun w hS => ?_) ?_
      rotate_left 1
      · skip
        go_simp
        refine gives_mk ?_ rfl
        with_reducible rfl
      refine g_take (HG _) (i := 1) (v := ?_) rfl (by kernel_rfl) (by kernel_rfl) (by kernel_rfl) (by kernel_rfl) (by kernel_rfl) (fun c a w h => HQP c a _ _ w h) (Still.yes (by kernel_rfl) fun w hS => ?_) ?_
      rotate_left 1
      · skip
        go_simp
        refine gives_mk ?_ rfl
        with_reducible rfl
      refine g_take (HG _) (i := 2) (v := ?_) rfl (by kernel_rfl) (by kernel_rfl) (by kernel_rfl) (by kernel_rfl) (by kernel_rfl) (fun c a w h => HQP c a _ _ w h) (Still.yes (by kernel_rfl) fun w hS => ?_) ?_
      rotate_left 1
      · skip
        go_simp
        refine gives_mk ?_ rfl
        with_reducible rfl
      refine g_take (HG _) (i := 3) (v := ?_) rfl (by kernel_rfl) (by kernel_rfl) (by kernel_rfl) (by kernel_rfl) (by kernel_rfl) (fun c a w h => HQP c a _ _ w h) (Still.yes (by kernel_rfl) fun w hS => ?_) ?_
      rotate_left 1
      · skip
        go_simp
        refine gives_mk ?_ rfl
        with_reducible rfl
      refine g_take (HG _) (i := 4) (v := ?_) rfl (by kernel_rfl) (by kernel_rfl) (by kernel_rfl) (by kernel_rfl) (by kernel_rfl) (fun c a w h => HQP c a _ _ w h) (Still.yes (by kernel_rfl) fun w hS => ?_) ?_
      rotate_left 1
      · skip
        go_simp
        refine gives_mk ?_ rfl
        with_reducible rfl
      refine g_take (HG _) (i := 5) (v := ?_) rfl (by kernel_rfl) (by kernel_rfl) (by kernel_rfl) (by kernel_rfl) (by kernel_rfl) (fun c a w h => HQP c a _ _ w h) (Still.yes (by kernel_rfl) fun w hS => ?_) ?_
      rotate_left 1
      · skip
        go_simp
        refine gives_mk ?_ rfl
        with_reducible rfl
      refine g_take (HG _) (i := 6) (v := ?_) rfl (by kernel_rfl) (by kernel_rfl) (by kernel_rfl) (by kernel_rfl) (by kernel_rfl) (fun c a w h => HQP c a _ _ w h) (Still.yes (by kernel_rfl) fun w hS => ?_) ?_
      rotate_left 1
      · skip
        go_simp
        refine gives_mk ?_ rfl
        with_reducible rfl
      refine g_take (HG _) (i := 7) (v := ?_) rfl (by kernel_rfl) (by kernel_rfl) (by kernel_rfl) (by kernel_rfl) (by kernel_rfl) (fun c a w h => HQP c a _ _ w h) (Still.yes (by kernel_rfl) fun w hS => ?_) ?_
      rotate_left 1
      · skip
        go_simp
        refine gives_mk ?_ rfl
        with_reducible rfl
      refine g_take (HG _) (i := 8) (v := ?_) rfl (by kernel_rfl) (by kernel_rfl) (by kernel_rfl) (by kernel_rfl) (by kernel_rfl) (fun c a w h => HQP c a _ _ w h) (Still.yes (by kernel_rfl) fun w hS => ?_) ?_
      rotate_left 1
      · skip
        go_simp
        refine gives_mk ?_ rfl
        with_reducible rfl
      refine g_take (HG _) (i := 9) (v := ?_) rfl (by kernel_rfl) (by kernel_rfl) (by kernel_rfl) (by kernel_rfl) (by kernel_rfl) (fun c a w h => HQP c a _ _ w h) (Still.yes (by kernel_rfl) fun w hS => ?_) ?_
      rotate_left 1
      · skip
        go_simp
        refine gives_mk ?_ rfl
        with_reducible rfl
      refine g_take (HG _) (i := 10) (v := ?_) rfl (by kernel_rfl) (by kernel_rfl) (by kernel_rfl) (by kernel_rfl) (by kernel_rfl) (fun c a w h => HQP c a _ _ w h) (Still.yes (by kernel_rfl) fun w hS => ?_) ?_
      rotate_left 1
      · skip
        go_simp
        refine gives_mk ?_ rfl
        with_reducible rfl
      refine g_take (HG _) (i := 11) (v := ?_) rfl (by kernel_rfl) (by kernel_rfl) (by kernel_rfl) (by kernel_rfl) (by kernel_rfl) (fun c a w h => HQP c a _ _ w h) (Still.yes (by kernel_rfl) fun w hS => ?_) ?_
      rotate_left 1
      · skip
        go_simp
        refine gives_mk ?_ rfl
        with_reducible rfl
      refine g_take (HG _) (i := 12) (v := ?_) rfl (by kernel_rfl) (by kernel_rfl) (by kernel_rfl) (by kernel_rfl) (by kernel_rfl) (fun c a w h => HQP c a _ _ w h) (Still.yes (by kernel_rfl) fun w hS => ?_) ?_
      rotate_left 1
      · skip
        go_simp
        refine gives_mk ?_ rfl
        with_reducible rfl
      refine g_take (HG _) (i := 13) (v := ?_) rfl (by kernel_rfl) (by kernel_rfl) (by kernel_rfl) (by kernel_rfl) (by kernel_rfl) (fun c a w h => HQP c a _ _ w h) (Still.yes (by kernel_rfl) fun w hS => ?_) ?_
      rotate_left 1
      · skip
        go_simp
        refine gives_mk ?_ rfl
        with_reducible rfl
      refine g_take (HG _) (i := 14) (v := ?_) rfl (by kernel_rfl) (by kernel_rfl) (by kernel_rfl) (by kernel_rfl) (by kernel_rfl) (fun c a w h => HQP c a _ _ w h) (Still.yes (by kernel_rfl) fun w hS => ?_) ?_
      rotate_left 1
      · skip
        go_simp
        refine gives_mk ?_ rfl
        with_reducible rfl
      refine g_mid (fun u v => ∃ w5, u = .slice (some ⟨w5.heap.size, 0, none⟩) 1 1 ∧ v = w5.alloc (.cells (snPCells (m, sq)).toArray 66) ∧ Ext wr w5) (k := 15) (by kernel_rfl) (fun _ v hh _ => by obtain ⟨w5, _, rfl, hx⟩ := hh; exact HCX.out _ (hx.alloc _)) rfl (by kernel_rfl) (fun v hS R hR => ?_) (fun u hu => ?_)
      · have HR := Lib.hid hR
        clear hR
        go_simp
        refine givesM_val (HR.out _ _ ⟨v, rfl, rfl, hS⟩)
      obtain ⟨_, w5, rfl, -, -⟩ := hu
      generalize w5.heap.size = V
      clear w5
      refine g_mid (fun u v => (∃ A c, u = Value.slice A ((Md.psOf (s.ps.take k)).length + 1) c) ∧ v.cell? ⟨X, 1, none⟩ = some u1 ∧ v.frozen? ⟨X, 1, none⟩ = false ∧ OfBox w1 (v.setCell ⟨X, 1, none⟩ u) X s.clock u (.slice none 0 0) (Md.psOf (s.ps.take k) ++ [(m, sq)]) []) (k := 16) (by kernel_rfl) (fun u v h _ => HCY.out u v h.2.1 h.2.2.2.ext) rfl (by kernel_rfl) (fun v hS R hR => ?_) (fun u hu => ?_)
      · have HR := Lib.hid hR
        clear hR
        obtain ⟨w5, hV, hv, hx⟩ := hS
        simp only [Value.slice.injEq, Option.some.injEq, Addr.mk.injEq, and_true] at hV
        subst hV hv
        obtain ⟨un, wn, hr1, qa1, fa1, hof1⟩ := (HO.out.more hx).pushP (m, sq) HLP.out
        obtain ⟨An, cn, hun, -⟩ := (OwnRows.rows snPCells_len hof1.ps).form
        subst hun
        rw [List.length_append, List.length_singleton] at hof1 hr1
        refine givesM_append _ _ 22 rfl _ _ (by go_simp) (by go_simp) hr1 ?_
        exact HR.out _ _ ⟨⟨_, _, rfl⟩, qa1, fa1, hof1⟩
      obtain ⟨_, ⟨A', c', rfl⟩, -, -, -⟩ := hu
      have HG : ∀ (l : Array Bool) (v : World), ((∃ A c, (Value.slice A' ((Md.psOf (s.ps.take k)).length + 1) c') = Value.slice A ((Md.psOf (s.ps.take k)).length + 1) c) ∧ v.cell? ⟨X, 1, none⟩ = some u1 ∧ v.frozen? ⟨X, 1, none⟩ = false ∧ OfBox w1 (v.setCell ⟨X, 1, none⟩ (Value.slice A' ((Md.psOf (s.ps.take k)).length + 1) c')) X s.clock (Value.slice A' ((Md.psOf (s.ps.take k)).length + 1) c') (.slice none 0 0) (Md.psOf (s.ps.take k) ++ [(m, sq)]) []) → l.getD 18 false = false → v.cell? ⟨X, 1, none⟩ = some u1 ∧ v.cell? ⟨w.heap.size, 2, none⟩ = some (.slice (some ⟨b, o, none⟩) s.ps.length h.qc) ∧ v.cell? ⟨b, o + k * 13, none⟩ = some (.int .i64 m) ∧ v.cell? ⟨b, o + k * 13 + 12, none⟩ = some (.int .i64 sq) := fun _ v h _ => HCY.out _ v h.2.1 h.2.2.2.ext
      refine g_take (HG _) (i := 17) (v := ?_) rfl (by kernel_rfl) (by kernel_rfl) (by kernel_rfl) (by kernel_rfl) (by kernel_rfl) (fun c a w h => HQP c a _ _ w h) (Still.yes (by kernel_rfl) fun w hS => ?_) ?_
      rotate_left 1
      · skip
        go_simp
        refine gives_mk ?_ rfl
        with_reducible rfl
      refine g_end (k := 18) (by kernel_rfl) (by kernel_rfl) (by kernel_rfl) rfl (by kernel_rfl) (fun w9 hS R hR => ?_)
      have HR := Lib.hid hR
      clear hR
      obtain ⟨-, qa1, fa1, hof1⟩ := hS
      have HO1 := Lib.hid hof1
      clear hof1
      have hq9 := HQE.out
      subst hq9
      clear HQE HQP HG
      go_simp
      refine givesM_skipy (HR.out _ _ ?_)
      clear qa1 fa1
      go_simp
      go_wp2
      go_roundw
      case rel => exact ⟨k + 1, _, by omega, by go_num, by rw [HTK.out]; exact HO1.out⟩
      case measure => simp [intOf]; omega
    · obtain rfl : k = s.ps.length := by omega
      have HO2 : Hid (OfBox w1 wr X s.clock u1 (.slice none 0 0) (Md.psOf s.ps) []) := Lib.hid (by have := HO.out; rwa [List.take_length] at this)
      clear HO hk hlt
      go_wp2_with fail
      clear q2
      go_loopw [5] (fun iv wr => ∃ (k : Nat) (u2 : Value), k ≤ s.gs.length ∧ iv = .int .i64 k ∧ OfBox w1 wr X s.clock u1 u2 (Md.psOf s.ps) (Md.gsOf (s.gs.take k) 1)) (fun iv _ => s.gs.length - (intOf iv).toNat)
      case atStart => exact ⟨0, _, by omega, rfl, HO2.out⟩
      case round =>
        obtain ⟨k, u2, hk, rfl, hof⟩ := hrel
        have HO := Lib.hid hof
        clear hof
        have q1 := st1 (HO.out.ext.blk HB1.out)
        by_cases hlt : k < s.gs.length
        · obtain ⟨g, hg⟩ : ∃ g, s.gs[k]? = some g := ⟨_, List.getElem?_eq_getElem hlt⟩
          have HTK := Lib.hid (Md.gsOf_take hg)
          obtain ⟨b, o, hA, hb, hc⟩ := (HK1.out.ext HO.out.ext).gs.get hg
          rw [hA] at q1
          have k0 := hc 0 _ rfl
          have k1 := hc 1 _ rfl
          have k2 := hc 2 _ rfl
          have k3 := hc 3 _ rfl
          have k4 := hc 4 _ rfl
          rw [Nat.add_zero] at k0
          clear hg hb hc hA
          go_upto_region 13 with fail
          obtain ⟨w3, hw3⟩ : ∃ w3, wr.alloc (.cells #[.int .i64 g.func, .int .i64 g.pc, .int .i64 g.st, .int .i64 g.m, .int .i64 g.seq] 72) = w3 := ⟨_, rfl⟩
          have HX3 : Hid (Ext wr w3) := Lib.hid (by rw [← hw3]; exact (Ext.refl _).alloc _)
          have HQ3 : Hid (w3.heap[wr.heap.size]? = some (.cells #[.int .i64 g.func, .int .i64 g.pc, .int .i64 g.st, .int .i64 g.m, .int .i64 g.seq] 72 (0, 0))) := Lib.hid (by rw [← hw3]; exact blk_new wr _)
          rw [hw3]
          have HO3 := Lib.hid (HO.out.more HX3.out)
          clear hw3 k0 k1 k2 k3 k4 q1
          have z2 := blk_cell HQ3.out 2 _ rfl
          have z3 := blk_cell HQ3.out 3 _ rfl
          have z4 := blk_cell HQ3.out 4 _ rfl
          by_cases h5 : g.st = 5
          · have H5 := Lib.hid h5
            have e5 : (g.st != 5) = false := by simpa using h5
            clear h5
            go_wp2
            go_roundw
            case rel => exact ⟨k + 1, _, by omega, by go_num, by rw [HTK.out, if_pos H5.out, List.append_nil]; exact HO3.out⟩
            case measure => simp [intOf]; omega
          · have H5 := Lib.hid h5
            have e5 : (g.st != 5) = true := by simpa using h5
            clear h5
            have y2 := blk_cell HO3.out.box 2 _ rfl
            obtain ⟨un, wn, hr1, qa1, fa1, hof1⟩ := HO3.out.pushG ((k : Int) + 1, g.st, g.m, g.seq) (by have := Md.gsOf_len (s.gs.take k) 1; rw [List.length_take] at this; omega)
            obtain ⟨An, cn, hun, -⟩ := (OwnRows.rows snGCells_len hof1.gs).form
            subst hun
            have HR1 := Lib.hid hr1
            have HO1 := Lib.hid hof1
            clear hr1 hof1
            go_wp2_with (at_builtin; refine wpList_append_run rfl _ _ 23 rfl _ _ rfl rfl HR1.out ?_)
            go_roundw
            case rel => exact ⟨k + 1, _, by omega, by go_num, by rw [HTK.out, if_neg H5.out]; have hh := HO1.out; rw [List.length_append, List.length_singleton] at hh; exact hh⟩
            case measure => simp [intOf]; omega
        · obtain rfl : k = s.gs.length := by omega
          have HO3 : Hid (OfBox w1 wr X s.clock u1 u2 (Md.psOf s.ps) (Md.gsOf s.gs 1)) := Lib.hid (by have := HO.out; rwa [List.take_length] at this)
          clear HO hk hlt
          obtain ⟨A5, c5, hu1, -⟩ := (OwnRows.rows snPCells_len HO3.out.ps).form
          obtain ⟨A6, c6, hu2, -⟩ := (OwnRows.rows snGCells_len HO3.out.gs).form
          subst hu1 hu2
          have HRX := Lib.hid (range_row (cs := [.int .i64 s.clock, .slice A5 (Md.psOf s.ps).length c5, .slice A6 (Md.gsOf s.gs 1).length c6]) HO3.out.box)
          obtain ⟨hth6, w6, hw6, hb6, hret⟩ := sn_lay (y := ⟨s.clock, Md.psOf s.ps, Md.gsOf s.gs 1⟩) (HX1.out.trans HO3.out.ext) (show w.heap.size ≤ w.heap.size + 1 by omega) (HO3.out.ext.blk HZ1.out) HO3.out.snap
          have HTH6 := Lib.hid hth6
          have HW6 := Lib.hid hw6
          have HB6 := Lib.hid hb6
          have HRET := Lib.hid hret
          clear hth6 hw6 hb6 hret
          go_upto_region 15 with fail
          clear q1
          go_wp2_with (first | (refine wpList_load_rowW (by rfl) 25 _ rfl X (by go_simp) [.int .i64 s.clock, .slice A5 (Md.psOf s.ps).length c5, .slice A6 (Md.gsOf s.gs 1).length c6] (.agg ([.int .i64 s.clock, .slice A5 (Md.psOf s.ps).length c5, .slice A6 (Md.gsOf s.gs 1).length c6]).toArray) rfl _ HRX.out Try.underlying25 rfl (by kernel_rfl) ?_) | (refine wpList_store_rowN rfl 25 _ _ rfl (w.heap.size + 1) 0 [.int .i64 s.clock, .slice A5 (Md.psOf s.ps).length c5, .slice A6 (Md.gsOf s.gs 1).length c6] (.agg ([.int .i64 s.clock, .slice A5 (Md.psOf s.ps).length c5, .slice A6 (Md.gsOf s.gs 1).length c6]).toArray) (by go_simp) (by go_simp) rfl HTH6.out (by kernel_rfl) (sn3_one _ _ _ rfl rfl) HW6.out ?_))
          refine bodyPost_ret (v := .agg ([.int .i64 s.clock, .slice A5 (Md.psOf s.ps).length c5, .slice A6 (Md.gsOf s.gs 1).length c6]).toArray) (results_cell_row rfl _ _ (w.heap.size + 1) _ _ _ _ rfl HB6.out Try.underlying25 rfl (by kernel_rfl)) rfl ?_
          rw [HN.out]
          exact HRET.out
set_option maxRecDepth 100000 in
set_option maxHeartbeats 4000000 in
theorem mHas_any (v : Value) (x : Sn) (m : Int) (w : World) (hs : SnAt w v x) (hp : x.ps.length ≤ 1000) (hg : x.gs.length ≤ 1000) (ra rb : Int) (hr : Md.has x m = (ra, rb)) :
    Calls Try.prog 12 #[v, .int .i64 m] w fun e w' => e = .returned (.tuple #[.int .i64 ra, .int .i64 rb]) ∧ Ext w w' := by
  obtain ⟨A, c, B, d, rfl, h2, h3⟩ := hs
  obtain ⟨time, ps, gs⟩ := x
  simp only at h2 h3 hp hg ⊢
  obtain ⟨w1, hw1⟩ : ∃ w1, (w.alloc (.cells #[.int .i64 time, .slice A ps.length c, .slice B gs.length d] 25)) = w1 := ⟨_, rfl⟩
  have hx1 : Ext w w1 := by rw [← hw1]; exact (Ext.refl w).alloc _
  have hb1 : w1.heap[w.heap.size]? = some (.cells #[.int .i64 time, .slice A ps.length c, .slice B gs.length d] 25 (0, 0)) := by rw [← hw1]; exact blk_new w _
  obtain ⟨S0, hS0⟩ : ∃ S0, w.heap.size = S0 := ⟨_, rfl⟩
  rw [hS0] at hb1
  have HS0 := Lib.hid hS0
  have HW1 := Lib.hid hw1
  have HX1 := Lib.hid hx1
  have HB1 := Lib.hid hb1
  have H2 := Lib.hid (h2.ext hx1)
  have H3 := Lib.hid (h3.ext hx1)
  have hp' : (ps.length : Int) ≤ 10000 := by omega
  have hg' : (gs.length : Int) ≤ 10000 := by omega
  clear h2 h3 hx1 hb1 hw1 hS0
  try simp only at hr
  have HR := Lib.hid hr
  have HP : Hid (ps.length ≤ 10000) := Lib.hid (by omega)
  have HG : Hid (gs.length ≤ 10000) := Lib.hid (by omega)
  clear hr hp hg
  have c0 := blk_cell HB1.out 0 _ rfl
  have c1 := blk_cell HB1.out 1 _ rfl
  have c2 := blk_cell HB1.out 2 _ rfl
  go_enter Try.func12, Try.ntmps12
  go_upto_region 1 with fail
  rw [HW1.out, HS0.out]
  by_cases a1 : m < 1
  · have HRR : Hid (0 = ra ∧ 0 = rb) := Lib.hid (by have := HR.out; unfold Md.has at this; rw [if_neg (by omega)] at this; exact Prod.mk.inj this)
    obtain ⟨rfl, rfl⟩ := HRR.out
    go_wp2
    go_ret2
    exact ⟨rfl, HX1.out⟩
  have d1 : decide (m < 1) = false := decide_eq_false a1
  have A1 := Lib.hid a1
  clear a1
  go_wp2_with fail
  obtain ⟨rm, hrm⟩ : ∃ rm, Sn.may ⟨time, ps, gs⟩ = rm := ⟨_, rfl⟩
  refine (snmay_any _ ⟨time, ps, gs⟩ w1 ⟨A, c, B, d, rfl, H2.out, H3.out⟩ HP.out HG.out).mono ?_
  rintro e w2 ⟨rfl, hx2⟩
  rw [hrm]
  have X2 := Lib.hid hx2
  have HRM := Lib.hid hrm
  clear hx2 hrm c0 c1 c2
  have c0 := blk_cell (X2.out.blk HB1.out) 0 _ rfl
  have c1 := blk_cell (X2.out.blk HB1.out) 1 _ rfl
  have c2 := blk_cell (X2.out.blk HB1.out) 2 _ rfl
  cases rm with
  | false =>
    have HRR : Hid (0 = ra ∧ 0 = rb) := Lib.hid (by have := HR.out; unfold Md.has at this; rw [if_neg (by rintro ⟨h1, h2⟩; rw [HRM.out] at h2; cases h2)] at this; exact Prod.mk.inj this)
    obtain ⟨rfl, rfl⟩ := HRR.out
    go_wp2
    go_ret2
    exact ⟨rfl, HX1.out.trans X2.out⟩
  | true =>
    have HRR : Hid (Md.hasP ps m 1 = ra ∧ Md.hasG gs m = rb) := Lib.hid (by have := HR.out; unfold Md.has at this; rw [if_pos ⟨by have := A1.out; omega, HRM.out⟩] at this; exact Prod.mk.inj this)
    go_wp2_with fail
    refine (mhas_any _ ⟨time, ps, gs⟩ m w2 ⟨A, c, B, d, rfl, H2.out.ext X2.out, H3.out.ext X2.out⟩ HP.out HG.out ra rb HRR.out.1 HRR.out.2).mono ?_
    rintro e w3 ⟨rfl, hx3⟩
    have X3 := Lib.hid (HX1.out.trans (X2.out.trans hx3))
    clear hx3
    go_wp2
    go_ret2
    exact ⟨rfl, X3.out⟩
theorem stL_one (h : StH) (s : St) : ∀ u ∈ stL h s, u.oneCell' = true := by
  intro u hu
  simp only [stL, List.mem_cons, List.not_mem_nil, or_false] at hu
  rcases hu with rfl | rfl | rfl | rfl | rfl | rfl | rfl | rfl | rfl | rfl | rfl | rfl | rfl | rfl | rfl | rfl <;> rfl
def St.nil : St := ⟨[], [], [], [], [], 0, 0, 0, 0, [], [], [], [], [], 0, 0⟩
def StH.nil : StH := ⟨none, 0, none, 0, none, 0, none, 0, none, 0, none, 0, none, 0, none, 0, none, 0, none, 0⟩
theorem StOk.nil (w : World) : StOk w StH.nil St.nil :=
  ⟨⟨[], rfl, RowsAt.nil w, fun i u xs h => by simp at h⟩, RowsAt.nil w, RowsAt.nil w, RowsAt.nil w, (OwnInts.nil w 0).at.2, (OwnInts.nil w 0).at.2, (OwnInts.nil w 0).at.2, (OwnInts.nil w 0).at.2, (OwnInts.nil w 0).at.2, (RowsAt.nil w).pairs, fun p h => by simp [St.nil] at h⟩
def nilPr : Pr := ⟨0, 0, ⟨[0, 0, 0, 0, 0, 0, 0, 0], 0, 0⟩, 0⟩
def St.made (p : List (List (Int × Int))) (n : Int) : St := ⟨p, [⟨0, 0, 1, 0, 0⟩], List.replicate 8 nilPr, [], [1], 0, 0, 0, 0, [], [], [], [], [], 0, n⟩
def St.new (p : List (List (Int × Int))) (n : Int) : St × Int := if Pg.may p = true ∧ 1 ≤ n ∧ n ≤ 8 then (St.made p n, 0) else (St.nil, 1)
def StH.made (A : Option Addr) (c g q l : Nat) : StH := ⟨A, c, some ⟨g, 0, none⟩, 1, some ⟨q, 0, none⟩, 8, none, 0, some ⟨l, 0, none⟩, 1, none, 0, none, 0, none, 0, none, 0, none, 0⟩
theorem StOk.made {w : World} {A : Option Addr} {c g q l : Nat} {p : List (List (Int × Int))} {n : Int} (hp : NestAt 2 pairL w (.slice A p.length c) p) (hg : w.heap[g]? = some (.cells #[.int .i64 0, .int .i64 0, .int .i64 1, .int .i64 0, .int .i64 0] 72 (0, 0)))
    (hq : w.heap[q]? = some (.cells (madeCells #[.int .i64 0, .int .i64 0, .int .i64 0, .int .i64 0, .int .i64 0, .int .i64 0, .int .i64 0, .int .i64 0, .int .i64 0, .int .i64 0, .int .i64 0, .int .i64 0, .int .i64 0] 104) 77 (0, 0))) (hl : w.heap[l]? = some (.cells #[.int .i64 1] 3 (0, 0))) : StOk w (StH.made A c g q l) (St.made p n) := by
  refine ⟨hp, ⟨_, _, rfl, Nat.le_refl 1, fun _ => ⟨g, 0, rfl, blk_lt hg, fun j x hj i u hu => ?_⟩⟩, ⟨_, _, rfl, Nat.le_refl 8, fun _ => ⟨q, 0, rfl, blk_lt hq, fun j x hj i u hu => ?_⟩⟩, RowsAt.nil w, ⟨_, _, rfl, fun _ => ⟨l, 0, rfl, blk_lt hl, fun j x hj => ?_⟩⟩, (OwnInts.nil w 0).at.2, (OwnInts.nil w 0).at.2, (OwnInts.nil w 0).at.2, (OwnInts.nil w 0).at.2, (RowsAt.nil w).pairs, fun x hx => ?_⟩
  · match j with
    | 0 =>
      simp [St.made] at hj; subst hj
      refine blk_cell hg _ _ ?_
      simp only [Nat.zero_mul, Nat.zero_add]
      match i with
      | 0 | 1 | 2 | 3 | 4 => simp [gL] at hu; subst hu; rfl
      | i + 5 => simp [gL] at hu
    | j + 1 => simp [St.made] at hj
  · have hj8 : j < 8 := by have := (List.getElem?_eq_some_iff.1 hj).1; simpa [St.made] using this
    have hx : x = nilPr := by
      have : x ∈ List.replicate 8 nilPr := List.mem_of_getElem? hj
      exact List.eq_of_mem_replicate this
    subst hx
    have hi : i < 13 := by have := (List.getElem?_eq_some_iff.1 hu).1; simpa [pL] using this
    have hu0 : u = .int .i64 0 := by
      obtain rfl | rfl | rfl | rfl | rfl | rfl | rfl | rfl | rfl | rfl | rfl | rfl | rfl : i = 0 ∨ i = 1 ∨ i = 2 ∨ i = 3 ∨ i = 4 ∨ i = 5 ∨ i = 6 ∨ i = 7 ∨ i = 8 ∨ i = 9 ∨ i = 10 ∨ i = 11 ∨ i = 12 := by omega
      all_goals
        simp [pL, nilPr] at hu; exact hu.symm
    subst hu0
    refine blk_cell hq _ _ ?_
    have h1 : 0 + j * 13 + i < 104 := by omega
    simp only [madeCells, Array.getElem?_map, Array.getElem?_range, h1]
    have h2 : (0 + j * 13 + i) % 13 = i := by omega
    simp only [if_true, Option.map_some, Option.some.injEq]
    show (#[Value.int .i64 0, .int .i64 0, .int .i64 0, .int .i64 0, .int .i64 0, .int .i64 0, .int .i64 0, .int .i64 0, .int .i64 0, .int .i64 0, .int .i64 0, .int .i64 0, .int .i64 0])[(0 + j * 13 + i) % 13]! = _
    rw [h2]
    obtain rfl | rfl | rfl | rfl | rfl | rfl | rfl | rfl | rfl | rfl | rfl | rfl | rfl : i = 0 ∨ i = 1 ∨ i = 2 ∨ i = 3 ∨ i = 4 ∨ i = 5 ∨ i = 6 ∨ i = 7 ∨ i = 8 ∨ i = 9 ∨ i = 10 ∨ i = 11 ∨ i = 12 := by omega
    all_goals rfl
  · match j with
    | 0 => simp [St.made] at hj; subst hj; exact blk_cell hl _ _ rfl
    | j + 1 => simp [St.made] at hj
  · have : x = nilPr := List.eq_of_mem_replicate (show x ∈ List.replicate 8 nilPr from hx)
    subst this
    rfl
theorem make_ps (w : World) : (Instr.makeSlice 40 (.int .i64 8) (.int .i64 8)).run Try.prog w = .ok (.slice (some ⟨w.heap.size, 0, none⟩) 8 8) (w.alloc (.cells (madeCells #[.int .i64 0, .int .i64 0, .int .i64 0, .int .i64 0, .int .i64 0, .int .i64 0, .int .i64 0, .int .i64 0, .int .i64 0, .int .i64 0, .int .i64 0, .int .i64 0, .int .i64 0] 104) 77)) := by
  obtain ⟨i0, I0, I1, I2, I3⟩ := info_parts Try.infoP
  have := run_make (P := Try.prog) w 40 77 i0 (.agg #[.int .i64 0, .int .i64 0, .int .i64 0, .int .i64 0, .int .i64 0, .int .i64 0, .int .i64 0, .int .i64 0, .int .i64 0, .int .i64 0, .int .i64 0, .int .i64 0, .int .i64 0]) Try.underlying40 I0 I1 .i64 .i64 8 8 (by omega) (by omega) (by rw [I3]; decide) (by omega)
  rw [I2] at this
  exact this
theorem St.new_no {p : List (List (Int × Int))} {n : Int} (h : ¬ (Pg.may p = true ∧ 1 ≤ n ∧ n ≤ 8)) : St.new p n = (St.nil, 1) := if_neg h
theorem St.new_yes {p : List (List (Int × Int))} {n : Int} (h : Pg.may p = true ∧ 1 ≤ n ∧ n ≤ 8) : St.new p n = (St.made p n, 0) := if_pos h
set_option maxRecDepth 100000 in
set_option maxHeartbeats 8000000 in
theorem rNew_any (v : Value) (p : List (List (Int × Int))) (n : Int) (r : St × Int) (hr : St.new p n = r) (w : World) (h : NestAt 2 pairL w v p) (h1 : p.length ≤ 100000) (h2 : ∀ l ∈ p, l.length ≤ 100000) :
    Calls Try.prog 21 #[v, .int .i64 n] w fun e w' => ∃ h', e = .returned (.tuple #[stV h' r.1, .int .i64 r.2]) ∧ StOk w' h' r.1 ∧ Ext w w' := by
  subst hr
  have H := Lib.hid h
  obtain ⟨A, c, rfl⟩ := h.form2
  obtain ⟨w1, hw1⟩ : ∃ w1, w.alloc (.cells #[.slice none 0 0, .slice none 0 0, .slice none 0 0, .slice none 0 0, .slice none 0 0, .int .i64 0, .int .i64 0, .int .i64 0, .int .i64 0, .slice none 0 0, .slice none 0 0, .slice none 0 0, .slice none 0 0, .slice none 0 0, .int .i64 0, .int .i64 0] 47) = w1 := ⟨_, rfl⟩
  obtain ⟨R, hR⟩ : ∃ R, w.heap.size = R := ⟨_, rfl⟩
  have hx1 : Ext w w1 := by rw [← hw1]; exact (Ext.refl w).alloc _
  have HX1 := Lib.hid hx1
  have HR1 : Hid (w1.heap[R]? = some (.cells #[.slice none 0 0, .slice none 0 0, .slice none 0 0, .slice none 0 0, .slice none 0 0, .int .i64 0, .int .i64 0, .int .i64 0, .int .i64 0, .slice none 0 0, .slice none 0 0, .slice none 0 0, .slice none 0 0, .slice none 0 0, .int .i64 0, .int .i64 0] 47 (0, 0))) := Lib.hid (by rw [← hw1, ← hR]; exact blk_new w _)
  obtain ⟨bp, hbp⟩ : ∃ bp, Pg.may p = bp := ⟨_, rfl⟩
  have HBP := Lib.hid hbp
  have HPM := Lib.hid (rpmay_any _ p bp hbp w1 (h.ext hx1) h1 h2)
  have HW1 := Lib.hid hw1
  have HRR := Lib.hid hR
  clear h hw1 hR hx1 hbp h2
  go_enter Try.func21, Try.ntmps21
  go_wp2_with (rw [HW1.out])
  refine HPM.out.mono ?_
  rintro e w3 ⟨rfl, hx3⟩
  rw [HRR.out]
  have HX3 := Lib.hid (HX1.out.trans hx3)
  have HR3 := Lib.hid (hx3.blk HR1.out)
  clear hx3
  by_cases hok : Pg.may p = true ∧ 1 ≤ n ∧ n ≤ 8
  rotate_left 1
  · skip
    obtain ⟨wf, hwf⟩ : ∃ wf, w3.setCells R 0 (stL StH.nil St.nil) = wf := ⟨_, rfl⟩
    have HWF := Lib.hid hwf
    have HUF : Hid (Upd R w3 wf) := Lib.hid (by rw [← hwf]; exact setCells_upd _ _ _ _)
    have HRZ : Hid (wf.heap[R]? = some (.cells (stL StH.nil St.nil).toArray 47 (0, 0))) := Lib.hid (by rw [← hwf]; exact setCells_at [.slice none 0 0, .slice none 0 0, .slice none 0 0, .slice none 0 0, .slice none 0 0, .int .i64 0, .int .i64 0, .int .i64 0, .int .i64 0, .slice none 0 0, .slice none 0 0, .slice none 0 0, .slice none 0 0, .slice none 0 0, .int .i64 0, .int .i64 0] (stL StH.nil St.nil) rfl HR3.out)
    have HTH : Hid (w3.there R 0 (stL StH.nil St.nil).length) := Lib.hid (there_row HR3.out (Nat.le_refl 16))
    have HXZ : Hid (Ext w wf) := Lib.hid (HX3.out.upd HUF.out (by have := HRR.out; omega))
    clear hwf
    cases bp with
    | false =>
      have HN : Hid (St.new p n = (St.nil, 1)) := Lib.hid (St.new_no (by intro h; have h1 := HBP.out; have h2 := h.1; simp_all <;> omega))
      go_wp2_with (refine wpList_store_row rfl 47 _ _ rfl R (stL StH.nil St.nil) (stV StH.nil St.nil) rfl rfl rfl HTH.out (by kernel_rfl) (stL_one _ _) HWF.out ?_)
      refine bodyPost_cell_tmp rfl R _ _ _ _ rfl HRZ.out Try.underlying47 rfl (by kernel_rfl) (.int .i64 1) rfl rfl ?_
      rw [HN.out]
      exact ⟨StH.nil, rfl, StOk.nil _, HXZ.out⟩
    | true =>
      by_cases a1 : n < 1
      · skip
        have HN : Hid (St.new p n = (St.nil, 1)) := Lib.hid (St.new_no (by intro h; have h1 := HBP.out; have h2 := h.1; simp_all <;> omega))
        go_wp2_with (refine wpList_store_row rfl 47 _ _ rfl R (stL StH.nil St.nil) (stV StH.nil St.nil) rfl rfl rfl HTH.out (by kernel_rfl) (stL_one _ _) HWF.out ?_)
        refine bodyPost_cell_tmp rfl R _ _ _ _ rfl HRZ.out Try.underlying47 rfl (by kernel_rfl) (.int .i64 1) rfl rfl ?_
        rw [HN.out]
        exact ⟨StH.nil, rfl, StOk.nil _, HXZ.out⟩
      · have a2 : 8 < n := by have := HBP.out; first | (simp_all; done) | (simp_all; omega)
        have a1' : decide (n < 1) = false := by simpa using a1
        clear hok a1
        have HN : Hid (St.new p n = (St.nil, 1)) := Lib.hid (St.new_no (by intro h; have h1 := HBP.out; have h2 := h.1; simp_all <;> omega))
        go_wp2_with (refine wpList_store_row rfl 47 _ _ rfl R (stL StH.nil St.nil) (stV StH.nil St.nil) rfl rfl rfl HTH.out (by kernel_rfl) (stL_one _ _) HWF.out ?_)
        refine bodyPost_cell_tmp rfl R _ _ _ _ rfl HRZ.out Try.underlying47 rfl (by kernel_rfl) (.int .i64 1) rfl rfl ?_
        rw [HN.out]
        exact ⟨StH.nil, rfl, StOk.nil _, HXZ.out⟩
  · obtain rfl : bp = true := by rw [← HBP.out]; exact hok.1
    have HN : Hid (St.new p n = (St.made p n, 0)) := Lib.hid (St.new_yes hok)
    have a1 : 1 ≤ n := hok.2.1
    have a2 : n ≤ 8 := hok.2.2
    obtain ⟨w4, hw4⟩ : ∃ w4, w3.alloc (.cells #[.int .i64 0, .int .i64 0, .int .i64 1, .int .i64 0, .int .i64 0] 72) = w4 := ⟨_, rfl⟩
    obtain ⟨w5, hw5⟩ : ∃ w5, w4.alloc (.cells (madeCells #[.int .i64 0, .int .i64 0, .int .i64 0, .int .i64 0, .int .i64 0, .int .i64 0, .int .i64 0, .int .i64 0, .int .i64 0, .int .i64 0, .int .i64 0, .int .i64 0, .int .i64 0] 104) 77) = w5 := ⟨_, rfl⟩
    obtain ⟨w6, hw6⟩ : ∃ w6, w5.alloc (.cells #[.int .i64 1] 3) = w6 := ⟨_, rfl⟩
    obtain ⟨g, hg⟩ : ∃ g, w3.heap.size = g := ⟨_, rfl⟩
    obtain ⟨q, hq⟩ : ∃ q, w4.heap.size = q := ⟨_, rfl⟩
    obtain ⟨l, hl⟩ : ∃ l, w5.heap.size = l := ⟨_, rfl⟩
    have hx4 : Ext w3 w4 := by rw [← hw4]; exact (Ext.refl _).alloc _
    have hx5 : Ext w4 w5 := by rw [← hw5]; exact (Ext.refl _).alloc _
    have hx6 : Ext w5 w6 := by rw [← hw6]; exact (Ext.refl _).alloc _
    have hg4 : w4.heap[g]? = some (.cells #[.int .i64 0, .int .i64 0, .int .i64 1, .int .i64 0, .int .i64 0] 72 (0, 0)) := by rw [← hw4, ← hg]; exact blk_new w3 _
    have hq5 : w5.heap[q]? = some (.cells (madeCells #[.int .i64 0, .int .i64 0, .int .i64 0, .int .i64 0, .int .i64 0, .int .i64 0, .int .i64 0, .int .i64 0, .int .i64 0, .int .i64 0, .int .i64 0, .int .i64 0, .int .i64 0] 104) 77 (0, 0)) := by rw [← hw5, ← hq]; exact blk_new w4 _
    have hl6 : w6.heap[l]? = some (.cells #[.int .i64 1] 3 (0, 0)) := by rw [← hw6, ← hl]; exact blk_new w5 _
    have HR6 : Hid (w6.heap[R]? = some (.cells #[.slice none 0 0, .slice none 0 0, .slice none 0 0, .slice none 0 0, .slice none 0 0, .int .i64 0, .int .i64 0, .int .i64 0, .int .i64 0, .slice none 0 0, .slice none 0 0, .slice none 0 0, .slice none 0 0, .slice none 0 0, .int .i64 0, .int .i64 0] 47 (0, 0))) := Lib.hid ((hx4.trans (hx5.trans hx6)).blk HR3.out)
    have HX6 : Hid (Ext w w6) := Lib.hid (HX3.out.trans (hx4.trans (hx5.trans hx6)))
    have hmk := make_ps w4
    rw [hw5, hq] at hmk
    obtain ⟨wf, hwf⟩ : ∃ wf, w6.setCells R 0 (stL (StH.made A c g q l) (St.made p n)) = wf := ⟨_, rfl⟩
    have HWF := Lib.hid hwf
    have hRlt : R < w3.heap.size := blk_lt HR3.out
    have hu : Upd R w6 wf := by rw [← hwf]; exact setCells_upd _ _ _ _
    have HRZ : Hid (wf.heap[R]? = some (.cells (stL (StH.made A c g q l) (St.made p n)).toArray 47 (0, 0))) := Lib.hid (by rw [← hwf]; exact setCells_at [.slice none 0 0, .slice none 0 0, .slice none 0 0, .slice none 0 0, .slice none 0 0, .int .i64 0, .int .i64 0, .int .i64 0, .int .i64 0, .slice none 0 0, .slice none 0 0, .slice none 0 0, .slice none 0 0, .slice none 0 0, .int .i64 0, .int .i64 0] (stL (StH.made A c g q l) (St.made p n)) rfl HR6.out)
    have HTH : Hid (w6.there R 0 (stL (StH.made A c g q l) (St.made p n)).length) := Lib.hid (there_row HR6.out (Nat.le_refl 16))
    have HXZ : Hid (Ext w wf) := Lib.hid (HX6.out.upd hu (by have := HRR.out; omega))
    have HSZ : Hid (R < g ∧ R < q ∧ R < l) := Lib.hid (by have := hx4.size; have := hx5.size; omega)
    have HOK : Hid (StOk wf (StH.made A c g q l) (St.made p n)) := Lib.hid (by
      have hz := HSZ.out
      exact StOk.made (H.out.ext HXZ.out) (hu.blk ((hx5.trans hx6).blk hg4) (by omega)) (hu.blk (hx6.blk hq5) (by omega)) (hu.blk hl6 (by omega)))
    have HW4 := Lib.hid hw4
    have HW6 := Lib.hid hw6
    have HGQ : Hid (w3.heap.size = g ∧ w5.heap.size = l) := Lib.hid ⟨hg, hl⟩
    clear hw4 hw5 hw6 hg hq hl hx4 hx5 hx6 hg4 hq5 hl6 hwf hRlt hu hok
    go_wp2_with (first | rw [HW4.out, HGQ.out.1] | rw [HW6.out, HGQ.out.2] | (refine wpList_store_row rfl 47 _ _ rfl R (stL (StH.made A c g q l) (St.made p n)) (stV (StH.made A c g q l) (St.made p n)) rfl rfl rfl HTH.out (by kernel_rfl) (stL_one _ _) HWF.out ?_))
    refine bodyPost_cell_tmp rfl R _ _ _ _ rfl HRZ.out Try.underlying47 rfl (by kernel_rfl) (.int .i64 0) rfl rfl ?_
    rw [HN.out]
    exact ⟨StH.made A c g q l, rfl, HOK.out, HXZ.out⟩
section
variable {P : Program}
end
set_option maxRecDepth 100000 in
set_option maxHeartbeats 4000000 in
theorem rpsmall_any (v : Value) (p : List (List (Int × Int))) (r : Bool) (hr : Pg.small p = r) (w : World) (h1 : NestAt 2 pairL w v p) (hp : p.length ≤ 9223372036854775807) (hpl : ∀ l ∈ p, l.length ≤ 9223372036854775807) :
    Calls Try.prog 32 #[v] w fun e w' => e = .returned (.bool r) ∧ w' = w := by
  subst hr
  have H1 := Lib.hid h1
  have HPL := Lib.hid hpl
  obtain ⟨A, c, rfl⟩ := h1.form2
  clear h1 hpl
  go_enter Try.func32, Try.ntmps32
  go_wp2
  go_loop [3] (fun iv => ∃ k : Nat, k ≤ p.length ∧ iv = .int .i64 k ∧ ∀ (j : Nat) l, p[j]? = some l → j < k → l.length ≤ 30) (fun iv => p.length - (intOf iv).toNat)
  case atStart => exact ⟨0, by omega, rfl, fun j l _ h => by omega⟩
  case round =>
    obtain ⟨k, hk, rfl, hall⟩ := hrel
    have HALL := Lib.hid hall
    clear hall
    by_cases hlt : k < p.length
    · obtain ⟨x, hxa⟩ : ∃ x, p[k]? = some x := ⟨_, List.getElem?_eq_getElem hlt⟩
      obtain ⟨b, o, B, d, rfl, hb, hcu, hrow⟩ := H1.out.get hxa
      have hxl := HPL.out x (List.mem_of_getElem? hxa)
      have HXA := Lib.hid hxa
      clear hb hrow hxa
      by_cases h3 : x.length ≤ 30
      · have h3' : (x.length : Int) ≤ 30 := by omega
        have H3 := Lib.hid h3
        clear h3 hxl
        go_wp2
        go_round
        case rel =>
          refine ⟨k + 1, by omega, by go_num, fun j l hj hjk => ?_⟩
          by_cases hjk2 : j < k
          · exact HALL.out j l hj hjk2
          · obtain rfl : j = k := by omega
            rw [← some_eq HXA.out hj]
            exact H3.out
        case measure => simp [intOf]; omega
      · have h3' : (30 : Int) < (x.length : Int) := by omega
        have HN : Hid (Pg.small p = false) := Lib.hid (by
          unfold Pg.small; rw [all_no HXA.out (by simpa using h3)]; rfl)
        clear h3
        go_wp2
        go_ret
        exact ⟨by rw [HN.out] <;> rfl, rfl⟩
    · obtain rfl : k = p.length := by omega
      have HY : Hid (Pg.small p = decide ((p.length : Int) ≤ 12)) := Lib.hid (by
        unfold Pg.small
        rw [all_yes fun j l hj => by simpa using HALL.out j l hj (List.getElem?_eq_some_iff.1 hj).1, Bool.true_and]
        congr 1
        simp only [eq_iff_iff]
        omega)
      go_wp2
      go_ret
      exact ⟨by rw [HY.out] <;> rfl, rfl⟩
structure StIn (s : St) : Prop where
  prog : s.prog.length ≤ 9223372036854775807 ∧ ∀ l ∈ s.prog, l.length ≤ 9223372036854775807
  gs : s.gs.length ≤ 140737488355328
  ps : s.ps.length ≤ 140737488355328
  ms : s.ms.length ≤ 140737488355328
  glob : s.glob.length ≤ 140737488355328
  w : s.w0.length ≤ 140737488355328 ∧ s.w1.length ≤ 140737488355328 ∧ s.w2.length ≤ 140737488355328 ∧ s.w3.length ≤ 140737488355328
  timers : s.timers.length ≤ 140737488355328
  tnum : ∀ p ∈ s.timers, i64ok p.1 ∧ i64ok p.2
def St.many (s : St) (k : Nat) : Nat := s.glob.length + s.timers.length + ((s.wts.take k).flatten).length
def St.small (s : St) : Bool := s.gs.all (fun g => decide (g.seq ≤ 1000000)) && s.ps.all (fun p => decide (p.seq ≤ 1000000)) && decide (s.clock ≤ 1000000000) && (Pg.small s.prog && decide (s.gs.length ≤ 40) && decide (s.ps.length ≤ 10) && decide (s.ms.length ≤ 40) && decide (s.many 4 ≤ 80))
theorem St.small_few {s : St} (h : s.small = true) (hi : StIn s) : StFew s := by
  unfold St.small at h
  simp only [Bool.and_eq_true, decide_eq_true_eq] at h
  obtain ⟨-, ⟨⟨⟨h1, h2⟩, h3⟩, h4⟩, h5⟩ := h
  have hp := Pg.small_iff.1 h1
  unfold St.many at h5
  have hw : (s.wts.take 4).flatten = s.w0 ++ s.w1 ++ s.w2 ++ s.w3 := by simp [St.wts]
  rw [hw] at h5
  simp only [List.length_append] at h5
  exact ⟨⟨by omega, fun l hl => by have := hp.1 l hl; omega⟩, by omega, by omega, by omega, by omega, ⟨by omega, by omega, by omega, by omega⟩, by omega, hi.tnum⟩
set_option maxRecDepth 100000 in
set_option maxHeartbeats 8000000 in
theorem rstsmall_any (h : StH) (s : St) (r : Bool) (hr : s.small = r) (w : World) (hk : StOk w h s) (hf : StIn s) : Calls Try.prog 15 #[stV h s] w fun e w' => e = .returned (.bool r) ∧ Ext w w' := by
  subst hr
  have f1 := hf.gs
  have f2 := hf.ps
  have f3 := hf.ms
  have f4 := hf.glob
  have f5 := hf.timers
  have F2 := Lib.hid hf.w
  have FP := Lib.hid hf.prog
  have HK := Lib.hid hk
  obtain ⟨w1, hw1⟩ : ∃ w1, w.alloc (.cells #[.slice h.pa s.prog.length h.pc, .slice h.ga s.gs.length h.gc, .slice h.qa s.ps.length h.qc, .slice h.ma s.ms.length h.mc, .slice h.la s.glob.length h.lc, .int .i64 s.c0, .int .i64 s.c1, .int .i64 s.c2, .int .i64 s.c3, .slice h.a0 s.w0.length h.k0, .slice h.a1 s.w1.length h.k1, .slice h.a2 s.w2.length h.k2, .slice h.a3 s.w3.length h.k3, .slice h.ta s.timers.length h.tc, .int .i64 s.clock, .int .i64 s.procs] 47) = w1 := ⟨_, rfl⟩
  have HX1 : Hid (Ext w w1) := Lib.hid (by rw [← hw1]; exact (Ext.refl w).alloc _)
  have HB1 : Hid (w1.heap[w.heap.size]? = some (.cells (stC h s) 47 (0, 0))) := Lib.hid (by rw [← hw1]; exact blk_new w _)
  have HK1 := Lib.hid (hk.ext HX1.out)
  have HW1 := Lib.hid hw1
  clear hw1 hk
  clear hf
  have q4 := st4 HB1.out
  have q13 := st13 HB1.out
  unfold stV
  go_enter Try.func15, Try.ntmps15
  go_upto_region 1 with fail
  rw [HW1.out]
  generalize Value.agg #[.slice h.pa s.prog.length h.pc, .slice h.ga s.gs.length h.gc, .slice h.qa s.ps.length h.qc, .slice h.ma s.ms.length h.mc, .slice h.la s.glob.length h.lc, .int .i64 s.c0, .int .i64 s.c1, .int .i64 s.c2, .int .i64 s.c3, .slice h.a0 s.w0.length h.k0, .slice h.a1 s.w1.length h.k1, .slice h.a2 s.w2.length h.k2, .slice h.a3 s.w3.length h.k3, .slice h.ta s.timers.length h.tc, .int .i64 s.clock, .int .i64 s.procs] = sv0
  go_wp2_with fail
  clear q4 q13
  have q1 := st1 HB1.out
  go_loop [4] (fun iv => ∃ k : Nat, k ≤ s.gs.length ∧ iv = .int .i64 k ∧ ∀ (j : Nat) g, s.gs[j]? = some g → j < k → g.seq ≤ 1000000) (fun iv => s.gs.length - (intOf iv).toNat)
  case atStart => exact ⟨0, by omega, rfl, fun j l _ h => by omega⟩
  case round =>
    obtain ⟨k, hk, rfl, hall⟩ := hrel
    have HALL := Lib.hid hall
    clear hall
    by_cases hlt : k < s.gs.length
    · obtain ⟨g, hg⟩ : ∃ g, s.gs[k]? = some g := ⟨_, List.getElem?_eq_getElem hlt⟩
      obtain ⟨b, o, hA, hb, p0, p1, p2, p3, p4⟩ := gs_get HK1.out.gs hg
      rw [hA] at q1
      have HG := Lib.hid hg
      clear hg hb p0 p1 p2 p3 hA
      by_cases h3 : g.seq ≤ 1000000
      · have H3 := Lib.hid h3
        go_wp2
        go_round
        case rel =>
          refine ⟨k + 1, by omega, by go_num, fun j l hj hjk => ?_⟩
          by_cases hjk2 : j < k
          · exact HALL.out j l hj hjk2
          · obtain rfl : j = k := by omega
            rw [← some_eq HG.out hj]
            exact H3.out
        case measure => simp [intOf]; omega
      · have h3' : (1000000 : Int) < g.seq := by omega
        have HNO : Hid (s.small = false) := Lib.hid (by
          unfold St.small; rw [all_no HG.out (by simpa using h3)]; rfl)
        clear h3
        go_wp2
        (go_ret; exact ⟨by rw [HNO.out] <;> rfl, HX1.out⟩)
    · obtain rfl : k = s.gs.length := by omega
      have HGY : Hid (s.gs.all (fun g => decide (g.seq ≤ 1000000)) = true) := Lib.hid (all_yes fun j l hj => by simpa using HALL.out j l hj (List.getElem?_eq_some_iff.1 hj).1)
      clear HALL
      go_wp2_with fail
      clear q1
      have q2 := st2 HB1.out
      go_loop [5] (fun iv => ∃ k : Nat, k ≤ s.ps.length ∧ iv = .int .i64 k ∧ ∀ (j : Nat) g, s.ps[j]? = some g → j < k → g.seq ≤ 1000000) (fun iv => s.ps.length - (intOf iv).toNat)
      case atStart => exact ⟨0, by omega, rfl, fun j l _ h => by omega⟩
      case round =>
        obtain ⟨k, hk, rfl, hall⟩ := hrel
        have HALL := Lib.hid hall
        clear hall
        by_cases hlt : k < s.ps.length
        · obtain ⟨p, hp⟩ : ∃ p, s.ps[k]? = some p := ⟨_, List.getElem?_eq_getElem hlt⟩
          have HG := Lib.hid hp
          obtain ⟨m, nx, r, sq⟩ := p
          obtain ⟨b0, b1, b2, b3, b4, b5, b6, b7, hd, nn, rfl⟩ := Ri.open8 (HK.out.buf _ (List.mem_of_getElem? hp))
          obtain ⟨b, o, hA, hb, hc⟩ := ps_get HK1.out.ps hp
          obtain ⟨-, -, -, -, -, -, p12⟩ := hc
          rw [hA] at q2
          clear hp hb hA
          by_cases h3 : sq ≤ 1000000
          · have H3 := Lib.hid h3
            go_wp2
            go_round
            case rel =>
              refine ⟨k + 1, by omega, by go_num, fun j l hj hjk => ?_⟩
              by_cases hjk2 : j < k
              · exact HALL.out j l hj hjk2
              · obtain rfl : j = k := by omega
                rw [← some_eq HG.out hj]
                exact H3.out
            case measure => simp [intOf]; omega
          · have h3' : (1000000 : Int) < sq := by omega
            have HNO : Hid (s.small = false) := Lib.hid (by
              unfold St.small; rw [HGY.out, all_no HG.out (by simpa using h3)]; rfl)
            clear h3
            go_wp2
            (go_ret; exact ⟨by rw [HNO.out] <;> rfl, HX1.out⟩)
        · obtain rfl : k = s.ps.length := by omega
          have HPY : Hid (s.ps.all (fun g => decide (g.seq ≤ 1000000)) = true) := Lib.hid (all_yes fun j l hj => by simpa using HALL.out j l hj (List.getElem?_eq_some_iff.1 hj).1)
          clear HALL
          have q14 := st14 HB1.out
          by_cases hcl : s.clock ≤ 1000000000
          rotate_left 1
          · have hcl' : (1000000000 : Int) < s.clock := by omega
            have HNO : Hid (s.small = false) := Lib.hid (by
              unfold St.small; rw [HGY.out, HPY.out, decide_eq_false hcl]; rfl)
            clear hcl
            go_wp2
            (go_ret; exact ⟨by rw [HNO.out] <;> rfl, HX1.out⟩)
          have HSM : Hid (s.small = (Pg.small s.prog && decide (s.gs.length ≤ 40) && decide (s.ps.length ≤ 10) && decide (s.ms.length ≤ 40) && decide (s.many 4 ≤ 80))) := Lib.hid (by
            unfold St.small; rw [HGY.out, HPY.out, decide_eq_true hcl]; rfl)
          go_wp2_with fail
          clear q2 q14
          have HMS : Hid (∀ k, k ≤ 4 → s.many k ≤ 844424930131968) := Lib.hid fun k hk => by
            unfold St.many
            have h4 : ((s.wts.take k).flatten).length ≤ (s.wts.flatten).length := by
              have e : s.wts.flatten = (s.wts.take k).flatten ++ (s.wts.drop k).flatten := by rw [← List.flatten_append, List.take_append_drop]
              rw [e, List.length_append]; omega
            have hw : s.wts.flatten = s.w0 ++ s.w1 ++ s.w2 ++ s.w3 := by simp [St.wts]
            rw [hw] at h4
            simp only [List.length_append] at h4
            have := F2.out
            omega
          go_loop [3, 6] (fun mv iv => ∃ k : Nat, k ≤ 4 ∧ iv = .int .i64 k ∧ ∃ m : Nat, m = s.many k ∧ mv = .int .i64 m) (fun _ iv => 4 - (intOf iv).toNat)
          case atStart => exact ⟨0, by omega, rfl, s.glob.length + s.timers.length, by simp [St.many], by simp⟩
          case round =>
            obtain ⟨k, hk, rfl, m, hm, rfl⟩ := hrel
            have HM := Lib.hid hm
            have hml : (m : Int) ≤ 844424930131968 := by have := HMS.out k hk; omega
            clear hm
            by_cases hlt : k < 4
            · obtain ⟨A0, d0, l, hcell, hI, hl⟩ := HK1.out.wait hlt
              have q9 := blk_cell HB1.out (9 + k) _ hcell
              have HN : Hid (s.many (k + 1) = m + l.length) := Lib.hid (by rw [HM.out]; unfold St.many; rw [flatten_next hl, List.length_append]; omega)
              have hll : (l.length : Int) ≤ 844424930131968 := by have := HMS.out (k + 1) (by omega); have := HN.out; omega
              clear hcell hI hl
              go_wp2
              go_round
              case rel => exact ⟨k + 1, by omega, by go_num, m + l.length, HN.out.symm, by go_num⟩
              case measure => simp [intOf]; omega
            · have HM4 : Hid (s.many 4 = m) := Lib.hid (by obtain rfl : k = 4 := by omega
                                                           exact HM.out.symm)
              have HPS := Lib.hid (rpsmall_any _ s.prog _ rfl w1 HK1.out.prog FP.out.1 FP.out.2)
              have q0 := st0 HB1.out
              go_wp2_with fail
              refine HPS.out.mono ?_
              rintro e w' ⟨rfl, rfl⟩
              clear q0
              cases bp : Pg.small s.prog with
              | false =>
                have HNO : Hid (s.small = false) := Lib.hid (by rw [HSM.out, bp]; rfl)
                go_wp2
                (go_ret; exact ⟨by rw [HNO.out] <;> rfl, HX1.out⟩)
              | true =>
              have q1 := st1 HB1.out
              have q2 := st2 HB1.out
              have q3 := st3 HB1.out
              by_cases a1 : s.gs.length ≤ 40
              rotate_left 1
              · have HNO : Hid (s.small = false) := Lib.hid (by rw [HSM.out, bp, decide_eq_false a1]; rfl)
                have a1' : decide ((s.gs.length : Int) ≤ 40) = false := by simp; omega
                clear a1
                go_wp2
                (go_ret; exact ⟨by rw [HNO.out] <;> rfl, HX1.out⟩)
              have a1' : (s.gs.length : Int) ≤ 40 := by omega
              by_cases a2 : s.ps.length ≤ 10
              rotate_left 1
              · have HNO : Hid (s.small = false) := Lib.hid (by rw [HSM.out, bp, decide_eq_true a1, decide_eq_false a2]; rfl)
                have a2' : decide ((s.ps.length : Int) ≤ 10) = false := by simp; omega
                clear a1 a2
                go_wp2
                (go_ret; exact ⟨by rw [HNO.out] <;> rfl, HX1.out⟩)
              have a2' : (s.ps.length : Int) ≤ 10 := by omega
              by_cases a3 : s.ms.length ≤ 40
              rotate_left 1
              · have HNO : Hid (s.small = false) := Lib.hid (by rw [HSM.out, bp, decide_eq_true a1, decide_eq_true a2, decide_eq_false a3]; rfl)
                have a3' : decide ((s.ms.length : Int) ≤ 40) = false := by simp; omega
                clear a1 a2 a3
                go_wp2
                (go_ret; exact ⟨by rw [HNO.out] <;> rfl, HX1.out⟩)
              have a3' : (s.ms.length : Int) ≤ 40 := by omega
              by_cases a4 : m ≤ 80
              rotate_left 1
              · have HNO : Hid (s.small = false) := Lib.hid (by rw [HSM.out, bp, decide_eq_true a1, decide_eq_true a2, decide_eq_true a3, HM4.out, decide_eq_false a4]; rfl)
                have a4' : decide ((m : Int) ≤ 80) = false := by simp; omega
                clear a1 a2 a3 a4
                go_wp2
                (go_ret; exact ⟨by rw [HNO.out] <;> rfl, HX1.out⟩)
              have a4' : (m : Int) ≤ 80 := by omega
              have HNO : Hid (s.small = true) := Lib.hid (by rw [HSM.out, bp, decide_eq_true a1, decide_eq_true a2, decide_eq_true a3, HM4.out, decide_eq_true a4]; rfl)
              clear a1 a2 a3 a4
              go_wp2
              (go_ret; exact ⟨by rw [HNO.out] <;> rfl, HX1.out⟩)
theorem st_box (wa : World) (h : StH) (s : St) : ∃ wb wc, wa.alloc (.cells #[.slice none 0 0, .slice none 0 0, .slice none 0 0, .slice none 0 0, .slice none 0 0, .int .i64 0, .int .i64 0, .int .i64 0, .int .i64 0, .slice none 0 0, .slice none 0 0, .slice none 0 0, .slice none 0 0, .slice none 0 0, .int .i64 0, .int .i64 0] 47) = wb ∧ wb.setCells wa.heap.size 0 (stL h s) = wc ∧ wb.there wa.heap.size 0 (stL h s).length ∧ wc.heap[wa.heap.size]? = some (.cells (stC h s) 47 (0, 0)) ∧ Ext wa wc := by
  have hb := blk_new wa (.cells #[.slice none 0 0, .slice none 0 0, .slice none 0 0, .slice none 0 0, .slice none 0 0, .int .i64 0, .int .i64 0, .int .i64 0, .int .i64 0, .slice none 0 0, .slice none 0 0, .slice none 0 0, .slice none 0 0, .slice none 0 0, .int .i64 0, .int .i64 0] 47)
  refine ⟨_, _, rfl, rfl, there_row hb (Nat.le_refl 16), setCells_at [.slice none 0 0, .slice none 0 0, .slice none 0 0, .slice none 0 0, .slice none 0 0, .int .i64 0, .int .i64 0, .int .i64 0, .int .i64 0, .slice none 0 0, .slice none 0 0, .slice none 0 0, .slice none 0 0, .slice none 0 0, .int .i64 0, .int .i64 0] (stL h s) rfl hb, ?_⟩
  exact ((Ext.refl wa).alloc _).upd (setCells_upd _ _ _ _) (Nat.le_refl _)
theorem nest_one {w : World} {b g n : Nat} {l : List (Int × Int)} (hg : w.heap[g]? = some (.cells #[.slice (some ⟨b, 0, none⟩) n n] 58 (0, 0))) (hr : RowsAt 2 pairL w (.slice (some ⟨b, 0, none⟩) n n) l) : NestAt 2 pairL w (.slice (some ⟨g, 0, none⟩) 1 1) [l] := by
  refine ⟨[.slice (some ⟨b, 0, none⟩) n n], rfl, ⟨_, _, rfl, Nat.le_refl 1, fun _ => ⟨g, 0, rfl, blk_lt hg, fun j x hj i u hu => ?_⟩⟩, fun i u xs hu hx => ?_⟩
  · match j, i with
    | 0, 0 => simp at hj; subst hj; simp [oneL] at hu; subst hu; exact blk_cell hg _ _ rfl
    | 0, i + 1 => simp [oneL] at hu
    | j + 1, _ => simp at hj
  · match i with
    | 0 => simp at hu hx; subst hu hx; exact hr
    | i + 1 => simp at hu
open Go.RowKit Go.Maps
set_option maxRecDepth 100000 in
set_option maxHeartbeats 1000000 in
theorem rsnsame_out (time time' : Int) (ps qs : List (Int × Int)) (gs hs : List Gs4) (A B A' B' : Option Addr) (c d c' d' : Nat) (w : World) (h : time ≠ time' ∨ (time = time' ∧ (ps.length ≠ qs.length ∨ (ps.length = qs.length ∧ gs.length ≠ hs.length)))) :
    Calls Try.prog 14 #[.agg #[.int .i64 time, .slice A ps.length c, .slice B gs.length d], .agg #[.int .i64 time', .slice A' qs.length c', .slice B' hs.length d']] w fun e w' => e = .returned (.bool false) ∧ Ext w w' := by
  rcases h with h | ⟨h, h1 | ⟨h1, h2⟩⟩
  · have e1 : (time != time') = true := by simp [h]
    clear h
    go_enter Try.func14, Try.ntmps14
    go_wp2
    go_ret
    exact ⟨rfl, ((Ext.refl w).alloc _).alloc _⟩
  · have e1 : (time != time') = false := by simp [h]
    have e2 : ((ps.length : Int) != (qs.length : Int)) = true := by simp; omega
    clear h h1
    go_enter Try.func14, Try.ntmps14
    go_wp2
    go_ret
    exact ⟨rfl, ((Ext.refl w).alloc _).alloc _⟩
  · have e1 : (time != time') = false := by simp [h]
    have e2 : ((ps.length : Int) != (qs.length : Int)) = false := by simp; omega
    have e3 : ((gs.length : Int) != (hs.length : Int)) = true := by simp; omega
    clear h h1 h2
    go_enter Try.func14, Try.ntmps14
    go_wp2
    go_ret
    exact ⟨rfl, ((Ext.refl w).alloc _).alloc _⟩
open Go.RowKit Go.Maps
set_option maxRecDepth 100000 in
set_option maxHeartbeats 1000000 in
theorem rsnsame_in (time : Int) (ps qs : List (Int × Int)) (gs hs : List Gs4) (A B A' B' : Option Addr) (c d c' d' : Nat) (w : World) (hp1 : ps.length = qs.length) (hg1 : gs.length = hs.length)
    (h1 : RowsAt 2 snPCells w (.slice A ps.length c) ps) (h2 : RowsAt 2 snPCells w (.slice A' qs.length c') qs) (h3 : RowsAt 4 snGCells w (.slice B gs.length d) gs) (h4 : RowsAt 4 snGCells w (.slice B' hs.length d') hs) (r : Bool) (hr : decide (ps = qs ∧ gs = hs) = r) (hsml : ps.length ≤ 10000) (hsmg : gs.length ≤ 10000) :
    Calls Try.prog 14 #[.agg #[.int .i64 time, .slice A ps.length c, .slice B gs.length d], .agg #[.int .i64 time, .slice A' qs.length c', .slice B' hs.length d']] w fun e w' => e = .returned (.bool r) ∧ Ext w w' := by
  obtain ⟨_, _, hv, _, hA⟩ := h1
  simp only [Value.slice.injEq, true_and] at hv
  obtain ⟨rfl, rfl⟩ := hv
  obtain ⟨_, _, hv, _, hA'⟩ := h2
  simp only [Value.slice.injEq, true_and] at hv
  obtain ⟨rfl, rfl⟩ := hv
  obtain ⟨_, _, hv, _, hD⟩ := h3
  simp only [Value.slice.injEq, true_and] at hv
  obtain ⟨rfl, rfl⟩ := hv
  obtain ⟨_, _, hv, _, hD'⟩ := h4
  simp only [Value.slice.injEq, true_and] at hv
  obtain ⟨rfl, rfl⟩ := hv
  have HD := Lib.hid hD
  have HD' := Lib.hid hD'
  have HG1 := Lib.hid hg1
  have HA := Lib.hid hA
  have HA' := Lib.hid hA'
  have HR := Lib.hid hr
  have HP1 := Lib.hid hp1
  have HBX := Lib.hid (blk_alloc (blk_new w (.cells #[.int .i64 time, .slice A ps.length c, .slice B gs.length d] 25)) (.cells #[.int .i64 time, .slice A' qs.length c', .slice B' hs.length d'] 25))
  have HBY : Hid (((w.alloc (.cells #[.int .i64 time, .slice A ps.length c, .slice B gs.length d] 25)).alloc (.cells #[.int .i64 time, .slice A' qs.length c', .slice B' hs.length d'] 25)).heap[w.heap.size + 1]? = some (.cells #[.int .i64 time, .slice A' qs.length c', .slice B' hs.length d'] 25 (0, 0))) := Lib.hid (by have := blk_new (w.alloc (.cells #[.int .i64 time, .slice A ps.length c, .slice B gs.length d] 25)) (.cells #[.int .i64 time, .slice A' qs.length c', .slice B' hs.length d'] 25); rwa [World.size_alloc] at this)
  have HX0 : Hid (Ext w ((w.alloc (.cells #[.int .i64 time, .slice A ps.length c, .slice B gs.length d] 25)).alloc (.cells #[.int .i64 time, .slice A' qs.length c', .slice B' hs.length d'] 25))) := Lib.hid (((Ext.refl w).alloc _).alloc _)
  have e2 : ((ps.length : Int) != (qs.length : Int)) = false := by simp; omega
  have e3 : ((gs.length : Int) != (hs.length : Int)) = false := by simp; omega
  clear hA hA' hD hD' hr hp1 hg1
  go_enter Try.func14, Try.ntmps14
  go_wp2
  generalize hw2 : (w.alloc (.cells #[.int .i64 time, .slice A ps.length c, .slice B gs.length d] 25)).alloc (.cells #[.int .i64 time, .slice A' qs.length c', .slice B' hs.length d'] 25) = w2 at *
  clear hw2
  go_loopw [5] (fun iv wr => ∃ k : Nat, k ≤ ps.length ∧ iv = .int .i64 k ∧ Hid (ps.take k = qs.take k) ∧ Ext w2 wr) (fun iv _ => ps.length - (intOf iv).toNat)
  case atStart => exact ⟨0, by omega, rfl, Lib.hid (by simp), Ext.refl _⟩
  case round =>
    obtain ⟨k, hk, rfl, HEQ, hx⟩ := hrel
    have HX := Lib.hid hx
    have p1 := blk_cell (hx.blk HBX.out) 1 (.slice A ps.length c) rfl
    clear hx
    by_cases hlt : k < ps.length
    · have hlt2 : k < qs.length := by have := HP1.out; omega
      obtain ⟨bb, o, rfl, hbb, hcell⟩ := HA.out (by omega)
      obtain ⟨bb', o', rfl, hbb', hcell'⟩ := HA'.out (by omega)
      have h0 := hcell k ps[k] (List.getElem?_eq_getElem hlt)
      have h0' := hcell' k qs[k] (List.getElem?_eq_getElem hlt2)
      have HT : Hid (ps.take (k + 1) = ps.take k ++ [ps[k]]) := Lib.hid (by rw [List.take_succ_eq_append_getElem hlt])
      have HT' : Hid (qs.take (k + 1) = qs.take k ++ [qs[k]]) := Lib.hid (by rw [List.take_succ_eq_append_getElem hlt2])
      have HNE : Hid (ps[k] ≠ qs[k] → r = false) := Lib.hid fun hne => by
        rw [← HR.out]
        exact decide_eq_false fun hh => hne (by
          have h3 := congrArg (·[k]?) hh.1
          simp only [List.getElem?_eq_getElem hlt, List.getElem?_eq_getElem hlt2, Option.some.injEq] at h3
          exact h3)
      generalize ps[k] = x at *
      generalize qs[k] = y at *
      obtain ⟨x0, x1⟩ := x
      obtain ⟨y0, y1⟩ := y
      have HC : Hid (∀ v, Ext wr v → v.cell? ⟨bb, o + k * 2, none⟩ = some (.int .i64 x0) ∧ v.cell? ⟨bb, o + k * 2 + 1, none⟩ = some (.int .i64 x1)) := Lib.hid fun v hv => by
        have hxx := HX0.out.trans (HX.out.trans hv)
        exact ⟨by rw [Below.cell hxx hbb]; exact h0 0 _ rfl, by rw [Below.cell hxx hbb]; exact h0 1 _ rfl⟩
      have HC' : Hid (∀ v, Ext wr v → v.cell? ⟨bb', o' + k * 2, none⟩ = some (.int .i64 y0) ∧ v.cell? ⟨bb', o' + k * 2 + 1, none⟩ = some (.int .i64 y1)) := Lib.hid fun v hv => by
        have hxx := HX0.out.trans (HX.out.trans hv)
        exact ⟨by rw [Below.cell hxx hbb']; exact h0' 0 _ rfl, by rw [Below.cell hxx hbb']; exact h0' 1 _ rfl⟩
      have i0 : (0 : Int) ≤ (k : Int) := by omega
      have i1 : (k : Int) < (ps.length : Int) := by omega
      have i2 : (k : Int) < (qs.length : Int) := by omega
      clear hcell hcell' h0 h0'
      by_cases hxy : x0 = y0 ∧ x1 = y1
      · have hq : ∀ w, (Op.equalIn 10000 66 (.agg #[.int .i64 x0, .int .i64 x1]) (.agg #[.int .i64 y0, .int .i64 y1])).run Try.prog w = .ok true w := fun w => by have := run_eqP x0 x1 y0 y1 w; rw [decide_eq_true (by simp [hxy])] at this; exact this
        have HEN : Hid (ps.take (k + 1) = qs.take (k + 1)) := Lib.hid (by rw [HT.out, HT'.out, HEQ.out, hxy.1, hxy.2])
        clear hxy
        go_wp2
        clear p1
        refine region_rgx ([]) (wr) (by kernel_rfl) (by kernel_rfl) ?_ ?_ ?_
        · exact List.forall_mem_nil _
        · first | assumption | exact Ext.refl _
        refine rg_pure (v := ?_) rfl (by kernel_rfl) (by kernel_rfl) (fun w hS hN => ?_) ?_
        rotate_left 1
        · clear hN
          go_simp
          refine givesP_mk ?_
          with_reducible rfl
        refine rg_pure (v := ?_) rfl (by kernel_rfl) (by kernel_rfl) (fun w hS hN => ?_) ?_
        rotate_left 1
        · have k1 := blk_cell ((HX.out.trans hS).blk HBX.out) 1 (.slice (some ⟨bb, o, none⟩) ps.length c) rfl
          clear hN
          go_simp
          refine givesP_mk ?_
          with_reducible rfl
        refine rg_pure (v := ?_) rfl (by kernel_rfl) (by kernel_rfl) (fun w hS hN => ?_) ?_
        rotate_left 1
        · clear hN
          go_simp
          refine givesP_mk ?_
          with_reducible rfl
        refine rg_pure (v := ?_) rfl (by kernel_rfl) (by kernel_rfl) (fun w hS hN => ?_) ?_
        rotate_left 1
        · clear hN
          go_simp
          refine givesP_mk ?_
          with_reducible rfl
        refine rg_pure (v := ?_) rfl (by kernel_rfl) (by kernel_rfl) (fun w hS hN => ?_) ?_
        rotate_left 1
        · obtain ⟨k1, k2⟩ := HC.out w hS
          clear hN
          go_simp
          refine givesP_mk ?_
          with_reducible rfl
        refine rg_pure (v := ?_) rfl (by kernel_rfl) (by kernel_rfl) (fun w hS hN => ?_) ?_
        rotate_left 1
        · clear hN
          go_simp
          refine givesP_mk ?_
          with_reducible rfl
        refine rg_pure (v := ?_) rfl (by kernel_rfl) (by kernel_rfl) (fun w hS hN => ?_) ?_
        rotate_left 1
        · have k1 := blk_cell ((HX.out.trans hS).blk HBY.out) 1 (.slice (some ⟨bb', o', none⟩) qs.length c') rfl
          clear hN
          go_simp
          refine givesP_mk ?_
          with_reducible rfl
        refine rg_pure (v := ?_) rfl (by kernel_rfl) (by kernel_rfl) (fun w hS hN => ?_) ?_
        rotate_left 1
        · clear hN
          go_simp
          refine givesP_mk ?_
          with_reducible rfl
        refine rg_pure (v := ?_) rfl (by kernel_rfl) (by kernel_rfl) (fun w hS hN => ?_) ?_
        rotate_left 1
        · clear hN
          go_simp
          refine givesP_mk ?_
          with_reducible rfl
        refine rg_pure (v := ?_) rfl (by kernel_rfl) (by kernel_rfl) (fun w hS hN => ?_) ?_
        rotate_left 1
        · obtain ⟨k1, k2⟩ := HC'.out w hS
          clear hN
          go_simp
          refine givesP_mk ?_
          with_reducible rfl
        refine rg_pure (v := ?_) rfl (by kernel_rfl) (by kernel_rfl) (fun w hS hN => ?_) ?_
        rotate_left 1
        · clear hN
          go_simp
          refine givesP_mk ?_
          with_reducible rfl
        refine rg_done rfl (Nat.le_of_ble_eq_true (by kernel_rfl)) ?_
        intro w8 hS hT
        have HX8 := Lib.hid (HX.out.trans hS)
        clear hT hS hq
        go_simp
        go_wp2
        go_roundw
        case rel => exact ⟨k + 1, by omega, by go_num, HEN, HX8.out⟩
        case measure => simp [intOf]; omega
      · have hq : ∀ w, (Op.equalIn 10000 66 (.agg #[.int .i64 x0, .int .i64 x1]) (.agg #[.int .i64 y0, .int .i64 y1])).run Try.prog w = .ok false w := fun w => by have := run_eqP x0 x1 y0 y1 w; rw [decide_eq_false (by simp only [List.cons.injEq, and_true]; exact hxy)] at this; exact this
        obtain rfl := HNE.out (by simp only [ne_eq, Prod.mk.injEq]; exact hxy)
        clear hxy
        go_wp2
        clear p1
        refine region_rgx ([]) (wr) (by kernel_rfl) (by kernel_rfl) ?_ ?_ ?_
        · exact List.forall_mem_nil _
        · first | assumption | exact Ext.refl _
        refine rg_pure (v := ?_) rfl (by kernel_rfl) (by kernel_rfl) (fun w hS hN => ?_) ?_
        rotate_left 1
        · clear hN
          go_simp
          refine givesP_mk ?_
          with_reducible rfl
        refine rg_pure (v := ?_) rfl (by kernel_rfl) (by kernel_rfl) (fun w hS hN => ?_) ?_
        rotate_left 1
        · have k1 := blk_cell ((HX.out.trans hS).blk HBX.out) 1 (.slice (some ⟨bb, o, none⟩) ps.length c) rfl
          clear hN
          go_simp
          refine givesP_mk ?_
          with_reducible rfl
        refine rg_pure (v := ?_) rfl (by kernel_rfl) (by kernel_rfl) (fun w hS hN => ?_) ?_
        rotate_left 1
        · clear hN
          go_simp
          refine givesP_mk ?_
          with_reducible rfl
        refine rg_pure (v := ?_) rfl (by kernel_rfl) (by kernel_rfl) (fun w hS hN => ?_) ?_
        rotate_left 1
        · clear hN
          go_simp
          refine givesP_mk ?_
          with_reducible rfl
        refine rg_pure (v := ?_) rfl (by kernel_rfl) (by kernel_rfl) (fun w hS hN => ?_) ?_
        rotate_left 1
        · obtain ⟨k1, k2⟩ := HC.out w hS
          clear hN
          go_simp
          refine givesP_mk ?_
          with_reducible rfl
        refine rg_pure (v := ?_) rfl (by kernel_rfl) (by kernel_rfl) (fun w hS hN => ?_) ?_
        rotate_left 1
        · clear hN
          go_simp
          refine givesP_mk ?_
          with_reducible rfl
        refine rg_pure (v := ?_) rfl (by kernel_rfl) (by kernel_rfl) (fun w hS hN => ?_) ?_
        rotate_left 1
        · have k1 := blk_cell ((HX.out.trans hS).blk HBY.out) 1 (.slice (some ⟨bb', o', none⟩) qs.length c') rfl
          clear hN
          go_simp
          refine givesP_mk ?_
          with_reducible rfl
        refine rg_pure (v := ?_) rfl (by kernel_rfl) (by kernel_rfl) (fun w hS hN => ?_) ?_
        rotate_left 1
        · clear hN
          go_simp
          refine givesP_mk ?_
          with_reducible rfl
        refine rg_pure (v := ?_) rfl (by kernel_rfl) (by kernel_rfl) (fun w hS hN => ?_) ?_
        rotate_left 1
        · clear hN
          go_simp
          refine givesP_mk ?_
          with_reducible rfl
        refine rg_pure (v := ?_) rfl (by kernel_rfl) (by kernel_rfl) (fun w hS hN => ?_) ?_
        rotate_left 1
        · obtain ⟨k1, k2⟩ := HC'.out w hS
          clear hN
          go_simp
          refine givesP_mk ?_
          with_reducible rfl
        refine rg_pure (v := ?_) rfl (by kernel_rfl) (by kernel_rfl) (fun w hS hN => ?_) ?_
        rotate_left 1
        · clear hN
          go_simp
          refine givesP_mk ?_
          with_reducible rfl
        refine rg_done rfl (Nat.le_of_ble_eq_true (by kernel_rfl)) ?_
        intro w8 hS hT
        have HX8 := Lib.hid (HX.out.trans hS)
        clear hT hS hq
        go_simp
        go_wp2
        go_ret
        exact ⟨rfl, HX0.out.trans HX8.out⟩
    · obtain rfl : k = ps.length := by omega
      have HPQ : Hid (ps = qs) := Lib.hid (by have h1 := HEQ.out; rw [List.take_length, HP1.out, List.take_length] at h1; exact h1)
      have HR2 : Hid (decide (gs = hs) = r) := Lib.hid (by rw [← HR.out]; congr 1; simp [HPQ.out])
      go_wp2
      clear p1
      go_loopw [6] (fun iv wz => ∃ k : Nat, k ≤ gs.length ∧ iv = .int .i64 k ∧ Hid (gs.take k = hs.take k) ∧ Ext w2 wz) (fun iv _ => gs.length - (intOf iv).toNat)
      case atStart => exact ⟨0, by omega, rfl, Lib.hid (by simp), HX.out⟩
      case round =>
        clear HX HEQ
        obtain ⟨k, hk, rfl, HEQ, hx⟩ := hrel
        have HX := Lib.hid hx
        have p2 := blk_cell (hx.blk HBX.out) 2 (.slice B gs.length d) rfl
        clear hx
        by_cases hlt : k < gs.length
        · have hlt2 : k < hs.length := by have := HG1.out; omega
          obtain ⟨bb, o, rfl, hbb, hcell⟩ := HD.out (by omega)
          obtain ⟨bb', o', rfl, hbb', hcell'⟩ := HD'.out (by omega)
          have h0 := hcell k gs[k] (List.getElem?_eq_getElem hlt)
          have h0' := hcell' k hs[k] (List.getElem?_eq_getElem hlt2)
          have HT : Hid (gs.take (k + 1) = gs.take k ++ [gs[k]]) := Lib.hid (by rw [List.take_succ_eq_append_getElem hlt])
          have HT' : Hid (hs.take (k + 1) = hs.take k ++ [hs[k]]) := Lib.hid (by rw [List.take_succ_eq_append_getElem hlt2])
          have HNE : Hid (gs[k] ≠ hs[k] → r = false) := Lib.hid fun hne => by
            rw [← HR2.out]
            exact decide_eq_false fun hh => hne (by
              have h3 := congrArg (·[k]?) hh
              simp only [List.getElem?_eq_getElem hlt, List.getElem?_eq_getElem hlt2, Option.some.injEq] at h3
              exact h3)
          generalize gs[k] = x at *
          generalize hs[k] = y at *
          obtain ⟨x0, x1, x2, x3⟩ := x
          obtain ⟨y0, y1, y2, y3⟩ := y
          have HC : Hid (∀ v, Ext wr v → v.cell? ⟨bb, o + k * 4, none⟩ = some (.int .i64 x0) ∧ v.cell? ⟨bb, o + k * 4 + 1, none⟩ = some (.int .i64 x1) ∧ v.cell? ⟨bb, o + k * 4 + 2, none⟩ = some (.int .i64 x2) ∧ v.cell? ⟨bb, o + k * 4 + 3, none⟩ = some (.int .i64 x3)) := Lib.hid fun v hv => by
            have hxx := HX0.out.trans (HX.out.trans hv)
            exact ⟨by rw [Below.cell hxx hbb]; exact h0 0 _ rfl, by rw [Below.cell hxx hbb]; exact h0 1 _ rfl, by rw [Below.cell hxx hbb]; exact h0 2 _ rfl, by rw [Below.cell hxx hbb]; exact h0 3 _ rfl⟩
          have HC' : Hid (∀ v, Ext wr v → v.cell? ⟨bb', o' + k * 4, none⟩ = some (.int .i64 y0) ∧ v.cell? ⟨bb', o' + k * 4 + 1, none⟩ = some (.int .i64 y1) ∧ v.cell? ⟨bb', o' + k * 4 + 2, none⟩ = some (.int .i64 y2) ∧ v.cell? ⟨bb', o' + k * 4 + 3, none⟩ = some (.int .i64 y3)) := Lib.hid fun v hv => by
            have hxx := HX0.out.trans (HX.out.trans hv)
            exact ⟨by rw [Below.cell hxx hbb']; exact h0' 0 _ rfl, by rw [Below.cell hxx hbb']; exact h0' 1 _ rfl, by rw [Below.cell hxx hbb']; exact h0' 2 _ rfl, by rw [Below.cell hxx hbb']; exact h0' 3 _ rfl⟩
          have i0 : (0 : Int) ≤ (k : Int) := by omega
          have i1 : (k : Int) < (gs.length : Int) := by omega
          have i2 : (k : Int) < (hs.length : Int) := by omega
          clear hcell hcell' h0 h0'
          by_cases hxy : x0 = y0 ∧ x1 = y1 ∧ x2 = y2 ∧ x3 = y3
          · have hq : ∀ w, (Op.equalIn 10000 51 (.agg #[.int .i64 x0, .int .i64 x1, .int .i64 x2, .int .i64 x3]) (.agg #[.int .i64 y0, .int .i64 y1, .int .i64 y2, .int .i64 y3])).run Try.prog w = .ok true w := fun w => by have := run_eqG x0 x1 x2 x3 y0 y1 y2 y3 w; rw [decide_eq_true (by simp [hxy])] at this; exact this
            have HEN : Hid (gs.take (k + 1) = hs.take (k + 1)) := Lib.hid (by rw [HT.out, HT'.out, HEQ.out, hxy.1, hxy.2.1, hxy.2.2.1, hxy.2.2.2])
            clear hxy
            go_wp2
            clear p2
            refine region_rgx ([]) (wr) (by kernel_rfl) (by kernel_rfl) ?_ ?_ ?_
            · exact List.forall_mem_nil _
            · first | assumption | exact Ext.refl _
            refine rg_pure (v := ?_) rfl (by kernel_rfl) (by kernel_rfl) (fun w hS hN => ?_) ?_
            rotate_left 1
            · clear hN
              go_simp
              refine givesP_mk ?_
              with_reducible rfl
            refine rg_pure (v := ?_) rfl (by kernel_rfl) (by kernel_rfl) (fun w hS hN => ?_) ?_
            rotate_left 1
            · have k1 := blk_cell ((HX.out.trans hS).blk HBX.out) 2 (.slice (some ⟨bb, o, none⟩) gs.length d) rfl
              clear hN
              go_simp
              refine givesP_mk ?_
              with_reducible rfl
            refine rg_pure (v := ?_) rfl (by kernel_rfl) (by kernel_rfl) (fun w hS hN => ?_) ?_
            rotate_left 1
            · clear hN
              go_simp
              refine givesP_mk ?_
              with_reducible rfl
            refine rg_pure (v := ?_) rfl (by kernel_rfl) (by kernel_rfl) (fun w hS hN => ?_) ?_
            rotate_left 1
            · clear hN
              go_simp
              refine givesP_mk ?_
              with_reducible rfl
            refine rg_pure (v := ?_) rfl (by kernel_rfl) (by kernel_rfl) (fun w hS hN => ?_) ?_
            rotate_left 1
            · obtain ⟨k1, k2, k3, k4⟩ := HC.out w hS
              clear hN
              go_simp
              refine givesP_mk ?_
              with_reducible rfl
            refine rg_pure (v := ?_) rfl (by kernel_rfl) (by kernel_rfl) (fun w hS hN => ?_) ?_
            rotate_left 1
            · clear hN
              go_simp
              refine givesP_mk ?_
              with_reducible rfl
            refine rg_pure (v := ?_) rfl (by kernel_rfl) (by kernel_rfl) (fun w hS hN => ?_) ?_
            rotate_left 1
            · have k1 := blk_cell ((HX.out.trans hS).blk HBY.out) 2 (.slice (some ⟨bb', o', none⟩) hs.length d') rfl
              clear hN
              go_simp
              refine givesP_mk ?_
              with_reducible rfl
            refine rg_pure (v := ?_) rfl (by kernel_rfl) (by kernel_rfl) (fun w hS hN => ?_) ?_
            rotate_left 1
            · clear hN
              go_simp
              refine givesP_mk ?_
              with_reducible rfl
            refine rg_pure (v := ?_) rfl (by kernel_rfl) (by kernel_rfl) (fun w hS hN => ?_) ?_
            rotate_left 1
            · clear hN
              go_simp
              refine givesP_mk ?_
              with_reducible rfl
            refine rg_pure (v := ?_) rfl (by kernel_rfl) (by kernel_rfl) (fun w hS hN => ?_) ?_
            rotate_left 1
            · obtain ⟨k1, k2, k3, k4⟩ := HC'.out w hS
              clear hN
              go_simp
              refine givesP_mk ?_
              with_reducible rfl
            refine rg_pure (v := ?_) rfl (by kernel_rfl) (by kernel_rfl) (fun w hS hN => ?_) ?_
            rotate_left 1
            · clear hN
              go_simp
              refine givesP_mk ?_
              with_reducible rfl
            refine rg_done rfl (Nat.le_of_ble_eq_true (by kernel_rfl)) ?_
            intro w8 hS hT
            have HX8 := Lib.hid (HX.out.trans hS)
            clear hT hS hq
            go_simp
            go_wp2
            go_roundw
            case rel => exact ⟨k + 1, by omega, by go_num, HEN, HX8.out⟩
            case measure => simp [intOf]; omega
          · have hq : ∀ w, (Op.equalIn 10000 51 (.agg #[.int .i64 x0, .int .i64 x1, .int .i64 x2, .int .i64 x3]) (.agg #[.int .i64 y0, .int .i64 y1, .int .i64 y2, .int .i64 y3])).run Try.prog w = .ok false w := fun w => by have := run_eqG x0 x1 x2 x3 y0 y1 y2 y3 w; rw [decide_eq_false (by simp only [List.cons.injEq, and_true]; exact hxy)] at this; exact this
            obtain rfl := HNE.out (by simp only [ne_eq, Prod.mk.injEq]; exact hxy)
            clear hxy
            go_wp2
            clear p2
            refine region_rgx ([]) (wr) (by kernel_rfl) (by kernel_rfl) ?_ ?_ ?_
            · exact List.forall_mem_nil _
            · first | assumption | exact Ext.refl _
            refine rg_pure (v := ?_) rfl (by kernel_rfl) (by kernel_rfl) (fun w hS hN => ?_) ?_
            rotate_left 1
            · clear hN
              go_simp
              refine givesP_mk ?_
              with_reducible rfl
            refine rg_pure (v := ?_) rfl (by kernel_rfl) (by kernel_rfl) (fun w hS hN => ?_) ?_
            rotate_left 1
            · have k1 := blk_cell ((HX.out.trans hS).blk HBX.out) 2 (.slice (some ⟨bb, o, none⟩) gs.length d) rfl
              clear hN
              go_simp
              refine givesP_mk ?_
              with_reducible rfl
            refine rg_pure (v := ?_) rfl (by kernel_rfl) (by kernel_rfl) (fun w hS hN => ?_) ?_
            rotate_left 1
            · clear hN
              go_simp
              refine givesP_mk ?_
              with_reducible rfl
            refine rg_pure (v := ?_) rfl (by kernel_rfl) (by kernel_rfl) (fun w hS hN => ?_) ?_
            rotate_left 1
            · clear hN
              go_simp
              refine givesP_mk ?_
              with_reducible rfl
            refine rg_pure (v := ?_) rfl (by kernel_rfl) (by kernel_rfl) (fun w hS hN => ?_) ?_
            rotate_left 1
            · obtain ⟨k1, k2, k3, k4⟩ := HC.out w hS
              clear hN
              go_simp
              refine givesP_mk ?_
              with_reducible rfl
            refine rg_pure (v := ?_) rfl (by kernel_rfl) (by kernel_rfl) (fun w hS hN => ?_) ?_
            rotate_left 1
            · clear hN
              go_simp
              refine givesP_mk ?_
              with_reducible rfl
            refine rg_pure (v := ?_) rfl (by kernel_rfl) (by kernel_rfl) (fun w hS hN => ?_) ?_
            rotate_left 1
            · have k1 := blk_cell ((HX.out.trans hS).blk HBY.out) 2 (.slice (some ⟨bb', o', none⟩) hs.length d') rfl
              clear hN
              go_simp
              refine givesP_mk ?_
              with_reducible rfl
            refine rg_pure (v := ?_) rfl (by kernel_rfl) (by kernel_rfl) (fun w hS hN => ?_) ?_
            rotate_left 1
            · clear hN
              go_simp
              refine givesP_mk ?_
              with_reducible rfl
            refine rg_pure (v := ?_) rfl (by kernel_rfl) (by kernel_rfl) (fun w hS hN => ?_) ?_
            rotate_left 1
            · clear hN
              go_simp
              refine givesP_mk ?_
              with_reducible rfl
            refine rg_pure (v := ?_) rfl (by kernel_rfl) (by kernel_rfl) (fun w hS hN => ?_) ?_
            rotate_left 1
            · obtain ⟨k1, k2, k3, k4⟩ := HC'.out w hS
              clear hN
              go_simp
              refine givesP_mk ?_
              with_reducible rfl
            refine rg_pure (v := ?_) rfl (by kernel_rfl) (by kernel_rfl) (fun w hS hN => ?_) ?_
            rotate_left 1
            · clear hN
              go_simp
              refine givesP_mk ?_
              with_reducible rfl
            refine rg_done rfl (Nat.le_of_ble_eq_true (by kernel_rfl)) ?_
            intro w8 hS hT
            have HX8 := Lib.hid (HX.out.trans hS)
            clear hT hS hq
            go_simp
            go_wp2
            go_ret
            exact ⟨rfl, HX0.out.trans HX8.out⟩
        · obtain rfl : k = gs.length := by omega
          obtain rfl : r = true := by rw [← HR2.out]; have h1 := HEQ.out; rw [List.take_length, HG1.out, List.take_length] at h1; exact decide_eq_true h1
          go_wp2
          go_ret
          exact ⟨rfl, HX0.out.trans HX.out⟩
theorem rsnsame_any (v u : Value) (s t : Sn) (w : World) (hs : SnAt w v s) (ht : SnAt w u t) (hp : s.ps.length ≤ 10000) (hg : s.gs.length ≤ 10000) (r : Bool) (hr : decide (s.time = t.time ∧ s.ps = t.ps ∧ s.gs = t.gs) = r) :
    Calls Try.prog 14 #[v, u] w fun e w' => e = .returned (.bool r) ∧ Ext w w' := by
  obtain ⟨A, c, B, d, rfl, h1, h3⟩ := hs
  obtain ⟨A', c', B', d', rfl, h2, h4⟩ := ht
  obtain ⟨time, ps, gs⟩ := s
  obtain ⟨time', qs, hs⟩ := t
  simp only at *
  by_cases h : time ≠ time' ∨ (time = time' ∧ (ps.length ≠ qs.length ∨ (ps.length = qs.length ∧ gs.length ≠ hs.length)))
  · obtain rfl : r = false := by
      rw [← hr]
      refine decide_eq_false fun hh => ?_
      obtain ⟨k1, k2, k3⟩ := hh
      subst k1 k2 k3
      simp at h
    exact rsnsame_out time time' ps qs gs hs A B A' B' c d c' d' w h
  · obtain rfl : time = time' := by
      by_cases ht : time = time'
      · exact ht
      · exact absurd (.inl ht) h
    have hpl : ps.length = qs.length := by
      by_cases hl : ps.length = qs.length
      · exact hl
      · exact absurd (.inr ⟨rfl, .inl hl⟩) h
    have hgl : gs.length = hs.length := by
      by_cases hl : gs.length = hs.length
      · exact hl
      · exact absurd (.inr ⟨rfl, .inr ⟨hpl, hl⟩⟩) h
    exact rsnsame_in time ps qs gs hs A B A' B' c d c' d' w hpl hgl h1 h2 h3 h4 r (by rw [← hr]; simp) hp hg
end Go.Proofs.Ytdcbaddndoilfaa
