/-
  The walk of the statement StateTells.
-/
import Derived.Test.YtbcclhahpcbadaaQTzl
set_option linter.unusedVariables false
set_option linter.unusedSimpArgs false
namespace Go.Proofs.Ytbcclhahpcbadaa
open Go.RowKit

theorem new_few {p : List (List (Int × Int))} {n : Int} (h1 : p.length ≤ 100000) (h2 : ∀ l ∈ p, l.length ≤ 100000) : StFew (St.new p n).1 ∧ (St.new p n).1.timers.length ≤ 9000 := by
  unfold St.new
  split
  · exact ⟨made_few h1 h2, by simp [St.made]⟩
  · exact ⟨nil_few, by simp [St.nil]⟩
theorem small_timers {s : St} (h : s.small = true) : s.timers.length ≤ 9000 := by
  unfold St.small at h
  simp only [Bool.and_eq_true, decide_eq_true_eq] at h
  have := h.2.2
  unfold St.many at this
  omega
set_option maxRecDepth 100000 in
set_option maxHeartbeats 16000000 in
theorem walk_StateTells (h : StH) (s : St) (u : Value) (q : List (List (Int × Int))) (g n : Int) (w : World) (hk : StOk w h s) (hi : StIn s) (hu : NestAt 2 pairL w u q) (hz : q.length ≤ maxLen ∧ ∀ l ∈ q, l.length ≤ maxLen) :
    Calls Try.prog 3 #[stV h s, .agg #[u, .int .i64 g, .int .i64 n]] w fun e w' => e = .returned (.bool true) ∧ Ext w w' := by
  have HI := Lib.hid hi
  have HZ := Lib.hid hz
  obtain ⟨A, c, rfl⟩ := hu.form2
  obtain ⟨w1, hw1⟩ : ∃ w1, (w.alloc (.cells #[.slice h.pa s.prog.length h.pc, .slice h.ga s.gs.length h.gc, .slice h.qa s.ps.length h.qc, .slice h.ma s.ms.length h.mc, .slice h.la s.glob.length h.lc, .int .i64 s.c0, .int .i64 s.c1, .int .i64 s.c2, .int .i64 s.c3, .slice h.a0 s.w0.length h.k0, .slice h.a1 s.w1.length h.k1, .slice h.a2 s.w2.length h.k2, .slice h.a3 s.w3.length h.k3, .slice h.ta s.timers.length h.tc, .int .i64 s.clock, .int .i64 s.procs] 32)).alloc (.cells #[.slice A q.length c, .int .i64 g, .int .i64 n] 34) = w1 := ⟨_, rfl⟩
  obtain ⟨B, hB⟩ : ∃ B, w.heap.size + 1 = B := ⟨_, rfl⟩
  have hx1 : Ext w w1 := by rw [← hw1]; exact ((Ext.refl w).alloc _).alloc _
  have HB1 : Hid (w1.heap[w.heap.size]? = some (.cells (stC h s) 32 (0, 0))) := Lib.hid (by rw [← hw1]; exact blk_alloc (blk_new w _) _)
  have HBB : Hid (w1.heap[B]? = some (.cells #[.slice A q.length c, .int .i64 g, .int .i64 n] 34 (0, 0))) := Lib.hid (by
    have := blk_new (w.alloc (.cells #[.slice h.pa s.prog.length h.pc, .slice h.ga s.gs.length h.gc, .slice h.qa s.ps.length h.qc, .slice h.ma s.ms.length h.mc, .slice h.la s.glob.length h.lc, .int .i64 s.c0, .int .i64 s.c1, .int .i64 s.c2, .int .i64 s.c3, .slice h.a0 s.w0.length h.k0, .slice h.a1 s.w1.length h.k1, .slice h.a2 s.w2.length h.k2, .slice h.a3 s.w3.length h.k3, .slice h.ta s.timers.length h.tc, .int .i64 s.clock, .int .i64 s.procs] 32)) (.cells #[.slice A q.length c, .int .i64 g, .int .i64 n] 34)
    rw [hw1, World.size_alloc, hB] at this
    exact this)
  have HX1 := Lib.hid hx1
  have HB := Lib.hid hB
  have HK1 := Lib.hid (hk.ext hx1)
  have HU1 := Lib.hid (hu.ext hx1)
  have HW1 := Lib.hid hw1
  clear hw1 hx1 hB hk hi hu hz
  unfold stV
  go_enter Try.func3, Try.ntmps3
  go_upto_region 1 with fail
  rw [HW1.out, HB.out]
  generalize Value.agg #[.slice h.pa s.prog.length h.pc, .slice h.ga s.gs.length h.gc, .slice h.qa s.ps.length h.qc, .slice h.ma s.ms.length h.mc, .slice h.la s.glob.length h.lc, .int .i64 s.c0, .int .i64 s.c1, .int .i64 s.c2, .int .i64 s.c3, .slice h.a0 s.w0.length h.k0, .slice h.a1 s.w1.length h.k1, .slice h.a2 s.w2.length h.k2, .slice h.a3 s.w3.length h.k3, .slice h.ta s.timers.length h.tc, .int .i64 s.clock, .int .i64 s.procs] = sv0
  have HLD := HB1
  go_wp2_with (refine wpList_load_rowW rfl 32 _ rfl w.heap.size rfl (stL h s) (stV h s) rfl _ (range_row HLD.out) Try.underlying32 rfl (by kernel_rfl) ?_)
  refine (rstsmall_any h s _ rfl w1 HK1.out HI.out).mono ?_
  rintro e w2 ⟨rfl, hx2⟩
  have HX2 := Lib.hid hx2
  clear hx2 HLD
  cases bs : s.small with
  | false =>
    go_wp2_with fail
    refine (tfixed_yes _).mono ?_
    rintro e w3 ⟨rfl, hx3⟩
    have HX3 := Lib.hid (HX1.out.trans (HX2.out.trans hx3))
    clear hx3
    go_wp2
    go_ret
    exact ⟨rfl, HX3.out⟩
  | true =>
  have HF := Lib.hid (St.small_few bs HI.out)
  have HT9 := Lib.hid (small_timers bs)
  clear bs
  have k0 : w2.cell? ⟨B, 0, none⟩ = some (.slice A q.length c) := blk_cell (HX2.out.blk HBB.out) 0 _ rfl
  go_wp2_with fail
  refine (rpsmall_any _ q _ rfl w2 (HU1.out.ext HX2.out) (by have := HZ.out.1; unfold maxLen at this; omega) (fun l hl => by have := HZ.out.2 l hl; unfold maxLen at this; omega)).mono ?_
  rintro e w' ⟨rfl, rfl⟩
  clear k0
  cases bp : Pg.small q with
  | false =>
    go_wp2_with fail
    refine (tfixed_yes _).mono ?_
    rintro e w3 ⟨rfl, hx3⟩
    have HX3 := Lib.hid (HX1.out.trans (HX2.out.trans hx3))
    clear hx3
    go_wp2
    go_ret
    exact ⟨rfl, HX3.out⟩
  | true =>
  have HSM := Lib.hid (Pg.small_iff.1 bp)
  have HL : Hid (q.length ≤ 100000 ∧ ∀ l ∈ q, l.length ≤ 100000) := Lib.hid ⟨by have := HSM.out.2; omega, fun l hl => by have := HSM.out.1 l hl; omega⟩
  clear bp
  obtain ⟨rs, rn, hr⟩ : ∃ rs rn, St.new q n = (rs, rn) := ⟨_, _, rfl⟩
  have HR := Lib.hid hr
  have HRF : Hid (StFew rs ∧ rs.timers.length ≤ 9000) := Lib.hid (by have := new_few (n := n) HL.out.1 HL.out.2; rwa [hr] at this)
  clear hr
  have k0 : w'.cell? ⟨B, 0, none⟩ = some (.slice A q.length c) := blk_cell (HX2.out.blk HBB.out) 0 _ rfl
  have k2 : w'.cell? ⟨B, 2, none⟩ = some (.int .i64 n) := blk_cell (HX2.out.blk HBB.out) 2 _ rfl
  go_wp2_with fail
  refine (sNew_any _ q n _ HR.out w' (HU1.out.ext HX2.out) HL.out.1 HL.out.2).mono ?_
  rintro e wa ⟨h1, rfl, hk1, hxa⟩
  simp only
  obtain ⟨wb, wc, hwb, hwc, hth, hbc, hxc⟩ := st_box wa h1 rs
  have HWB := Lib.hid hwb
  have HWC := Lib.hid hwc
  have HTH := Lib.hid hth
  have HBA := Lib.hid hbc
  have HX3 := Lib.hid (HX2.out.trans (hxa.trans hxc))
  have HKA := Lib.hid (hk1.ext hxc)
  clear hwb hwc hth hbc hxc hk1 hxa k0 k2
  have k0 : wc.cell? ⟨B, 0, none⟩ = some (.slice A q.length c) := blk_cell (HX3.out.blk HBB.out) 0 _ rfl
  have k2 : wc.cell? ⟨B, 2, none⟩ = some (.int .i64 n) := blk_cell (HX3.out.blk HBB.out) 2 _ rfl
  go_wp2_with (first | rw [HWB.out] | (refine wpList_store_row rfl 32 _ _ rfl wa.heap.size (stL h1 rs) (stV h1 rs) rfl rfl rfl HTH.out (by kernel_rfl) (stL_one _ _) HWC.out ?_))
  refine (rNew_any _ q n _ HR.out wc (HU1.out.ext HX3.out) HL.out.1 HL.out.2).mono ?_
  rintro e wd ⟨h2, rfl, hk2, hxd⟩
  simp only
  obtain ⟨we, wf, hwe, hwf, hth2, hbf, hxf⟩ := st_box wd h2 rs
  have HWE := Lib.hid hwe
  have HWF := Lib.hid hwf
  have HTH2 := Lib.hid hth2
  have HBF := Lib.hid hbf
  have HX4 := Lib.hid (HX3.out.trans (hxd.trans hxf))
  have HX34 := Lib.hid (hxd.trans hxf)
  have HKF := Lib.hid (hk2.ext hxf)
  clear hwe hwf hth2 hbf hxf hk2 hxd k0 k2
  go_upto_region 5 with (first | rw [HWE.out] | (refine wpList_store_row rfl 32 _ _ rfl wd.heap.size (stL h2 rs) (stV h2 rs) rfl rfl rfl HTH2.out (by kernel_rfl) (stL_one _ _) HWF.out ?_))
  obtain ⟨pa, pb, hpl⟩ : ∃ pa pb, s.place g = (pa, pb) := ⟨_, _, rfl⟩
  obtain ⟨qu, hqu⟩ : ∃ qu, s.queue n = qu := ⟨_, rfl⟩
  obtain ⟨bm, hbm⟩ : ∃ bm, s.may = bm := ⟨_, rfl⟩
  have HPL := Lib.hid hpl
  have HQU := Lib.hid hqu
  have HBM := Lib.hid hbm
  have HQL : Hid (qu.length ≤ 9223372036854775807) := Lib.hid (by
    rw [← hqu]
    unfold St.queue
    split
    · have := queueOf_len (s.ps.getD (n - 1).toNat St.nilP); omega
    · simp)
  have hq : ∀ w, (Op.equalIn 10000 43 (.agg #[.int .i64 pa, .int .i64 pb]) (.agg #[.int .i64 pa, .int .i64 pb])).run Try.prog w = .ok true w := fun w => by rw [run_eqPlace, decide_eq_true rfl]
  have hrn : (rn == rn) = true := by simp
  have hbb : (bm == bm) = true := by cases bm <;> rfl
  have HKS := Lib.hid (HK1.out.ext HX4.out)
  have HBS := Lib.hid (HX4.out.blk HB1.out)
  have HBA4 := Lib.hid (HX34.out.blk HBA.out)
  have HKA4 := Lib.hid (HKA.out.ext HX34.out)
  have HBB4 := Lib.hid (HX4.out.blk HBB.out)
  clear hpl hqu hbm
  refine region_rgx ([(0, (fun u => u = .bool true : Value → Prop), (fun _ _ => True : (Nat → GV) → World → Prop)), (4, (fun u => u = .bool true : Value → Prop), (fun _ _ => True : (Nat → GV) → World → Prop)), (13, (fun u => u = .bool bm : Value → Prop), (fun _ _ => True : (Nat → GV) → World → Prop)), (15, (fun u => u = .bool bm : Value → Prop), (fun _ _ => True : (Nat → GV) → World → Prop)), (22, (fun u => u = .agg #[.int .i64 pa, .int .i64 pb] : Value → Prop), (fun _ _ => True : (Nat → GV) → World → Prop)), (26, (fun u => u = .agg #[.int .i64 pa, .int .i64 pb] : Value → Prop), (fun _ _ => True : (Nat → GV) → World → Prop)), (33, (fun u => ∃ A c, u = .slice A qu.length c : Value → Prop), (fun u w => IntsAt w (u 33).v qu : (Nat → GV) → World → Prop)), (37, (fun u => ∃ A c, u = .slice A qu.length c : Value → Prop), (fun u w => IntsAt w (u 37).v qu : (Nat → GV) → World → Prop)), (38, (fun u => u = .bool true : Value → Prop), (fun _ _ => True : (Nat → GV) → World → Prop)), (42, (fun u => ∃ h', u = stV h' s : Value → Prop), (fun u w => StAt w (u 42).v s : (Nat → GV) → World → Prop)), (44, (fun u => u = .bool true : Value → Prop), (fun _ _ => True : (Nat → GV) → World → Prop))]) (wf) (by kernel_rfl) (by kernel_rfl) ?_ ?_ ?_
  · exact List.forall_mem_cons.2 ⟨⟨⟨_, rfl⟩, fun _ _ _ _ _ => trivial, fun _ _ _ _ _ => trivial⟩, List.forall_mem_cons.2 ⟨⟨⟨_, rfl⟩, fun _ _ _ _ _ => trivial, fun _ _ _ _ _ => trivial⟩, List.forall_mem_cons.2 ⟨⟨⟨_, rfl⟩, fun _ _ _ _ _ => trivial, fun _ _ _ _ _ => trivial⟩, List.forall_mem_cons.2 ⟨⟨⟨_, rfl⟩, fun _ _ _ _ _ => trivial, fun _ _ _ _ _ => trivial⟩, List.forall_mem_cons.2 ⟨⟨⟨_, rfl⟩, fun _ _ _ _ _ => trivial, fun _ _ _ _ _ => trivial⟩, List.forall_mem_cons.2 ⟨⟨⟨_, rfl⟩, fun _ _ _ _ _ => trivial, fun _ _ _ _ _ => trivial⟩, List.forall_mem_cons.2 ⟨⟨⟨_, none, 0, rfl⟩, fun u v w h ht => by show (fun u w => IntsAt w (u 33).v qu : (Nat → GV) → World → Prop) v w; dsimp only; rw [← h 33 (.inl rfl) (by kernel_rfl)]; exact ht, fun u w w2 hx ht => ht.ext hx⟩, List.forall_mem_cons.2 ⟨⟨⟨_, none, 0, rfl⟩, fun u v w h ht => by show (fun u w => IntsAt w (u 37).v qu : (Nat → GV) → World → Prop) v w; dsimp only; rw [← h 37 (.inl rfl) (by kernel_rfl)]; exact ht, fun u w w2 hx ht => ht.ext hx⟩, List.forall_mem_cons.2 ⟨⟨⟨_, rfl⟩, fun _ _ _ _ _ => trivial, fun _ _ _ _ _ => trivial⟩, List.forall_mem_cons.2 ⟨⟨⟨_, h, rfl⟩, fun u v w h ht => by show (fun u w => StAt w (u 42).v s : (Nat → GV) → World → Prop) v w; dsimp only; rw [← h 42 (.inl rfl) (by kernel_rfl)]; exact ht, fun u w w2 hx ht => ht.ext hx⟩, List.forall_mem_cons.2 ⟨⟨⟨_, rfl⟩, fun _ _ _ _ _ => trivial, fun _ _ _ _ _ => trivial⟩, List.forall_mem_nil _⟩⟩⟩⟩⟩⟩⟩⟩⟩⟩⟩
  · first | assumption | exact Ext.refl _
  refine rg_mem (fun u => u = .bool true : Value → Prop) (fun _ _ => True : (Nat → GV) → World → Prop) (fun _ => Ext) rfl rfl rfl rfl (by kernel_rfl) (by kernel_rfl) (fun w hS hN R hR => ?_) ?_
  · have HR := Lib.hid hR
    clear hR
    (try clear hN)
    go_simp
    refine givesM_call ((tfixed_yes w).mono ?_)
    rintro e w' ⟨rfl, hx⟩
    exact ⟨_, rfl, HR.out _ _ rfl trivial hx⟩
  rintro u0 s0 t0 rfl
  refine rg_pure (v := ?_) rfl (by kernel_rfl) (by kernel_rfl) (fun w hS hN => ?_) ?_
  rotate_left 1
  · clear hN
    go_simp
    try simp only [hrn, hbb]
    refine givesP_mk ?_
    with_reducible rfl
  refine rg_pure (v := stV h1 rs) rfl (by kernel_rfl) (by kernel_rfl) (fun w hS hN => ?_) ?_
  · clear hN
    exact givesP_load 32 _ rfl _ (by go_simp) (stL h1 rs) _ rfl _ (range_row (hS.blk HBA4.out)) Try.underlying32 rfl (by kernel_rfl)
  refine rg_pure (v := stV h2 rs) rfl (by kernel_rfl) (by kernel_rfl) (fun w hS hN => ?_) ?_
  · clear hN
    exact givesP_load 32 _ rfl _ (by go_simp) (stL h2 rs) _ rfl _ (range_row (hS.blk HBF.out)) Try.underlying32 rfl (by kernel_rfl)
  refine rg_mem (fun u => u = .bool true : Value → Prop) (fun _ _ => True : (Nat → GV) → World → Prop) (fun _ => Ext) rfl rfl rfl rfl (by kernel_rfl) (by kernel_rfl) (fun w hS hN R hR => ?_) ?_
  · have HR := Lib.hid hR
    clear hR
    (try clear hN)
    go_simp
    refine givesM_call ((rstsame_any h1 h2 rs rs true (by simp) w (HKA4.out.ext hS) (HKF.out.ext hS) HRF.out.1 HRF.out.2).mono ?_)
    rintro e w' ⟨rfl, hx⟩
    exact ⟨_, rfl, HR.out _ _ rfl trivial hx⟩
  rintro u4 s4 t4 rfl
  refine rg_pure (v := ?_) rfl (by kernel_rfl) (by kernel_rfl) (fun w hS hN => ?_) ?_
  rotate_left 1
  · clear hN
    go_simp
    try simp only [hrn, hbb]
    refine givesP_mk ?_
    with_reducible rfl
  refine rg_pure (v := ?_) rfl (by kernel_rfl) (by kernel_rfl) (fun w hS hN => ?_) ?_
  rotate_left 1
  · clear hN
    go_simp
    try simp only [hrn, hbb]
    refine givesP_mk ?_
    with_reducible rfl
  refine rg_pure (v := ?_) rfl (by kernel_rfl) (by kernel_rfl) (fun w hS hN => ?_) ?_
  rotate_left 1
  · clear hN
    go_simp
    try simp only [hrn, hbb]
    refine givesP_mk ?_
    with_reducible rfl
  refine rg_pure (v := ?_) rfl (by kernel_rfl) (by kernel_rfl) (fun w hS hN => ?_) ?_
  rotate_left 1
  · clear hN
    go_simp
    try simp only [hrn, hbb]
    refine givesP_mk ?_
    with_reducible rfl
  refine rg_pure (v := ?_) rfl (by kernel_rfl) (by kernel_rfl) (fun w hS hN => ?_) ?_
  rotate_left 1
  · clear hN
    go_simp
    try simp only [hrn, hbb]
    refine givesP_mk ?_
    with_reducible rfl
  refine rg_pure (v := ?_) rfl (by kernel_rfl) (by kernel_rfl) (fun w hS hN => ?_) ?_
  rotate_left 1
  · clear hN
    go_simp
    try simp only [hrn, hbb]
    refine givesP_mk ?_
    with_reducible rfl
  refine rg_pure (v := ?_) rfl (by kernel_rfl) (by kernel_rfl) (fun w hS hN => ?_) ?_
  rotate_left 1
  · clear hN
    go_simp
    try simp only [hrn, hbb]
    refine givesP_mk ?_
    with_reducible rfl
  refine rg_pure (v := stV h s) rfl (by kernel_rfl) (by kernel_rfl) (fun w hS hN => ?_) ?_
  · clear hN
    exact givesP_load 32 _ rfl _ (by go_simp) (stL h s) _ rfl _ (range_row (hS.blk HBS.out)) Try.underlying32 rfl (by kernel_rfl)
  refine rg_mem (fun u => u = .bool bm : Value → Prop) (fun _ _ => True : (Nat → GV) → World → Prop) (fun _ => Ext) rfl rfl rfl rfl (by kernel_rfl) (by kernel_rfl) (fun w hS hN R hR => ?_) ?_
  · have HR := Lib.hid hR
    clear hR
    (try clear hN)
    go_simp
    refine givesM_call ((sstmay_any h s bm HBM.out w (HKS.out.ext hS) HF.out).mono ?_)
    rintro e w' ⟨rfl, hx⟩
    exact ⟨_, rfl, HR.out _ _ rfl trivial hx⟩
  rintro u13 s13 t13 rfl
  refine rg_pure (v := stV h s) rfl (by kernel_rfl) (by kernel_rfl) (fun w hS hN => ?_) ?_
  · clear hN
    exact givesP_load 32 _ rfl _ (by go_simp) (stL h s) _ rfl _ (range_row (hS.blk HBS.out)) Try.underlying32 rfl (by kernel_rfl)
  refine rg_mem (fun u => u = .bool bm : Value → Prop) (fun _ _ => True : (Nat → GV) → World → Prop) (fun _ => Ext) rfl rfl rfl rfl (by kernel_rfl) (by kernel_rfl) (fun w hS hN R hR => ?_) ?_
  · have HR := Lib.hid hR
    clear hR
    (try clear hN)
    go_simp
    refine givesM_call ((rstmay_any h s bm HBM.out w (HKS.out.ext hS) HF.out).mono ?_)
    rintro e w' ⟨rfl, hx⟩
    exact ⟨_, rfl, HR.out _ _ rfl trivial hx⟩
  rintro u15 s15 t15 rfl
  refine rg_pure (v := ?_) rfl (by kernel_rfl) (by kernel_rfl) (fun w hS hN => ?_) ?_
  rotate_left 1
  · clear hN
    go_simp
    try simp only [hrn, hbb]
    refine givesP_mk ?_
    with_reducible rfl
  refine rg_pure (v := ?_) rfl (by kernel_rfl) (by kernel_rfl) (fun w hS hN => ?_) ?_
  rotate_left 1
  · clear hN
    go_simp
    try simp only [hrn, hbb]
    refine givesP_mk ?_
    with_reducible rfl
  refine rg_pure (v := ?_) rfl (by kernel_rfl) (by kernel_rfl) (fun w hS hN => ?_) ?_
  rotate_left 1
  · clear hN
    go_simp
    try simp only [hrn, hbb]
    refine givesP_mk ?_
    with_reducible rfl
  refine rg_pure (v := stV h s) rfl (by kernel_rfl) (by kernel_rfl) (fun w hS hN => ?_) ?_
  · clear hN
    exact givesP_load 32 _ rfl _ (by go_simp) (stL h s) _ rfl _ (range_row (hS.blk HBS.out)) Try.underlying32 rfl (by kernel_rfl)
  refine rg_pure (v := ?_) rfl (by kernel_rfl) (by kernel_rfl) (fun w hS hN => ?_) ?_
  rotate_left 1
  · clear hN
    go_simp
    try simp only [hrn, hbb]
    refine givesP_mk ?_
    with_reducible rfl
  refine rg_pure (v := ?_) rfl (by kernel_rfl) (by kernel_rfl) (fun w hS hN => ?_) ?_
  rotate_left 1
  · have k1 : w.cell? ⟨B, 1, none⟩ = some (.int .i64 g) := blk_cell (hS.blk HBB4.out) 1 _ rfl
    clear hN
    go_simp
    try simp only [hrn, hbb]
    refine givesP_mk ?_
    with_reducible rfl
  refine rg_mem (fun u => u = .agg #[.int .i64 pa, .int .i64 pb] : Value → Prop) (fun _ _ => True : (Nat → GV) → World → Prop) (fun _ => Ext) rfl rfl rfl rfl (by kernel_rfl) (by kernel_rfl) (fun w hS hN R hR => ?_) ?_
  · have HR := Lib.hid hR
    clear hR
    (try clear hN)
    go_simp
    refine givesM_call ((sPlace_any h s g _ HPL.out w (HKS.out.ext hS) HF.out).mono ?_)
    rintro e w' ⟨rfl, hx⟩
    exact ⟨_, rfl, HR.out _ _ rfl trivial hx⟩
  rintro u22 s22 t22 rfl
  refine rg_pure (v := stV h s) rfl (by kernel_rfl) (by kernel_rfl) (fun w hS hN => ?_) ?_
  · clear hN
    exact givesP_load 32 _ rfl _ (by go_simp) (stL h s) _ rfl _ (range_row (hS.blk HBS.out)) Try.underlying32 rfl (by kernel_rfl)
  refine rg_pure (v := ?_) rfl (by kernel_rfl) (by kernel_rfl) (fun w hS hN => ?_) ?_
  rotate_left 1
  · clear hN
    go_simp
    try simp only [hrn, hbb]
    refine givesP_mk ?_
    with_reducible rfl
  refine rg_pure (v := ?_) rfl (by kernel_rfl) (by kernel_rfl) (fun w hS hN => ?_) ?_
  rotate_left 1
  · have k1 : w.cell? ⟨B, 1, none⟩ = some (.int .i64 g) := blk_cell (hS.blk HBB4.out) 1 _ rfl
    clear hN
    go_simp
    try simp only [hrn, hbb]
    refine givesP_mk ?_
    with_reducible rfl
  refine rg_mem (fun u => u = .agg #[.int .i64 pa, .int .i64 pb] : Value → Prop) (fun _ _ => True : (Nat → GV) → World → Prop) (fun _ => Ext) rfl rfl rfl rfl (by kernel_rfl) (by kernel_rfl) (fun w hS hN R hR => ?_) ?_
  · have HR := Lib.hid hR
    clear hR
    (try clear hN)
    go_simp
    refine givesM_call ((rPlace_any h s g _ HPL.out w (HKS.out.ext hS) HF.out).mono ?_)
    rintro e w' ⟨rfl, hx⟩
    exact ⟨_, rfl, HR.out _ _ rfl trivial hx⟩
  rintro u26 s26 t26 rfl
  refine rg_pure (v := ?_) rfl (by kernel_rfl) (by kernel_rfl) (fun w hS hN => ?_) ?_
  rotate_left 1
  · clear hN
    go_simp
    try simp only [hrn, hbb]
    refine givesP_mk ?_
    with_reducible rfl
  refine rg_pure (v := ?_) rfl (by kernel_rfl) (by kernel_rfl) (fun w hS hN => ?_) ?_
  rotate_left 1
  · clear hN
    go_simp
    try simp only [hrn, hbb]
    refine givesP_mk ?_
    with_reducible rfl
  refine rg_pure (v := ?_) rfl (by kernel_rfl) (by kernel_rfl) (fun w hS hN => ?_) ?_
  rotate_left 1
  · clear hN
    go_simp
    try simp only [hrn, hbb]
    refine givesP_mk ?_
    with_reducible rfl
  refine rg_pure (v := stV h s) rfl (by kernel_rfl) (by kernel_rfl) (fun w hS hN => ?_) ?_
  · clear hN
    exact givesP_load 32 _ rfl _ (by go_simp) (stL h s) _ rfl _ (range_row (hS.blk HBS.out)) Try.underlying32 rfl (by kernel_rfl)
  refine rg_pure (v := ?_) rfl (by kernel_rfl) (by kernel_rfl) (fun w hS hN => ?_) ?_
  rotate_left 1
  · clear hN
    go_simp
    try simp only [hrn, hbb]
    refine givesP_mk ?_
    with_reducible rfl
  refine rg_pure (v := ?_) rfl (by kernel_rfl) (by kernel_rfl) (fun w hS hN => ?_) ?_
  rotate_left 1
  · have k1 : w.cell? ⟨B, 2, none⟩ = some (.int .i64 n) := blk_cell (hS.blk HBB4.out) 2 _ rfl
    clear hN
    go_simp
    try simp only [hrn, hbb]
    refine givesP_mk ?_
    with_reducible rfl
  refine rg_mem (fun u => ∃ A c, u = .slice A qu.length c : Value → Prop) (fun u w => IntsAt w (u 33).v qu : (Nat → GV) → World → Prop) (fun _ => Ext) rfl rfl rfl rfl (by kernel_rfl) (by kernel_rfl) (fun w hS hN R hR => ?_) ?_
  · have HR := Lib.hid hR
    clear hR
    (try clear hN)
    go_simp
    refine givesM_call ((sQueue_any h s n qu HQU.out w (HKS.out.ext hS) HF.out).mono ?_)
    rintro e w' ⟨A3, c3, rfl, ho, hx⟩
    exact ⟨_, rfl, HR.out _ _ ⟨_, _, rfl⟩ ho.at.2 hx⟩
  rintro u33 s33 t33 ⟨A33, c33, rfl⟩
  refine rg_pure (v := stV h s) rfl (by kernel_rfl) (by kernel_rfl) (fun w hS hN => ?_) ?_
  · clear hN
    exact givesP_load 32 _ rfl _ (by go_simp) (stL h s) _ rfl _ (range_row (hS.blk HBS.out)) Try.underlying32 rfl (by kernel_rfl)
  refine rg_pure (v := ?_) rfl (by kernel_rfl) (by kernel_rfl) (fun w hS hN => ?_) ?_
  rotate_left 1
  · clear hN
    go_simp
    try simp only [hrn, hbb]
    refine givesP_mk ?_
    with_reducible rfl
  refine rg_pure (v := ?_) rfl (by kernel_rfl) (by kernel_rfl) (fun w hS hN => ?_) ?_
  rotate_left 1
  · have k1 : w.cell? ⟨B, 2, none⟩ = some (.int .i64 n) := blk_cell (hS.blk HBB4.out) 2 _ rfl
    clear hN
    go_simp
    try simp only [hrn, hbb]
    refine givesP_mk ?_
    with_reducible rfl
  refine rg_mem (fun u => ∃ A c, u = .slice A qu.length c : Value → Prop) (fun u w => IntsAt w (u 37).v qu : (Nat → GV) → World → Prop) (fun _ => Ext) rfl rfl rfl rfl (by kernel_rfl) (by kernel_rfl) (fun w hS hN R hR => ?_) ?_
  · have HR := Lib.hid hR
    clear hR
    (try clear hN)
    go_simp
    refine givesM_call ((rQueue_any h s n qu HQU.out w (HKS.out.ext hS) HF.out).mono ?_)
    rintro e w' ⟨A3, c3, rfl, ho, hx⟩
    exact ⟨_, rfl, HR.out _ _ ⟨_, _, rfl⟩ ho.at.2 hx⟩
  rintro u37 s37 t37 ⟨A37, c37, rfl⟩
  refine rg_mem (fun u => u = .bool true : Value → Prop) (fun _ _ => True : (Nat → GV) → World → Prop) (fun _ => Ext) rfl rfl rfl rfl (by kernel_rfl) (by kernel_rfl) (fun w hS hN R hR => ?_) ?_
  · have HR := Lib.hid hR
    clear hR
    have i1 : IntsAt w (.slice A33 qu.length c33) qu := hN.get 33 rfl (by kernel_rfl)
    have i2 : IntsAt w (.slice A37 qu.length c37) qu := hN.get 37 rfl (by kernel_rfl)
    (try clear hN)
    go_simp
    refine givesM_call ((rints_eq _ _ qu qu true (by simp) w i1 i2 HQL.out).mono ?_)
    rintro e w' ⟨rfl, hx⟩
    exact ⟨_, rfl, HR.out _ _ rfl trivial hx⟩
  rintro u38 s38 t38 rfl
  refine rg_pure (v := ?_) rfl (by kernel_rfl) (by kernel_rfl) (fun w hS hN => ?_) ?_
  rotate_left 1
  · clear hN
    go_simp
    try simp only [hrn, hbb]
    refine givesP_mk ?_
    with_reducible rfl
  refine rg_pure (v := ?_) rfl (by kernel_rfl) (by kernel_rfl) (fun w hS hN => ?_) ?_
  rotate_left 1
  · clear hN
    go_simp
    try simp only [hrn, hbb]
    refine givesP_mk ?_
    with_reducible rfl
  refine rg_pure (v := stV h s) rfl (by kernel_rfl) (by kernel_rfl) (fun w hS hN => ?_) ?_
  · clear hN
    exact givesP_load 32 _ rfl _ (by go_simp) (stL h s) _ rfl _ (range_row (hS.blk HBS.out)) Try.underlying32 rfl (by kernel_rfl)
  refine rg_mem (fun u => ∃ h', u = stV h' s : Value → Prop) (fun u w => StAt w (u 42).v s : (Nat → GV) → World → Prop) (fun _ => Ext) rfl rfl rfl rfl (by kernel_rfl) (by kernel_rfl) (fun w hS hN R hR => ?_) ?_
  · have HR := Lib.hid hR
    clear hR
    (try clear hN)
    go_simp
    refine givesM_call ((sCopy_any h s w (HKS.out.ext hS) HF.out).mono ?_)
    rintro e w' ⟨h', L, rfl, ho, hL, hx⟩
    exact ⟨_, rfl, HR.out _ _ ⟨_, rfl⟩ ⟨h', rfl, ho.ok HKS.out.buf⟩ hx⟩
  rintro u42 s42 t42 ⟨h42, rfl⟩
  refine rg_pure (v := stV h s) rfl (by kernel_rfl) (by kernel_rfl) (fun w hS hN => ?_) ?_
  · clear hN
    exact givesP_load 32 _ rfl _ (by go_simp) (stL h s) _ rfl _ (range_row (hS.blk HBS.out)) Try.underlying32 rfl (by kernel_rfl)
  refine rg_mem (fun u => u = .bool true : Value → Prop) (fun _ _ => True : (Nat → GV) → World → Prop) (fun _ => Ext) rfl rfl rfl rfl (by kernel_rfl) (by kernel_rfl) (fun w hS hN R hR => ?_) ?_
  · have HR := Lib.hid hR
    clear hR
    obtain ⟨hh, he, hk⟩ : StAt w (stV h42 s) s := hN.get 42 rfl (by kernel_rfl)
    (try clear hN)
    go_simp
    refine givesM_call ((rstsame_any hh h s s true (by simp) w hk (HKS.out.ext hS) HF.out HT9.out).mono ?_)
    rintro e w' ⟨rfl, hx⟩
    exact ⟨_, rfl, HR.out _ _ rfl trivial hx⟩
  rintro u44 s44 t44 rfl
  refine rg_pure (v := ?_) rfl (by kernel_rfl) (by kernel_rfl) (fun w hS hN => ?_) ?_
  rotate_left 1
  · clear hN
    go_simp
    try simp only [hrn, hbb]
    refine givesP_mk ?_
    with_reducible rfl
  refine rg_pure (v := ?_) rfl (by kernel_rfl) (by kernel_rfl) (fun w hS hN => ?_) ?_
  rotate_left 1
  · clear hN
    go_simp
    try simp only [hrn, hbb]
    refine givesP_mk ?_
    with_reducible rfl
  refine rg_done rfl (Nat.le_of_ble_eq_true (by kernel_rfl)) ?_
  intro w8 hS hT
  have HX8 := Lib.hid (HX1.out.trans (HX4.out.trans hS))
  clear hT hS hq
  go_simp
  go_wp2
  go_ret
  exact ⟨rfl, HX8.out⟩
end Go.Proofs.Ytbcclhahpcbadaa
