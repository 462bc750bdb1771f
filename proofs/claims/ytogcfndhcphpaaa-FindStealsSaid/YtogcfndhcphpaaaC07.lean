/-
  Several texts in one: Th, Tu, Tv, Tm, Ti.
-/
import Derived.Test.YtogcfndhcphpaaaC06
import Derived.Test.YtogcfndhcphpaaaC04
import Derived.Test.YtogcfndhcphpaaaC05
import Derived.Test.YtogcfndhcphpaaaC01
set_option linter.unusedVariables false
set_option linter.unusedSimpArgs false
namespace Go.Proofs.Ytogcfndhcphpaaa
open Go.RowKit
theorem St.runs_len {s : St} (hf : StFew s) : s.runs.length ≤ 1000000 := by
  unfold St.runs
  have := flatMap_len9 s.ps
  have h1 := hf.ps
  have h2 := hf.glob
  rw [List.length_append]
  omega
theorem St.waiters_len {s : St} (hf : StFew s) : s.waiters.length ≤ 1000000 := by
  unfold St.waiters St.waits
  have h1 := hf.timers
  obtain ⟨a, b, c, d⟩ := hf.w
  simp only [List.length_append, List.length_map]
  omega
theorem St.onM_len {s : St} (hf : StFew s) (b : Bool) : (s.onM b).length ≤ 1000000 := by
  unfold St.onM
  rw [List.length_map]
  have := List.length_filter_le (fun m : Int × Int => m.2 != 0 && ((m.1 != 0) == b)) s.ms
  have h1 := hf.ms
  omega
theorem stands_eq {s : St} {i : Nat} {g : Gr} {na nb nc nd : Nat} (ha : St.times s.runs (i + 1) = na) (hb : St.times s.waiters (i + 1) = nb) (hc : St.times (s.onM true) (i + 1) = nc) (hd : St.times (s.onM false) (i + 1) = nd) :
    s.stands i g = (decide (1 ≤ g.st ∧ g.st ≤ 5) && decide (na = St.want g.st 1 ∧ nc = St.want g.st 2 ∧ nb = St.want g.st 3 ∧ nd = St.want g.st 4) &&
      (if g.st ≠ 2 ∧ g.st ≠ 4 then decide (g.m = 0) else decide (1 ≤ g.m ∧ g.m ≤ s.ms.length) && decide ((s.ms.getD (g.m - 1).toNat (0, 0)).2 = i + 1))) := by
  unfold St.stands; rw [ha, hb, hc, hd]
theorem st16 {v : World} {b : Nat} {h : StH} {s : St} {T : TypeId} (hb : v.heap[b]? = some (.cells (stC h s) T (0, 0))) :
    ((v.cell? ⟨b, 0, none⟩ = some (.slice h.pa s.prog.length h.pc) ∧ v.cell? ⟨b, 1, none⟩ = some (.slice h.ga s.gs.length h.gc) ∧ v.cell? ⟨b, 2, none⟩ = some (.slice h.qa s.ps.length h.qc) ∧ v.cell? ⟨b, 3, none⟩ = some (.slice h.ma s.ms.length h.mc)) ∧
      v.cell? ⟨b, 4, none⟩ = some (.slice h.la s.glob.length h.lc) ∧ v.cell? ⟨b, 5, none⟩ = some (.int .i64 s.c0) ∧ v.cell? ⟨b, 6, none⟩ = some (.int .i64 s.c1) ∧ v.cell? ⟨b, 7, none⟩ = some (.int .i64 s.c2)) ∧
    (v.cell? ⟨b, 8, none⟩ = some (.int .i64 s.c3) ∧ v.cell? ⟨b, 9, none⟩ = some (.slice h.a0 s.w0.length h.k0) ∧ v.cell? ⟨b, 10, none⟩ = some (.slice h.a1 s.w1.length h.k1) ∧ v.cell? ⟨b, 11, none⟩ = some (.slice h.a2 s.w2.length h.k2)) ∧
      v.cell? ⟨b, 12, none⟩ = some (.slice h.a3 s.w3.length h.k3) ∧ v.cell? ⟨b, 13, none⟩ = some (.slice h.ta s.timers.length h.tc) ∧ v.cell? ⟨b, 14, none⟩ = some (.int .i64 s.clock) ∧ v.cell? ⟨b, 15, none⟩ = some (.int .i64 s.procs) :=
  ⟨⟨⟨st0 hb, st1 hb, st2 hb, st3 hb⟩, st4 hb, st5 hb, st6 hb, st7 hb⟩, ⟨st8 hb, st9 hb, st10 hb, st11 hb⟩, st12 hb, st13 hb, st14 hb, st15 hb⟩
set_option maxRecDepth 100000 in
set_option maxHeartbeats 16000000 in
theorem rstands_any (h : StH) (s : St) (k : Nat) (g : Gr) (hg : s.gs[k]? = some g) (r : Bool) (hr : s.stands k g = r) (w : World) (hk : StOk w h s) (hf : StFew s) : Calls Try.prog 81 #[stV h s, .int .i64 ((k : Int) + 1)] w fun e w' => e = .returned (.bool r) ∧ Ext w w' := by
  subst hr
  have f1 := hf.gs
  have f2 := hf.ms
  have HF := Lib.hid hf
  have hlt : k < s.gs.length := (List.getElem?_eq_some_iff.1 hg).1
  have hkb : (k : Int) < (s.gs.length : Int) := by omega
  have HK := Lib.hid hk
  obtain ⟨w1, hw1⟩ : ∃ w1, w.alloc (.cells #[.slice h.pa s.prog.length h.pc, .slice h.ga s.gs.length h.gc, .slice h.qa s.ps.length h.qc, .slice h.ma s.ms.length h.mc, .slice h.la s.glob.length h.lc, .int .i64 s.c0, .int .i64 s.c1, .int .i64 s.c2, .int .i64 s.c3, .slice h.a0 s.w0.length h.k0, .slice h.a1 s.w1.length h.k1, .slice h.a2 s.w2.length h.k2, .slice h.a3 s.w3.length h.k3, .slice h.ta s.timers.length h.tc, .int .i64 s.clock, .int .i64 s.procs] 32) = w1 := ⟨_, rfl⟩
  have HX1 : Hid (Ext w w1) := Lib.hid (by rw [← hw1]; exact (Ext.refl w).alloc _)
  have HB1 : Hid (w1.heap[w.heap.size]? = some (.cells (stC h s) 32 (0, 0))) := Lib.hid (by rw [← hw1]; exact blk_new w _)
  have HK1 := Lib.hid (hk.ext HX1.out)
  have HW1 := Lib.hid hw1
  clear hw1 hk
  clear hf
  obtain ⟨na, hna⟩ : ∃ na, St.times s.runs ((k : Int) + 1) = na := ⟨_, rfl⟩
  obtain ⟨nb, hnb⟩ : ∃ nb, St.times s.waiters ((k : Int) + 1) = nb := ⟨_, rfl⟩
  obtain ⟨nc, hnc⟩ : ∃ nc, St.times (s.onM true) ((k : Int) + 1) = nc := ⟨_, rfl⟩
  obtain ⟨nd, hnd⟩ : ∃ nd, St.times (s.onM false) ((k : Int) + 1) = nd := ⟨_, rfl⟩
  have HST := Lib.hid (stands_eq (g := g) hna hnb hnc hnd)
  have Hna := Lib.hid hna
  have Hnb := Lib.hid hnb
  have Hnc := Lib.hid hnc
  have Hnd := Lib.hid hnd
  have HLna := Lib.hid (St.runs_len HF.out)
  have HLnb := Lib.hid (St.waiters_len HF.out)
  have HLnc := Lib.hid (St.onM_len HF.out true)
  have HLnd := Lib.hid (St.onM_len HF.out false)
  obtain ⟨b, o, hA, hb, p0, p1, p2, p3, p4⟩ := gs_get HK1.out.gs hg
  obtain ⟨fn, pc, st, m, sq⟩ := g
  simp only at p0 p1 p2 p3 p4
  obtain ⟨w3, hw3⟩ : ∃ w3, w1.alloc (.cells #[.int .i64 fn, .int .i64 pc, .int .i64 st, .int .i64 m, .int .i64 sq] 55) = w3 := ⟨_, rfl⟩
  have HW3 := Lib.hid hw3
  have HX3 : Hid (Ext w1 w3) := Lib.hid (by rw [← hw3]; exact (Ext.refl w1).alloc _)
  have HQ3 : Hid (w3.heap[w1.heap.size]? = some (.cells #[.int .i64 fn, .int .i64 pc, .int .i64 st, .int .i64 m, .int .i64 sq] 55 (0, 0))) := Lib.hid (by rw [← hw3]; exact blk_new w1 _)
  have q1 := st1 HB1.out
  have e1 : (k : Int) + 1 - 1 = (k : Int) := by omega
  have HA := Lib.hid hA
  clear hg hb hw3 hna hnb hnc hnd hA
  unfold stV
  go_enter Try.func81, Try.ntmps81
  go_upto_region 1 with fail
  rw [HW1.out]
  generalize Value.agg #[.slice h.pa s.prog.length h.pc, .slice h.ga s.gs.length h.gc, .slice h.qa s.ps.length h.qc, .slice h.ma s.ms.length h.mc, .slice h.la s.glob.length h.lc, .int .i64 s.c0, .int .i64 s.c1, .int .i64 s.c2, .int .i64 s.c3, .slice h.a0 s.w0.length h.k0, .slice h.a1 s.w1.length h.k1, .slice h.a2 s.w2.length h.k2, .slice h.a3 s.w3.length h.k3, .slice h.ta s.timers.length h.tc, .int .i64 s.clock, .int .i64 s.procs] = sv0
  have hA := HA.out
  go_upto_region 2 with fail
  rw [HW3.out]
  clear q1 hA p0 p1 p2 p3 p4
  refine region_rgx ([(1, (fun u => ∃ A c, u = .slice A s.runs.length c : Value → Prop), (fun u w => IntsAt w (u 1).v s.runs : (Nat → GV) → World → Prop)), (3, (fun u => u = .int .i64 (na : Nat) : Value → Prop), (fun _ _ => True : (Nat → GV) → World → Prop)), (5, (fun u => ∃ A c, u = .slice A s.waiters.length c : Value → Prop), (fun u w => IntsAt w (u 5).v s.waiters : (Nat → GV) → World → Prop)), (7, (fun u => u = .int .i64 (nb : Nat) : Value → Prop), (fun _ _ => True : (Nat → GV) → World → Prop))]) (w3) (by kernel_rfl) (by kernel_rfl) ?_ ?_ ?_
  · exact List.forall_mem_cons.2 ⟨⟨⟨_, none, 0, rfl⟩, fun u v w h ht => by show (fun u w => IntsAt w (u 1).v s.runs : (Nat → GV) → World → Prop) v w; dsimp only; rw [← h 1 (.inl rfl) (by kernel_rfl)]; exact ht, fun u w w2 hx ht => ht.ext hx⟩, List.forall_mem_cons.2 ⟨⟨⟨_, rfl⟩, fun _ _ _ _ _ => trivial, fun _ _ _ _ _ => trivial⟩, List.forall_mem_cons.2 ⟨⟨⟨_, none, 0, rfl⟩, fun u v w h ht => by show (fun u w => IntsAt w (u 5).v s.waiters : (Nat → GV) → World → Prop) v w; dsimp only; rw [← h 5 (.inl rfl) (by kernel_rfl)]; exact ht, fun u w w2 hx ht => ht.ext hx⟩, List.forall_mem_cons.2 ⟨⟨⟨_, rfl⟩, fun _ _ _ _ _ => trivial, fun _ _ _ _ _ => trivial⟩, List.forall_mem_nil _⟩⟩⟩⟩
  · first | assumption | exact Ext.refl _
  refine rg_pure (v := stV h s) rfl (by kernel_rfl) (by kernel_rfl) (fun w hS hN => ?_) ?_
  · clear hN
    exact givesP_load 32 _ rfl _ (by go_simp) (stL h s) _ rfl _ (range_row ((HX3.out.trans hS).blk HB1.out)) Try.underlying32 rfl (by kernel_rfl)
  refine rg_mem (fun u => ∃ A c, u = .slice A s.runs.length c : Value → Prop) (fun u w => IntsAt w (u 1).v s.runs : (Nat → GV) → World → Prop) (fun _ => Ext) rfl rfl rfl rfl (by kernel_rfl) (by kernel_rfl) (fun w hS hN R hR => ?_) ?_
  · have HR := Lib.hid hR
    clear hR
    (try clear hN)
    go_simp
    refine givesM_call ((rruns_any h s w (HK1.out.ext (HX3.out.trans hS)) HF.out).mono ?_)
    rintro e w' ⟨A, c, rfl, ho, hx⟩
    exact ⟨_, rfl, HR.out _ _ ⟨_, _, rfl⟩ ho.at.2 hx⟩
  rintro u1 s1 t1 ⟨A1, c1, rfl⟩
  refine rg_pure (v := ?_) rfl (by kernel_rfl) (by kernel_rfl) (fun w hS hN => ?_) ?_
  rotate_left 1
  · clear hN
    go_simp
    refine givesP_mk ?_
    with_reducible rfl
  refine rg_mem (fun u => u = .int .i64 (na : Nat) : Value → Prop) (fun _ _ => True : (Nat → GV) → World → Prop) (fun _ => Ext) rfl rfl rfl rfl (by kernel_rfl) (by kernel_rfl) (fun w hS hN R hR => ?_) ?_
  · have HR := Lib.hid hR
    clear hR
    have h1 : IntsAt w (.slice A1 s.runs.length c1) s.runs := hN.get 1 rfl (by kernel_rfl)
    clear hN
    (try clear hN)
    go_simp
    refine givesM_call ((rtimes_any (.slice A1 s.runs.length c1) s.runs ((k : Int) + 1) w h1 (by have := HLna.out; omega)).mono ?_)
    rintro e w' ⟨rfl, rfl⟩
    exact ⟨_, rfl, HR.out _ _ (by rw [Hna.out]) trivial (Ext.refl _)⟩
  rintro u3 s3 t3 rfl
  refine rg_pure (v := stV h s) rfl (by kernel_rfl) (by kernel_rfl) (fun w hS hN => ?_) ?_
  · clear hN
    exact givesP_load 32 _ rfl _ (by go_simp) (stL h s) _ rfl _ (range_row ((HX3.out.trans hS).blk HB1.out)) Try.underlying32 rfl (by kernel_rfl)
  refine rg_mem (fun u => ∃ A c, u = .slice A s.waiters.length c : Value → Prop) (fun u w => IntsAt w (u 5).v s.waiters : (Nat → GV) → World → Prop) (fun _ => Ext) rfl rfl rfl rfl (by kernel_rfl) (by kernel_rfl) (fun w hS hN R hR => ?_) ?_
  · have HR := Lib.hid hR
    clear hR
    (try clear hN)
    go_simp
    refine givesM_call ((rwaiters_any h s w (HK1.out.ext (HX3.out.trans hS)) HF.out).mono ?_)
    rintro e w' ⟨A, c, rfl, ho, hx⟩
    exact ⟨_, rfl, HR.out _ _ ⟨_, _, rfl⟩ ho.at.2 hx⟩
  rintro u5 s5 t5 ⟨A5, c5, rfl⟩
  refine rg_pure (v := ?_) rfl (by kernel_rfl) (by kernel_rfl) (fun w hS hN => ?_) ?_
  rotate_left 1
  · clear hN
    go_simp
    refine givesP_mk ?_
    with_reducible rfl
  refine rg_mem (fun u => u = .int .i64 (nb : Nat) : Value → Prop) (fun _ _ => True : (Nat → GV) → World → Prop) (fun _ => Ext) rfl rfl rfl rfl (by kernel_rfl) (by kernel_rfl) (fun w hS hN R hR => ?_) ?_
  · have HR := Lib.hid hR
    clear hR
    have h5 : IntsAt w (.slice A5 s.waiters.length c5) s.waiters := hN.get 5 rfl (by kernel_rfl)
    clear hN
    (try clear hN)
    go_simp
    refine givesM_call ((rtimes_any (.slice A5 s.waiters.length c5) s.waiters ((k : Int) + 1) w h5 (by have := HLnb.out; omega)).mono ?_)
    rintro e w' ⟨rfl, rfl⟩
    exact ⟨_, rfl, HR.out _ _ (by rw [Hnb.out]) trivial (Ext.refl _)⟩
  rintro u7 s7 t7 rfl
  refine rg_pure (v := ?_) rfl (by kernel_rfl) (by kernel_rfl) (fun w hS hN => ?_) ?_
  rotate_left 1
  · clear hN
    go_simp
    refine givesP_mk ?_
    with_reducible rfl
  refine rg_pure (v := ?_) rfl (by kernel_rfl) (by kernel_rfl) (fun w hS hN => ?_) ?_
  rotate_left 1
  · clear hN
    go_simp
    refine givesP_mk ?_
    with_reducible rfl
  refine rg_done rfl (Nat.le_of_ble_eq_true (by kernel_rfl)) ?_
  intro w4 hS4 hT4
  have HX4 := Lib.hid (HX3.out.trans hS4)
  have HQ4 := Lib.hid (hS4.blk HQ3.out)
  clear hT4 hS4
  go_simp
  go_upto_region 3 with fail
  refine region_rgx ([(1, (fun u => ∃ A c, u = .slice A (s.onM true).length c : Value → Prop), (fun u w => IntsAt w (u 1).v (s.onM true) : (Nat → GV) → World → Prop)), (3, (fun u => u = .int .i64 (nc : Nat) : Value → Prop), (fun _ _ => True : (Nat → GV) → World → Prop)), (5, (fun u => ∃ A c, u = .slice A (s.onM false).length c : Value → Prop), (fun u w => IntsAt w (u 5).v (s.onM false) : (Nat → GV) → World → Prop)), (7, (fun u => u = .int .i64 (nd : Nat) : Value → Prop), (fun _ _ => True : (Nat → GV) → World → Prop))]) (w4) (by kernel_rfl) (by kernel_rfl) ?_ ?_ ?_
  · exact List.forall_mem_cons.2 ⟨⟨⟨_, none, 0, rfl⟩, fun u v w h ht => by show (fun u w => IntsAt w (u 1).v (s.onM true) : (Nat → GV) → World → Prop) v w; dsimp only; rw [← h 1 (.inl rfl) (by kernel_rfl)]; exact ht, fun u w w2 hx ht => ht.ext hx⟩, List.forall_mem_cons.2 ⟨⟨⟨_, rfl⟩, fun _ _ _ _ _ => trivial, fun _ _ _ _ _ => trivial⟩, List.forall_mem_cons.2 ⟨⟨⟨_, none, 0, rfl⟩, fun u v w h ht => by show (fun u w => IntsAt w (u 5).v (s.onM false) : (Nat → GV) → World → Prop) v w; dsimp only; rw [← h 5 (.inl rfl) (by kernel_rfl)]; exact ht, fun u w w2 hx ht => ht.ext hx⟩, List.forall_mem_cons.2 ⟨⟨⟨_, rfl⟩, fun _ _ _ _ _ => trivial, fun _ _ _ _ _ => trivial⟩, List.forall_mem_nil _⟩⟩⟩⟩
  · first | assumption | exact Ext.refl _
  refine rg_pure (v := stV h s) rfl (by kernel_rfl) (by kernel_rfl) (fun w hS hN => ?_) ?_
  · clear hN
    exact givesP_load 32 _ rfl _ (by go_simp) (stL h s) _ rfl _ (range_row ((HX4.out.trans hS).blk HB1.out)) Try.underlying32 rfl (by kernel_rfl)
  refine rg_mem (fun u => ∃ A c, u = .slice A (s.onM true).length c : Value → Prop) (fun u w => IntsAt w (u 1).v (s.onM true) : (Nat → GV) → World → Prop) (fun _ => Ext) rfl rfl rfl rfl (by kernel_rfl) (by kernel_rfl) (fun w hS hN R hR => ?_) ?_
  · have HR := Lib.hid hR
    clear hR
    (try clear hN)
    go_simp
    refine givesM_call ((ronM_any h s true w (HK1.out.ext (HX4.out.trans hS)) HF.out).mono ?_)
    rintro e w' ⟨A, c, rfl, ho, hx⟩
    exact ⟨_, rfl, HR.out _ _ ⟨_, _, rfl⟩ ho.at.2 hx⟩
  rintro u1 s1 t1 ⟨A1, c1, rfl⟩
  refine rg_pure (v := ?_) rfl (by kernel_rfl) (by kernel_rfl) (fun w hS hN => ?_) ?_
  rotate_left 1
  · clear hN
    go_simp
    refine givesP_mk ?_
    with_reducible rfl
  refine rg_mem (fun u => u = .int .i64 (nc : Nat) : Value → Prop) (fun _ _ => True : (Nat → GV) → World → Prop) (fun _ => Ext) rfl rfl rfl rfl (by kernel_rfl) (by kernel_rfl) (fun w hS hN R hR => ?_) ?_
  · have HR := Lib.hid hR
    clear hR
    have h1 : IntsAt w (.slice A1 (s.onM true).length c1) (s.onM true) := hN.get 1 rfl (by kernel_rfl)
    clear hN
    (try clear hN)
    go_simp
    refine givesM_call ((rtimes_any (.slice A1 (s.onM true).length c1) (s.onM true) ((k : Int) + 1) w h1 (by have := HLnc.out; omega)).mono ?_)
    rintro e w' ⟨rfl, rfl⟩
    exact ⟨_, rfl, HR.out _ _ (by rw [Hnc.out]) trivial (Ext.refl _)⟩
  rintro u3 s3 t3 rfl
  refine rg_pure (v := stV h s) rfl (by kernel_rfl) (by kernel_rfl) (fun w hS hN => ?_) ?_
  · clear hN
    exact givesP_load 32 _ rfl _ (by go_simp) (stL h s) _ rfl _ (range_row ((HX4.out.trans hS).blk HB1.out)) Try.underlying32 rfl (by kernel_rfl)
  refine rg_mem (fun u => ∃ A c, u = .slice A (s.onM false).length c : Value → Prop) (fun u w => IntsAt w (u 5).v (s.onM false) : (Nat → GV) → World → Prop) (fun _ => Ext) rfl rfl rfl rfl (by kernel_rfl) (by kernel_rfl) (fun w hS hN R hR => ?_) ?_
  · have HR := Lib.hid hR
    clear hR
    (try clear hN)
    go_simp
    refine givesM_call ((ronM_any h s false w (HK1.out.ext (HX4.out.trans hS)) HF.out).mono ?_)
    rintro e w' ⟨A, c, rfl, ho, hx⟩
    exact ⟨_, rfl, HR.out _ _ ⟨_, _, rfl⟩ ho.at.2 hx⟩
  rintro u5 s5 t5 ⟨A5, c5, rfl⟩
  refine rg_pure (v := ?_) rfl (by kernel_rfl) (by kernel_rfl) (fun w hS hN => ?_) ?_
  rotate_left 1
  · clear hN
    go_simp
    refine givesP_mk ?_
    with_reducible rfl
  refine rg_mem (fun u => u = .int .i64 (nd : Nat) : Value → Prop) (fun _ _ => True : (Nat → GV) → World → Prop) (fun _ => Ext) rfl rfl rfl rfl (by kernel_rfl) (by kernel_rfl) (fun w hS hN R hR => ?_) ?_
  · have HR := Lib.hid hR
    clear hR
    have h5 : IntsAt w (.slice A5 (s.onM false).length c5) (s.onM false) := hN.get 5 rfl (by kernel_rfl)
    clear hN
    (try clear hN)
    go_simp
    refine givesM_call ((rtimes_any (.slice A5 (s.onM false).length c5) (s.onM false) ((k : Int) + 1) w h5 (by have := HLnd.out; omega)).mono ?_)
    rintro e w' ⟨rfl, rfl⟩
    exact ⟨_, rfl, HR.out _ _ (by rw [Hnd.out]) trivial (Ext.refl _)⟩
  rintro u7 s7 t7 rfl
  refine rg_pure (v := ?_) rfl (by kernel_rfl) (by kernel_rfl) (fun w hS hN => ?_) ?_
  rotate_left 1
  · clear hN
    go_simp
    refine givesP_mk ?_
    with_reducible rfl
  refine rg_pure (v := ?_) rfl (by kernel_rfl) (by kernel_rfl) (fun w hS hN => ?_) ?_
  rotate_left 1
  · clear hN
    go_simp
    refine givesP_mk ?_
    with_reducible rfl
  refine rg_done rfl (Nat.le_of_ble_eq_true (by kernel_rfl)) ?_
  intro w5 hS5 hT5
  have HX5 := Lib.hid (HX4.out.trans hS5)
  have HQ5 := Lib.hid (hS5.blk HQ4.out)
  clear hT5 hS5
  go_simp
  obtain ⟨w6, hw6⟩ : ∃ w6, w5.alloc (.cells #[.int .i64 0, .int .i64 0, .int .i64 0, .int .i64 0, .int .i64 0] 129) = w6 := ⟨_, rfl⟩
  have HW6 := Lib.hid hw6
  have HX6 : Hid (Ext w1 w6) := Lib.hid (by rw [← hw6]; exact HX5.out.alloc _)
  have HQ6 : Hid (w6.heap[w1.heap.size]? = some (.cells #[.int .i64 fn, .int .i64 pc, .int .i64 st, .int .i64 m, .int .i64 sq] 55 (0, 0))) := Lib.hid (by rw [← hw6]; exact blk_alloc HQ5.out _)
  have HQW : Hid (w6.heap[w5.heap.size]? = some (.cells #[.int .i64 0, .int .i64 0, .int .i64 0, .int .i64 0, .int .i64 0] 129 (0, 0))) := Lib.hid (by rw [← hw6]; exact blk_new w5 _)
  have HS5 : Hid (w1.heap.size ≤ w5.heap.size ∧ w1.heap.size < w5.heap.size) := Lib.hid ⟨HX5.out.size, blk_lt HQ5.out⟩
  clear hw6
  go_upto_region 5 with fail
  rw [HW6.out]
  have z2 := blk_cell HQ6.out 2 _ rfl
  by_cases s1 : st < 1
  · have HNO : Hid (s.stands k ⟨fn, pc, st, m, sq⟩ = false) := Lib.hid (by rw [HST.out, decide_eq_false (by simp only; omega)]; rfl)
    go_wp2
    (go_ret; exact ⟨by rw [HNO.out] <;> rfl, HX1.out.trans HX6.out⟩)
  by_cases s5 : 5 < st
  · have HNO : Hid (s.stands k ⟨fn, pc, st, m, sq⟩ = false) := Lib.hid (by rw [HST.out, decide_eq_false (by simp only; omega)]; rfl)
    go_wp2
    (go_ret; exact ⟨by rw [HNO.out] <;> rfl, HX1.out.trans HX6.out⟩)
  clear z2
  obtain rfl | rfl | rfl | rfl | rfl : st = 1 ∨ st = 2 ∨ st = 3 ∨ st = 4 ∨ st = 5 := by omega
  · clear s1 s5
    obtain ⟨w7, hw7⟩ : ∃ w7, w6.setCell ⟨w5.heap.size, 0, none⟩ (.int .i64 1) = w7 := ⟨_, rfl⟩
    have HW7 := Lib.hid hw7
    have HX7 : Hid (Ext w1 w7) := Lib.hid (by rw [← hw7]; exact HX6.out.setCell HS5.out.1 _)
    have hqw : w7.heap[w5.heap.size]? = some (.cells #[.int .i64 1, .int .i64 0, .int .i64 0, .int .i64 0, .int .i64 0] 129 (0, 0)) := by rw [← hw7]; exact blk_set HQW.out 0 _
    have HQ7 : Hid (w7.heap[w1.heap.size]? = some (.cells #[.int .i64 fn, .int .i64 pc, .int .i64 1, .int .i64 m, .int .i64 sq] 55 (0, 0))) := Lib.hid (by rw [← hw7]; exact blk_set_other HQ6.out _ (by have := HS5.out.2; simp only; omega) _)
    have z2 := blk_cell HQ6.out 2 _ rfl
    have v0 := blk_cell HQW.out 0 _ rfl
    have fz := frozen_of_row _ _ 0 _ _ HQW.out
    have x0 := blk_cell hqw 0 _ rfl
    have x1 := blk_cell hqw 1 _ rfl
    have x2 := blk_cell hqw 2 _ rfl
    have x3 := blk_cell hqw 3 _ rfl
    have y2 := blk_cell HQ7.out 2 _ rfl
    have y3 := blk_cell HQ7.out 3 _ rfl
    have q3 := st3 (HX7.out.blk HB1.out)
    clear hw7 hqw
    go_upto_region 8 with (rw [HW7.out])
    clear z2 v0 fz
    by_cases ena : na = 1
    rotate_left 1
    · have HNO : Hid (s.stands k ⟨fn, pc, 1, m, sq⟩ = false) := Lib.hid (by
        rw [HST.out, decide_eq_false (p := _ ∧ _ ∧ _ ∧ _) (fun hh => ena (by have := hh.1; simpa [St.want] using this))]
        simp)
      have dna : ((na : Int) != 1) = true := by simp; omega
      clear ena
      go_wp2
      go_ret
      exact ⟨by rw [HNO.out] <;> rfl, HX1.out.trans HX7.out⟩
    have dna : ((na : Int) != 1) = false := by simp; omega
    by_cases enc : nc = 0
    rotate_left 1
    · have HNO : Hid (s.stands k ⟨fn, pc, 1, m, sq⟩ = false) := Lib.hid (by
        rw [HST.out, decide_eq_false (p := _ ∧ _ ∧ _ ∧ _) (fun hh => enc (by have := hh.2.1; simpa [St.want] using this))]
        simp)
      have dnc : ((nc : Int) != 0) = true := by simp; omega
      clear enc
      go_wp2
      go_ret
      exact ⟨by rw [HNO.out] <;> rfl, HX1.out.trans HX7.out⟩
    have dnc : ((nc : Int) != 0) = false := by simp; omega
    by_cases enb : nb = 0
    rotate_left 1
    · have HNO : Hid (s.stands k ⟨fn, pc, 1, m, sq⟩ = false) := Lib.hid (by
        rw [HST.out, decide_eq_false (p := _ ∧ _ ∧ _ ∧ _) (fun hh => enb (by have := hh.2.2.1; simpa [St.want] using this))]
        simp)
      have dnb : ((nb : Int) != 0) = true := by simp; omega
      clear enb
      go_wp2
      go_ret
      exact ⟨by rw [HNO.out] <;> rfl, HX1.out.trans HX7.out⟩
    have dnb : ((nb : Int) != 0) = false := by simp; omega
    by_cases ed : nd = 0
    rotate_left 1
    · have HNO : Hid (s.stands k ⟨fn, pc, 1, m, sq⟩ = false) := Lib.hid (by
        rw [HST.out, decide_eq_false (p := _ ∧ _ ∧ _ ∧ _) (fun hh => ed (by have := hh.2.2.2; simpa [St.want] using this))]
        simp)
      have dnd : ((nd : Int) != 0) = true := by simp; omega
      clear ed
      go_wp2
      go_ret
      exact ⟨by rw [HNO.out] <;> rfl, HX1.out.trans HX7.out⟩
    have dnd : ((nd : Int) != 0) = false := by simp; omega
    have HEQ : Hid (s.stands k ⟨fn, pc, 1, m, sq⟩ = decide (m = 0)) := Lib.hid (by
      rw [HST.out, decide_eq_true (by simp), if_pos (by simp), decide_eq_true (p := _ ∧ _ ∧ _ ∧ _) (by simp [St.want, ena, enb, enc, ed])]
      simp)
    clear ena enb enc ed
    by_cases d0 : m = 0
    · have HYES : Hid (s.stands k ⟨fn, pc, 1, m, sq⟩ = true) := Lib.hid (by rw [HEQ.out, decide_eq_true d0])
      subst d0
      go_wp2
      go_ret
      exact ⟨by rw [HYES.out] <;> rfl, HX1.out.trans HX7.out⟩
    · have HNO : Hid (s.stands k ⟨fn, pc, 1, m, sq⟩ = false) := Lib.hid (by rw [HEQ.out, decide_eq_false d0])
      have d0' : (m == 0) = false := by simpa using d0
      clear d0
      go_wp2
      go_ret
      exact ⟨by rw [HNO.out] <;> rfl, HX1.out.trans HX7.out⟩
  · clear s1 s5
    obtain ⟨w7, hw7⟩ : ∃ w7, w6.setCell ⟨w5.heap.size, 1, none⟩ (.int .i64 1) = w7 := ⟨_, rfl⟩
    have HW7 := Lib.hid hw7
    have HX7 : Hid (Ext w1 w7) := Lib.hid (by rw [← hw7]; exact HX6.out.setCell HS5.out.1 _)
    have hqw : w7.heap[w5.heap.size]? = some (.cells #[.int .i64 0, .int .i64 1, .int .i64 0, .int .i64 0, .int .i64 0] 129 (0, 0)) := by rw [← hw7]; exact blk_set HQW.out 1 _
    have HQ7 : Hid (w7.heap[w1.heap.size]? = some (.cells #[.int .i64 fn, .int .i64 pc, .int .i64 2, .int .i64 m, .int .i64 sq] 55 (0, 0))) := Lib.hid (by rw [← hw7]; exact blk_set_other HQ6.out _ (by have := HS5.out.2; simp only; omega) _)
    have z2 := blk_cell HQ6.out 2 _ rfl
    have v1 := blk_cell HQW.out 1 _ rfl
    have fz := frozen_of_row _ _ 1 _ _ HQW.out
    have x0 := blk_cell hqw 0 _ rfl
    have x1 := blk_cell hqw 1 _ rfl
    have x2 := blk_cell hqw 2 _ rfl
    have x3 := blk_cell hqw 3 _ rfl
    have y2 := blk_cell HQ7.out 2 _ rfl
    have y3 := blk_cell HQ7.out 3 _ rfl
    have q3 := st3 (HX7.out.blk HB1.out)
    clear hw7 hqw
    go_upto_region 8 with (rw [HW7.out])
    clear z2 v1 fz
    by_cases ena : na = 0
    rotate_left 1
    · have HNO : Hid (s.stands k ⟨fn, pc, 2, m, sq⟩ = false) := Lib.hid (by
        rw [HST.out, decide_eq_false (p := _ ∧ _ ∧ _ ∧ _) (fun hh => ena (by have := hh.1; simpa [St.want] using this))]
        simp)
      have dna : ((na : Int) != 0) = true := by simp; omega
      clear ena
      go_wp2
      go_ret
      exact ⟨by rw [HNO.out] <;> rfl, HX1.out.trans HX7.out⟩
    have dna : ((na : Int) != 0) = false := by simp; omega
    by_cases enc : nc = 1
    rotate_left 1
    · have HNO : Hid (s.stands k ⟨fn, pc, 2, m, sq⟩ = false) := Lib.hid (by
        rw [HST.out, decide_eq_false (p := _ ∧ _ ∧ _ ∧ _) (fun hh => enc (by have := hh.2.1; simpa [St.want] using this))]
        simp)
      have dnc : ((nc : Int) != 1) = true := by simp; omega
      clear enc
      go_wp2
      go_ret
      exact ⟨by rw [HNO.out] <;> rfl, HX1.out.trans HX7.out⟩
    have dnc : ((nc : Int) != 1) = false := by simp; omega
    by_cases enb : nb = 0
    rotate_left 1
    · have HNO : Hid (s.stands k ⟨fn, pc, 2, m, sq⟩ = false) := Lib.hid (by
        rw [HST.out, decide_eq_false (p := _ ∧ _ ∧ _ ∧ _) (fun hh => enb (by have := hh.2.2.1; simpa [St.want] using this))]
        simp)
      have dnb : ((nb : Int) != 0) = true := by simp; omega
      clear enb
      go_wp2
      go_ret
      exact ⟨by rw [HNO.out] <;> rfl, HX1.out.trans HX7.out⟩
    have dnb : ((nb : Int) != 0) = false := by simp; omega
    by_cases ed : nd = 0
    rotate_left 1
    · have HNO : Hid (s.stands k ⟨fn, pc, 2, m, sq⟩ = false) := Lib.hid (by
        rw [HST.out, decide_eq_false (p := _ ∧ _ ∧ _ ∧ _) (fun hh => ed (by have := hh.2.2.2; simpa [St.want] using this))]
        simp)
      have dnd : ((nd : Int) != 0) = true := by simp; omega
      clear ed
      go_wp2
      go_ret
      exact ⟨by rw [HNO.out] <;> rfl, HX1.out.trans HX7.out⟩
    have dnd : ((nd : Int) != 0) = false := by simp; omega
    have HEQ : Hid (s.stands k ⟨fn, pc, 2, m, sq⟩ = (decide (1 ≤ m ∧ m ≤ s.ms.length) && decide ((s.ms.getD (m - 1).toNat (0, 0)).2 = k + 1))) := Lib.hid (by
      rw [HST.out, decide_eq_true (by simp), if_neg (by simp), decide_eq_true (p := _ ∧ _ ∧ _ ∧ _) (by simp [St.want, ena, enb, enc, ed])]
      simp)
    clear ena enb enc ed
    by_cases m1 : m < 1
    · have HNO : Hid (s.stands k ⟨fn, pc, 2, m, sq⟩ = false) := Lib.hid (by rw [HEQ.out, decide_eq_false (by omega)]; rfl)
      go_wp2
      go_ret
      exact ⟨by rw [HNO.out] <;> rfl, HX1.out.trans HX7.out⟩
    by_cases m2 : (s.ms.length : Int) < m
    · have HNO : Hid (s.stands k ⟨fn, pc, 2, m, sq⟩ = false) := Lib.hid (by rw [HEQ.out, decide_eq_false (by omega)]; rfl)
      go_wp2
      go_ret
      exact ⟨by rw [HNO.out] <;> rfl, HX1.out.trans HX7.out⟩
    have m1' : 1 ≤ m := by omega
    have m2' : m ≤ (s.ms.length : Int) := by omega
    obtain ⟨j, hj⟩ : ∃ j : Nat, m = (j : Int) + 1 := ⟨(m - 1).toNat, by omega⟩
    subst hj
    obtain ⟨x, hx⟩ : ∃ x, s.ms[j]? = some x := ⟨_, List.getElem?_eq_getElem (by omega)⟩
    obtain ⟨bm, om, hAm, hbm, c0, c1⟩ := frs2_get (HK1.out.ext HX7.out).ms hx
    have HMX : Hid ((s.ms.getD ((j : Int) + 1 - 1).toNat (0, 0)).2 = x.2) := Lib.hid (by rw [show ((j : Int) + 1 - 1).toNat = j by omega, List.getD, hx]; rfl)
    have e6 : (j : Int) + 1 - 1 = (j : Int) := by omega
    have e7 : (j : Int) < (s.ms.length : Int) := by omega
    obtain ⟨xp, xg⟩ := x
    simp only at HMX c1
    clear hx hbm c0 m1 m2
    by_cases d0 : xg = (k : Int) + 1
    · have HYES : Hid (s.stands k ⟨fn, pc, 2, ((j : Int) + 1), sq⟩ = true) := Lib.hid (by rw [HEQ.out, HMX.out, decide_eq_true d0, decide_eq_true (by omega)]; rfl)
      subst d0
      go_wp2
      go_ret
      exact ⟨by rw [HYES.out] <;> rfl, HX1.out.trans HX7.out⟩
    · have HNO : Hid (s.stands k ⟨fn, pc, 2, ((j : Int) + 1), sq⟩ = false) := Lib.hid (by rw [HEQ.out, HMX.out, decide_eq_false d0, Bool.and_false])
      have d0' : (xg == (k : Int) + 1) = false := by simpa using d0
      clear d0
      go_wp2
      go_ret
      exact ⟨by rw [HNO.out] <;> rfl, HX1.out.trans HX7.out⟩
  · clear s1 s5
    obtain ⟨w7, hw7⟩ : ∃ w7, w6.setCell ⟨w5.heap.size, 2, none⟩ (.int .i64 1) = w7 := ⟨_, rfl⟩
    have HW7 := Lib.hid hw7
    have HX7 : Hid (Ext w1 w7) := Lib.hid (by rw [← hw7]; exact HX6.out.setCell HS5.out.1 _)
    have hqw : w7.heap[w5.heap.size]? = some (.cells #[.int .i64 0, .int .i64 0, .int .i64 1, .int .i64 0, .int .i64 0] 129 (0, 0)) := by rw [← hw7]; exact blk_set HQW.out 2 _
    have HQ7 : Hid (w7.heap[w1.heap.size]? = some (.cells #[.int .i64 fn, .int .i64 pc, .int .i64 3, .int .i64 m, .int .i64 sq] 55 (0, 0))) := Lib.hid (by rw [← hw7]; exact blk_set_other HQ6.out _ (by have := HS5.out.2; simp only; omega) _)
    have z2 := blk_cell HQ6.out 2 _ rfl
    have v2 := blk_cell HQW.out 2 _ rfl
    have fz := frozen_of_row _ _ 2 _ _ HQW.out
    have x0 := blk_cell hqw 0 _ rfl
    have x1 := blk_cell hqw 1 _ rfl
    have x2 := blk_cell hqw 2 _ rfl
    have x3 := blk_cell hqw 3 _ rfl
    have y2 := blk_cell HQ7.out 2 _ rfl
    have y3 := blk_cell HQ7.out 3 _ rfl
    have q3 := st3 (HX7.out.blk HB1.out)
    clear hw7 hqw
    go_upto_region 8 with (rw [HW7.out])
    clear z2 v2 fz
    by_cases ena : na = 0
    rotate_left 1
    · have HNO : Hid (s.stands k ⟨fn, pc, 3, m, sq⟩ = false) := Lib.hid (by
        rw [HST.out, decide_eq_false (p := _ ∧ _ ∧ _ ∧ _) (fun hh => ena (by have := hh.1; simpa [St.want] using this))]
        simp)
      have dna : ((na : Int) != 0) = true := by simp; omega
      clear ena
      go_wp2
      go_ret
      exact ⟨by rw [HNO.out] <;> rfl, HX1.out.trans HX7.out⟩
    have dna : ((na : Int) != 0) = false := by simp; omega
    by_cases enc : nc = 0
    rotate_left 1
    · have HNO : Hid (s.stands k ⟨fn, pc, 3, m, sq⟩ = false) := Lib.hid (by
        rw [HST.out, decide_eq_false (p := _ ∧ _ ∧ _ ∧ _) (fun hh => enc (by have := hh.2.1; simpa [St.want] using this))]
        simp)
      have dnc : ((nc : Int) != 0) = true := by simp; omega
      clear enc
      go_wp2
      go_ret
      exact ⟨by rw [HNO.out] <;> rfl, HX1.out.trans HX7.out⟩
    have dnc : ((nc : Int) != 0) = false := by simp; omega
    by_cases enb : nb = 1
    rotate_left 1
    · have HNO : Hid (s.stands k ⟨fn, pc, 3, m, sq⟩ = false) := Lib.hid (by
        rw [HST.out, decide_eq_false (p := _ ∧ _ ∧ _ ∧ _) (fun hh => enb (by have := hh.2.2.1; simpa [St.want] using this))]
        simp)
      have dnb : ((nb : Int) != 1) = true := by simp; omega
      clear enb
      go_wp2
      go_ret
      exact ⟨by rw [HNO.out] <;> rfl, HX1.out.trans HX7.out⟩
    have dnb : ((nb : Int) != 1) = false := by simp; omega
    by_cases ed : nd = 0
    rotate_left 1
    · have HNO : Hid (s.stands k ⟨fn, pc, 3, m, sq⟩ = false) := Lib.hid (by
        rw [HST.out, decide_eq_false (p := _ ∧ _ ∧ _ ∧ _) (fun hh => ed (by have := hh.2.2.2; simpa [St.want] using this))]
        simp)
      have dnd : ((nd : Int) != 0) = true := by simp; omega
      clear ed
      go_wp2
      go_ret
      exact ⟨by rw [HNO.out] <;> rfl, HX1.out.trans HX7.out⟩
    have dnd : ((nd : Int) != 0) = false := by simp; omega
    have HEQ : Hid (s.stands k ⟨fn, pc, 3, m, sq⟩ = decide (m = 0)) := Lib.hid (by
      rw [HST.out, decide_eq_true (by simp), if_pos (by simp), decide_eq_true (p := _ ∧ _ ∧ _ ∧ _) (by simp [St.want, ena, enb, enc, ed])]
      simp)
    clear ena enb enc ed
    by_cases d0 : m = 0
    · have HYES : Hid (s.stands k ⟨fn, pc, 3, m, sq⟩ = true) := Lib.hid (by rw [HEQ.out, decide_eq_true d0])
      subst d0
      go_wp2
      go_ret
      exact ⟨by rw [HYES.out] <;> rfl, HX1.out.trans HX7.out⟩
    · have HNO : Hid (s.stands k ⟨fn, pc, 3, m, sq⟩ = false) := Lib.hid (by rw [HEQ.out, decide_eq_false d0])
      have d0' : (m == 0) = false := by simpa using d0
      clear d0
      go_wp2
      go_ret
      exact ⟨by rw [HNO.out] <;> rfl, HX1.out.trans HX7.out⟩
  · clear s1 s5
    obtain ⟨w7, hw7⟩ : ∃ w7, w6.setCell ⟨w5.heap.size, 3, none⟩ (.int .i64 1) = w7 := ⟨_, rfl⟩
    have HW7 := Lib.hid hw7
    have HX7 : Hid (Ext w1 w7) := Lib.hid (by rw [← hw7]; exact HX6.out.setCell HS5.out.1 _)
    have hqw : w7.heap[w5.heap.size]? = some (.cells #[.int .i64 0, .int .i64 0, .int .i64 0, .int .i64 1, .int .i64 0] 129 (0, 0)) := by rw [← hw7]; exact blk_set HQW.out 3 _
    have HQ7 : Hid (w7.heap[w1.heap.size]? = some (.cells #[.int .i64 fn, .int .i64 pc, .int .i64 4, .int .i64 m, .int .i64 sq] 55 (0, 0))) := Lib.hid (by rw [← hw7]; exact blk_set_other HQ6.out _ (by have := HS5.out.2; simp only; omega) _)
    have z2 := blk_cell HQ6.out 2 _ rfl
    have v3 := blk_cell HQW.out 3 _ rfl
    have fz := frozen_of_row _ _ 3 _ _ HQW.out
    have x0 := blk_cell hqw 0 _ rfl
    have x1 := blk_cell hqw 1 _ rfl
    have x2 := blk_cell hqw 2 _ rfl
    have x3 := blk_cell hqw 3 _ rfl
    have y2 := blk_cell HQ7.out 2 _ rfl
    have y3 := blk_cell HQ7.out 3 _ rfl
    have q3 := st3 (HX7.out.blk HB1.out)
    clear hw7 hqw
    go_upto_region 8 with (rw [HW7.out])
    clear z2 v3 fz
    by_cases ena : na = 0
    rotate_left 1
    · have HNO : Hid (s.stands k ⟨fn, pc, 4, m, sq⟩ = false) := Lib.hid (by
        rw [HST.out, decide_eq_false (p := _ ∧ _ ∧ _ ∧ _) (fun hh => ena (by have := hh.1; simpa [St.want] using this))]
        simp)
      have dna : ((na : Int) != 0) = true := by simp; omega
      clear ena
      go_wp2
      go_ret
      exact ⟨by rw [HNO.out] <;> rfl, HX1.out.trans HX7.out⟩
    have dna : ((na : Int) != 0) = false := by simp; omega
    by_cases enc : nc = 0
    rotate_left 1
    · have HNO : Hid (s.stands k ⟨fn, pc, 4, m, sq⟩ = false) := Lib.hid (by
        rw [HST.out, decide_eq_false (p := _ ∧ _ ∧ _ ∧ _) (fun hh => enc (by have := hh.2.1; simpa [St.want] using this))]
        simp)
      have dnc : ((nc : Int) != 0) = true := by simp; omega
      clear enc
      go_wp2
      go_ret
      exact ⟨by rw [HNO.out] <;> rfl, HX1.out.trans HX7.out⟩
    have dnc : ((nc : Int) != 0) = false := by simp; omega
    by_cases enb : nb = 0
    rotate_left 1
    · have HNO : Hid (s.stands k ⟨fn, pc, 4, m, sq⟩ = false) := Lib.hid (by
        rw [HST.out, decide_eq_false (p := _ ∧ _ ∧ _ ∧ _) (fun hh => enb (by have := hh.2.2.1; simpa [St.want] using this))]
        simp)
      have dnb : ((nb : Int) != 0) = true := by simp; omega
      clear enb
      go_wp2
      go_ret
      exact ⟨by rw [HNO.out] <;> rfl, HX1.out.trans HX7.out⟩
    have dnb : ((nb : Int) != 0) = false := by simp; omega
    by_cases ed : nd = 1
    rotate_left 1
    · have HNO : Hid (s.stands k ⟨fn, pc, 4, m, sq⟩ = false) := Lib.hid (by
        rw [HST.out, decide_eq_false (p := _ ∧ _ ∧ _ ∧ _) (fun hh => ed (by have := hh.2.2.2; simpa [St.want] using this))]
        simp)
      have dnd : ((nd : Int) != 1) = true := by simp; omega
      clear ed
      go_wp2
      go_ret
      exact ⟨by rw [HNO.out] <;> rfl, HX1.out.trans HX7.out⟩
    have dnd : ((nd : Int) != 1) = false := by simp; omega
    have HEQ : Hid (s.stands k ⟨fn, pc, 4, m, sq⟩ = (decide (1 ≤ m ∧ m ≤ s.ms.length) && decide ((s.ms.getD (m - 1).toNat (0, 0)).2 = k + 1))) := Lib.hid (by
      rw [HST.out, decide_eq_true (by simp), if_neg (by simp), decide_eq_true (p := _ ∧ _ ∧ _ ∧ _) (by simp [St.want, ena, enb, enc, ed])]
      simp)
    clear ena enb enc ed
    by_cases m1 : m < 1
    · have HNO : Hid (s.stands k ⟨fn, pc, 4, m, sq⟩ = false) := Lib.hid (by rw [HEQ.out, decide_eq_false (by omega)]; rfl)
      go_wp2
      go_ret
      exact ⟨by rw [HNO.out] <;> rfl, HX1.out.trans HX7.out⟩
    by_cases m2 : (s.ms.length : Int) < m
    · have HNO : Hid (s.stands k ⟨fn, pc, 4, m, sq⟩ = false) := Lib.hid (by rw [HEQ.out, decide_eq_false (by omega)]; rfl)
      go_wp2
      go_ret
      exact ⟨by rw [HNO.out] <;> rfl, HX1.out.trans HX7.out⟩
    have m1' : 1 ≤ m := by omega
    have m2' : m ≤ (s.ms.length : Int) := by omega
    obtain ⟨j, hj⟩ : ∃ j : Nat, m = (j : Int) + 1 := ⟨(m - 1).toNat, by omega⟩
    subst hj
    obtain ⟨x, hx⟩ : ∃ x, s.ms[j]? = some x := ⟨_, List.getElem?_eq_getElem (by omega)⟩
    obtain ⟨bm, om, hAm, hbm, c0, c1⟩ := frs2_get (HK1.out.ext HX7.out).ms hx
    have HMX : Hid ((s.ms.getD ((j : Int) + 1 - 1).toNat (0, 0)).2 = x.2) := Lib.hid (by rw [show ((j : Int) + 1 - 1).toNat = j by omega, List.getD, hx]; rfl)
    have e6 : (j : Int) + 1 - 1 = (j : Int) := by omega
    have e7 : (j : Int) < (s.ms.length : Int) := by omega
    obtain ⟨xp, xg⟩ := x
    simp only at HMX c1
    clear hx hbm c0 m1 m2
    by_cases d0 : xg = (k : Int) + 1
    · have HYES : Hid (s.stands k ⟨fn, pc, 4, ((j : Int) + 1), sq⟩ = true) := Lib.hid (by rw [HEQ.out, HMX.out, decide_eq_true d0, decide_eq_true (by omega)]; rfl)
      subst d0
      go_wp2
      go_ret
      exact ⟨by rw [HYES.out] <;> rfl, HX1.out.trans HX7.out⟩
    · have HNO : Hid (s.stands k ⟨fn, pc, 4, ((j : Int) + 1), sq⟩ = false) := Lib.hid (by rw [HEQ.out, HMX.out, decide_eq_false d0, Bool.and_false])
      have d0' : (xg == (k : Int) + 1) = false := by simpa using d0
      clear d0
      go_wp2
      go_ret
      exact ⟨by rw [HNO.out] <;> rfl, HX1.out.trans HX7.out⟩
  · clear s1 s5
    obtain ⟨w7, hw7⟩ : ∃ w7, w6.setCell ⟨w5.heap.size, 4, none⟩ (.int .i64 1) = w7 := ⟨_, rfl⟩
    have HW7 := Lib.hid hw7
    have HX7 : Hid (Ext w1 w7) := Lib.hid (by rw [← hw7]; exact HX6.out.setCell HS5.out.1 _)
    have hqw : w7.heap[w5.heap.size]? = some (.cells #[.int .i64 0, .int .i64 0, .int .i64 0, .int .i64 0, .int .i64 1] 129 (0, 0)) := by rw [← hw7]; exact blk_set HQW.out 4 _
    have HQ7 : Hid (w7.heap[w1.heap.size]? = some (.cells #[.int .i64 fn, .int .i64 pc, .int .i64 5, .int .i64 m, .int .i64 sq] 55 (0, 0))) := Lib.hid (by rw [← hw7]; exact blk_set_other HQ6.out _ (by have := HS5.out.2; simp only; omega) _)
    have z2 := blk_cell HQ6.out 2 _ rfl
    have v4 := blk_cell HQW.out 4 _ rfl
    have fz := frozen_of_row _ _ 4 _ _ HQW.out
    have x0 := blk_cell hqw 0 _ rfl
    have x1 := blk_cell hqw 1 _ rfl
    have x2 := blk_cell hqw 2 _ rfl
    have x3 := blk_cell hqw 3 _ rfl
    have y2 := blk_cell HQ7.out 2 _ rfl
    have y3 := blk_cell HQ7.out 3 _ rfl
    have q3 := st3 (HX7.out.blk HB1.out)
    clear hw7 hqw
    go_upto_region 8 with (rw [HW7.out])
    clear z2 v4 fz
    by_cases ena : na = 0
    rotate_left 1
    · have HNO : Hid (s.stands k ⟨fn, pc, 5, m, sq⟩ = false) := Lib.hid (by
        rw [HST.out, decide_eq_false (p := _ ∧ _ ∧ _ ∧ _) (fun hh => ena (by have := hh.1; simpa [St.want] using this))]
        simp)
      have dna : ((na : Int) != 0) = true := by simp; omega
      clear ena
      go_wp2
      go_ret
      exact ⟨by rw [HNO.out] <;> rfl, HX1.out.trans HX7.out⟩
    have dna : ((na : Int) != 0) = false := by simp; omega
    by_cases enc : nc = 0
    rotate_left 1
    · have HNO : Hid (s.stands k ⟨fn, pc, 5, m, sq⟩ = false) := Lib.hid (by
        rw [HST.out, decide_eq_false (p := _ ∧ _ ∧ _ ∧ _) (fun hh => enc (by have := hh.2.1; simpa [St.want] using this))]
        simp)
      have dnc : ((nc : Int) != 0) = true := by simp; omega
      clear enc
      go_wp2
      go_ret
      exact ⟨by rw [HNO.out] <;> rfl, HX1.out.trans HX7.out⟩
    have dnc : ((nc : Int) != 0) = false := by simp; omega
    by_cases enb : nb = 0
    rotate_left 1
    · have HNO : Hid (s.stands k ⟨fn, pc, 5, m, sq⟩ = false) := Lib.hid (by
        rw [HST.out, decide_eq_false (p := _ ∧ _ ∧ _ ∧ _) (fun hh => enb (by have := hh.2.2.1; simpa [St.want] using this))]
        simp)
      have dnb : ((nb : Int) != 0) = true := by simp; omega
      clear enb
      go_wp2
      go_ret
      exact ⟨by rw [HNO.out] <;> rfl, HX1.out.trans HX7.out⟩
    have dnb : ((nb : Int) != 0) = false := by simp; omega
    by_cases ed : nd = 0
    rotate_left 1
    · have HNO : Hid (s.stands k ⟨fn, pc, 5, m, sq⟩ = false) := Lib.hid (by
        rw [HST.out, decide_eq_false (p := _ ∧ _ ∧ _ ∧ _) (fun hh => ed (by have := hh.2.2.2; simpa [St.want] using this))]
        simp)
      have dnd : ((nd : Int) != 0) = true := by simp; omega
      clear ed
      go_wp2
      go_ret
      exact ⟨by rw [HNO.out] <;> rfl, HX1.out.trans HX7.out⟩
    have dnd : ((nd : Int) != 0) = false := by simp; omega
    have HEQ : Hid (s.stands k ⟨fn, pc, 5, m, sq⟩ = decide (m = 0)) := Lib.hid (by
      rw [HST.out, decide_eq_true (by simp), if_pos (by simp), decide_eq_true (p := _ ∧ _ ∧ _ ∧ _) (by simp [St.want, ena, enb, enc, ed])]
      simp)
    clear ena enb enc ed
    by_cases d0 : m = 0
    · have HYES : Hid (s.stands k ⟨fn, pc, 5, m, sq⟩ = true) := Lib.hid (by rw [HEQ.out, decide_eq_true d0])
      subst d0
      go_wp2
      go_ret
      exact ⟨by rw [HYES.out] <;> rfl, HX1.out.trans HX7.out⟩
    · have HNO : Hid (s.stands k ⟨fn, pc, 5, m, sq⟩ = false) := Lib.hid (by rw [HEQ.out, decide_eq_false d0])
      have d0' : (m == 0) = false := by simpa using d0
      clear d0
      go_wp2
      go_ret
      exact ⟨by rw [HNO.out] <;> rfl, HX1.out.trans HX7.out⟩
def St.placeOk (s : St) (i : Nat) (g : Gr) : Bool := decide ([(St.times s.runs ((i : Int) + 1) : Int), (St.times s.waiters ((i : Int) + 1) : Int), (St.times s.onAll ((i : Int) + 1) : Int)] = [(St.wanted g.st).1, (St.wanted g.st).2.1, (St.wanted g.st).2.2]) && s.holdG i g
def St.places (s : St) : Bool := allW (l3 s.runs s.waiters s.onAll) s.gs.length && allIx s.placeOk 0 s.gs
theorem run_eqSpot (a b c a' b' c' : Int) (w : World) : (Op.equalIn 10000 115 (spotV (a, b, c)) (spotV (a', b', c'))).run Try.prog w = .ok (decide ([a, b, c] = [a', b', c'])) w :=
  run_eqInts (ti := 3) Try.underlying3 (by kernel_rfl) (by kernel_rfl) 3 (by kernel_rfl) [a, b, c] [a', b', c'] rfl rfl w
set_option maxRecDepth 100000 in
set_option maxHeartbeats 16000000 in
theorem smayPlaces_any (h : StH) (s : St) (r : Bool) (hr : s.places = r) (w : World) (hk : StOk w h s) (hf : StFew s) : Calls Try.prog 47 #[stV h s] w fun e w' => e = .returned (.bool r) ∧ Ext w w' := by
  subst hr
  have f1 := hf.gs
  have HFW := Lib.hid hf
  have HK := Lib.hid hk
  obtain ⟨w1, hw1⟩ : ∃ w1, w.alloc (.cells #[.slice h.pa s.prog.length h.pc, .slice h.ga s.gs.length h.gc, .slice h.qa s.ps.length h.qc, .slice h.ma s.ms.length h.mc, .slice h.la s.glob.length h.lc, .int .i64 s.c0, .int .i64 s.c1, .int .i64 s.c2, .int .i64 s.c3, .slice h.a0 s.w0.length h.k0, .slice h.a1 s.w1.length h.k1, .slice h.a2 s.w2.length h.k2, .slice h.a3 s.w3.length h.k3, .slice h.ta s.timers.length h.tc, .int .i64 s.clock, .int .i64 s.procs] 32) = w1 := ⟨_, rfl⟩
  have HX1 : Hid (Ext w w1) := Lib.hid (by rw [← hw1]; exact (Ext.refl w).alloc _)
  have HB1 : Hid (w1.heap[w.heap.size]? = some (.cells (stC h s) 32 (0, 0))) := Lib.hid (by rw [← hw1]; exact blk_new w _)
  have HK1 := Lib.hid (hk.ext HX1.out)
  have HW1 := Lib.hid hw1
  clear hw1 hk
  have HSC := Lib.hid (scount_any h s w1 HK1.out hf)
  clear hf
  obtain ⟨⟨⟨q0, q1, q2, q3⟩, q4, q5, q6, q7⟩, ⟨q8, q9, q10, q11⟩, q12, q13, q14, q15⟩ := st16 HB1.out
  unfold stV at HSC ⊢
  go_enter Try.func47, Try.ntmps47
  go_upto_region 1 with fail
  rw [HW1.out]
  generalize Value.agg #[.slice h.pa s.prog.length h.pc, .slice h.ga s.gs.length h.gc, .slice h.qa s.ps.length h.qc, .slice h.ma s.ms.length h.mc, .slice h.la s.glob.length h.lc, .int .i64 s.c0, .int .i64 s.c1, .int .i64 s.c2, .int .i64 s.c3, .slice h.a0 s.w0.length h.k0, .slice h.a1 s.w1.length h.k1, .slice h.a2 s.w2.length h.k2, .slice h.a3 s.w3.length h.k3, .slice h.ta s.timers.length h.tc, .int .i64 s.clock, .int .i64 s.procs] = sv0
  go_wp2_with fail
  refine HSC.out.mono ?_
  rintro e w2 ⟨cb, db, rfl, hc2, hx2⟩
  generalize Value.agg #[.slice h.pa s.prog.length h.pc, .slice h.ga s.gs.length h.gc, .slice h.qa s.ps.length h.qc, .slice h.ma s.ms.length h.mc, .slice h.la s.glob.length h.lc, .int .i64 s.c0, .int .i64 s.c1, .int .i64 s.c2, .int .i64 s.c3, .slice h.a0 s.w0.length h.k0, .slice h.a1 s.w1.length h.k1, .slice h.a2 s.w2.length h.k2, .slice h.a3 s.w3.length h.k3, .slice h.ta s.timers.length h.tc, .int .i64 s.clock, .int .i64 s.procs] = sv1
  clear q0 q1 q2 q3 q4 q5 q6 q7 q8 q9 q10 q11 q12 q13 q14 q15
  have HC2 := Lib.hid hc2
  have HX2 := Lib.hid hx2
  have z1 : w2.cell? ⟨cb, 1, none⟩ = some (.bool (!allW (l3 s.runs s.waiters s.onAll) s.gs.length)) := blk_cell hc2.box 1 _ rfl
  have z0 : w2.cell? ⟨cb, 0, none⟩ = some (.slice (some ⟨db, 0, none⟩) s.gs.length s.gs.length) := blk_cell hc2.box 0 _ rfl
  have HPL : Hid (s.places = (allW (l3 s.runs s.waiters s.onAll) s.gs.length && allIx s.placeOk 0 s.gs)) := Lib.hid rfl
  generalize allW (l3 s.runs s.waiters s.onAll) s.gs.length = ba at *
  clear hc2 hx2
  cases ba with
  | false =>
    have HNO : Hid (s.places = false) := Lib.hid (by rw [HPL.out]; rfl)
    go_wp2
    go_ret
    exact ⟨by rw [HNO.out] <;> rfl, HX1.out.trans HX2.out⟩
  | true =>
  have HPL2 : Hid (s.places = allIx s.placeOk 0 s.gs) := Lib.hid (by rw [HPL.out]; rfl)
  go_wp2_with fail
  clear z0 z1
  go_loopw [17] (fun iv wr => ∃ k : Nat, k ≤ s.gs.length ∧ iv = .int .i64 k ∧ (∀ (j : Nat) g, s.gs[j]? = some g → j < k → s.placeOk j g = true) ∧ Ext w2 wr) (fun iv _ => s.gs.length - (intOf iv).toNat)
  case atStart => exact ⟨0, by omega, rfl, fun j l _ h => by omega, Ext.refl _⟩
  case round =>
    obtain ⟨k, hk, rfl, hall, hx⟩ := hrel
    have HALL := Lib.hid hall
    have HX := Lib.hid hx
    clear hall hx
    by_cases hlt : k < s.gs.length
    · obtain ⟨g, hg⟩ : ∃ g, s.gs[k]? = some g := ⟨_, List.getElem?_eq_getElem hlt⟩
      have HG := Lib.hid hg
      obtain ⟨ta, hta⟩ : ∃ ta : Int, (St.times s.runs ((k : Int) + 1) : Int) = ta := ⟨_, rfl⟩
      obtain ⟨tb, htb⟩ : ∃ tb : Int, (St.times s.waiters ((k : Int) + 1) : Int) = tb := ⟨_, rfl⟩
      obtain ⟨tc, htc⟩ : ∃ tc : Int, (St.times s.onAll ((k : Int) + 1) : Int) = tc := ⟨_, rfl⟩
      have hcx := HC2.out.ext HX.out
      have p0 : wr.cell? ⟨db, k * 3, none⟩ = some (.int .i64 ta) := by rw [← hta]; exact hcx.cell hlt (f := 0) (by omega)
      have p1 : wr.cell? ⟨db, k * 3 + 1, none⟩ = some (.int .i64 tb) := by rw [← htb]; exact hcx.cell hlt (f := 1) (by omega)
      have p2 : wr.cell? ⟨db, k * 3 + 2, none⟩ = some (.int .i64 tc) := by rw [← htc]; exact hcx.cell hlt (f := 2) (by omega)
      obtain ⟨w4, hw4⟩ : ∃ w4, wr.alloc (.cells #[.int .i64 ta, .int .i64 tb, .int .i64 tc] 115) = w4 := ⟨_, rfl⟩
      have HW4 := Lib.hid hw4
      have hx4 : Ext wr w4 := by rw [← hw4]; exact (Ext.refl wr).alloc _
      have HX4 := Lib.hid (HX2.out.trans (HX.out.trans hx4))
      have HX24 := Lib.hid (HX.out.trans hx4)
      have HB4 : Hid (w4.heap[wr.heap.size]? = some (.cells #[.int .i64 ta, .int .i64 tb, .int .i64 tc] 115 (0, 0))) := Lib.hid (by rw [← hw4]; exact blk_new wr _)
      obtain ⟨b, o, hA, hb, hcc⟩ := gs_get HK1.out.gs hg
      have HA := Lib.hid hA
      have HG2 : Hid (∀ v, Ext w4 v → v.cell? ⟨b, o + k * 5 + 2, none⟩ = some (.int .i64 g.st)) := Lib.hid fun v hv => by
        rw [Below.cell (HX4.out.trans hv) hb]; exact hcc.2.2.1
      obtain ⟨q, hq⟩ : ∃ q, St.wanted g.st = q := ⟨_, rfl⟩
      obtain ⟨qa, qb, qc⟩ := q
      have HWA : Hid (∀ w, Calls Try.prog 106 #[.int .i64 g.st] w fun e w' => e = .returned (.agg #[.int .i64 qa, .int .i64 qb, .int .i64 qc]) ∧ Ext w w') := Lib.hid fun w => by have h1 := swanted_any g.st w; rw [hq] at h1; exact h1
      obtain ⟨bh, hbh⟩ : ∃ bh, s.holdG k g = bh := ⟨_, rfl⟩
      have HBH := Lib.hid hbh
      have HOK : Hid (s.placeOk k g = (decide ([ta, tb, tc] = [qa, qb, qc]) && bh)) := Lib.hid (by unfold St.placeOk; rw [hta, htb, htc, hq, hbh])
      have e1 : IntKind.i64.wrap ((k : Int) + 1) = (k : Int) + 1 := IntWalk.i64_in _ (by omega)
      have i0 : (0 : Int) ≤ (k : Int) := by omega
      have i1 : (k : Int) < (s.gs.length : Int) := by omega
      have HST : Hid (s.placeOk k g = false → s.places = false) := Lib.hid fun h => by rw [HPL2.out]; exact allIx_no hg h
      have HEQ := Lib.hid (run_eqSpot ta tb tc qa qb qc)
      clear hta htb htc hcx hw4 hx4 hg hb hcc hq hbh hA
      go_upto_region 7 with fail
      rw [HW4.out]
      clear p0 p1 p2
      have hA := HA.out
      cases be : decide ([ta, tb, tc] = [qa, qb, qc]) with
      | false =>
        have HNO : Hid (s.places = false) := Lib.hid (HST.out (by rw [HOK.out, be]; rfl))
        have hq : ∀ w, (Op.equalIn 10000 115 (.agg #[.int .i64 ta, .int .i64 tb, .int .i64 tc]) (.agg #[.int .i64 qa, .int .i64 qb, .int .i64 qc])).run Try.prog w = .ok false w := fun w => by rw [← be]; exact HEQ.out w
        clear be
        refine region_rgx ([(7, (fun u => u = .agg #[.int .i64 qa, .int .i64 qb, .int .i64 qc] : Value → Prop), (fun _ _ => True : (Nat → GV) → World → Prop))]) (w4) (by kernel_rfl) (by kernel_rfl) ?_ ?_ ?_
        · exact List.forall_mem_cons.2 ⟨⟨⟨_, rfl⟩, fun _ _ _ _ _ => trivial, fun _ _ _ _ _ => trivial⟩, List.forall_mem_nil _⟩
        · first | assumption | exact Ext.refl _
        refine rg_pure (v := .agg #[.int .i64 ta, .int .i64 tb, .int .i64 tc]) rfl (by kernel_rfl) (by kernel_rfl) (fun w hS hN => ?_) ?_
        · clear hN
          exact givesP_load 115 _ rfl _ (by go_simp) ([.int .i64 ta, .int .i64 tb, .int .i64 tc]) _ rfl _ (range_row (hS.blk HB4.out)) Try.underlying115 rfl (by kernel_rfl)
        refine rg_pure (v := ?_) rfl (by kernel_rfl) (by kernel_rfl) (fun w hS hN => ?_) ?_
        rotate_left 1
        · clear hN
          go_simp
          try simp only [e1]
          refine givesP_mk ?_
          with_reducible rfl
        refine rg_pure (v := ?_) rfl (by kernel_rfl) (by kernel_rfl) (fun w hS hN => ?_) ?_
        rotate_left 1
        · have k1 := st1 ((HX4.out.trans hS).blk HB1.out)
          clear hN
          go_simp
          try simp only [e1]
          refine givesP_mk ?_
          with_reducible rfl
        refine rg_pure (v := ?_) rfl (by kernel_rfl) (by kernel_rfl) (fun w hS hN => ?_) ?_
        rotate_left 1
        · clear hN
          go_simp
          try simp only [e1]
          refine givesP_mk ?_
          with_reducible rfl
        refine rg_pure (v := ?_) rfl (by kernel_rfl) (by kernel_rfl) (fun w hS hN => ?_) ?_
        rotate_left 1
        · clear hN
          go_simp
          try simp only [e1]
          refine givesP_mk ?_
          with_reducible rfl
        refine rg_pure (v := ?_) rfl (by kernel_rfl) (by kernel_rfl) (fun w hS hN => ?_) ?_
        rotate_left 1
        · clear hN
          go_simp
          try simp only [e1]
          refine givesP_mk ?_
          with_reducible rfl
        refine rg_pure (v := ?_) rfl (by kernel_rfl) (by kernel_rfl) (fun w hS hN => ?_) ?_
        rotate_left 1
        · have k2 := HG2.out w hS
          clear hN
          go_simp
          try simp only [e1]
          refine givesP_mk ?_
          with_reducible rfl
        refine rg_mem (fun u => u = .agg #[.int .i64 qa, .int .i64 qb, .int .i64 qc] : Value → Prop) (fun _ _ => True : (Nat → GV) → World → Prop) (fun _ => Ext) rfl rfl rfl rfl (by kernel_rfl) (by kernel_rfl) (fun w hS hN R hR => ?_) ?_
        · have HR := Lib.hid hR
          clear hR
          (try clear hN)
          go_simp
          refine givesM_call ((HWA.out w).mono ?_)
          rintro e w' ⟨rfl, hx⟩
          exact ⟨_, rfl, HR.out _ _ rfl trivial hx⟩
        rintro u7 s7 t7 rfl
        refine rg_pure (v := ?_) rfl (by kernel_rfl) (by kernel_rfl) (fun w hS hN => ?_) ?_
        rotate_left 1
        · clear hN
          go_simp
          try simp only [e1]
          refine givesP_mk ?_
          with_reducible rfl
        refine rg_pure (v := ?_) rfl (by kernel_rfl) (by kernel_rfl) (fun w hS hN => ?_) ?_
        rotate_left 1
        · clear hN
          go_simp
          try simp only [e1]
          refine givesP_mk ?_
          with_reducible rfl
        refine rg_no rfl (by kernel_rfl) (by kernel_rfl) ?_
        refine rg_no rfl (by kernel_rfl) (by kernel_rfl) ?_
        refine rg_no rfl (by kernel_rfl) (by kernel_rfl) ?_
        refine rg_no rfl (by kernel_rfl) (by kernel_rfl) ?_
        refine rg_no rfl (by kernel_rfl) (by kernel_rfl) ?_
        refine rg_pure (v := ?_) rfl (by kernel_rfl) (by kernel_rfl) (fun w hS hN => ?_) ?_
        rotate_left 1
        · clear hN
          go_simp
          try simp only [e1]
          refine givesP_mk ?_
          with_reducible rfl
        refine rg_done rfl (Nat.le_of_ble_eq_true (by kernel_rfl)) ?_
        intro w8 hS hT
        have HX8 := Lib.hid (HX4.out.trans hS)
        clear hT hS hq
        go_simp
        go_wp2
        go_ret
        exact ⟨by rw [HNO.out] <;> rfl, HX1.out.trans HX8.out⟩
      | true =>
        have hq : ∀ w, (Op.equalIn 10000 115 (.agg #[.int .i64 ta, .int .i64 tb, .int .i64 tc]) (.agg #[.int .i64 qa, .int .i64 qb, .int .i64 qc])).run Try.prog w = .ok true w := fun w => by rw [← be]; exact HEQ.out w
        have HOK2 : Hid (s.placeOk k g = bh) := Lib.hid (by rw [HOK.out, be]; rfl)
        clear be
        refine region_rgx ([(7, (fun u => u = .agg #[.int .i64 qa, .int .i64 qb, .int .i64 qc] : Value → Prop), (fun _ _ => True : (Nat → GV) → World → Prop)), (13, (fun u => u = .bool bh : Value → Prop), (fun _ _ => True : (Nat → GV) → World → Prop))]) (w4) (by kernel_rfl) (by kernel_rfl) ?_ ?_ ?_
        · exact List.forall_mem_cons.2 ⟨⟨⟨_, rfl⟩, fun _ _ _ _ _ => trivial, fun _ _ _ _ _ => trivial⟩, List.forall_mem_cons.2 ⟨⟨⟨_, rfl⟩, fun _ _ _ _ _ => trivial, fun _ _ _ _ _ => trivial⟩, List.forall_mem_nil _⟩⟩
        · first | assumption | exact Ext.refl _
        refine rg_pure (v := .agg #[.int .i64 ta, .int .i64 tb, .int .i64 tc]) rfl (by kernel_rfl) (by kernel_rfl) (fun w hS hN => ?_) ?_
        · clear hN
          exact givesP_load 115 _ rfl _ (by go_simp) ([.int .i64 ta, .int .i64 tb, .int .i64 tc]) _ rfl _ (range_row (hS.blk HB4.out)) Try.underlying115 rfl (by kernel_rfl)
        refine rg_pure (v := ?_) rfl (by kernel_rfl) (by kernel_rfl) (fun w hS hN => ?_) ?_
        rotate_left 1
        · clear hN
          go_simp
          try simp only [e1]
          refine givesP_mk ?_
          with_reducible rfl
        refine rg_pure (v := ?_) rfl (by kernel_rfl) (by kernel_rfl) (fun w hS hN => ?_) ?_
        rotate_left 1
        · have k1 := st1 ((HX4.out.trans hS).blk HB1.out)
          clear hN
          go_simp
          try simp only [e1]
          refine givesP_mk ?_
          with_reducible rfl
        refine rg_pure (v := ?_) rfl (by kernel_rfl) (by kernel_rfl) (fun w hS hN => ?_) ?_
        rotate_left 1
        · clear hN
          go_simp
          try simp only [e1]
          refine givesP_mk ?_
          with_reducible rfl
        refine rg_pure (v := ?_) rfl (by kernel_rfl) (by kernel_rfl) (fun w hS hN => ?_) ?_
        rotate_left 1
        · clear hN
          go_simp
          try simp only [e1]
          refine givesP_mk ?_
          with_reducible rfl
        refine rg_pure (v := ?_) rfl (by kernel_rfl) (by kernel_rfl) (fun w hS hN => ?_) ?_
        rotate_left 1
        · clear hN
          go_simp
          try simp only [e1]
          refine givesP_mk ?_
          with_reducible rfl
        refine rg_pure (v := ?_) rfl (by kernel_rfl) (by kernel_rfl) (fun w hS hN => ?_) ?_
        rotate_left 1
        · have k2 := HG2.out w hS
          clear hN
          go_simp
          try simp only [e1]
          refine givesP_mk ?_
          with_reducible rfl
        refine rg_mem (fun u => u = .agg #[.int .i64 qa, .int .i64 qb, .int .i64 qc] : Value → Prop) (fun _ _ => True : (Nat → GV) → World → Prop) (fun _ => Ext) rfl rfl rfl rfl (by kernel_rfl) (by kernel_rfl) (fun w hS hN R hR => ?_) ?_
        · have HR := Lib.hid hR
          clear hR
          (try clear hN)
          go_simp
          refine givesM_call ((HWA.out w).mono ?_)
          rintro e w' ⟨rfl, hx⟩
          exact ⟨_, rfl, HR.out _ _ rfl trivial hx⟩
        rintro u7 s7 t7 rfl
        refine rg_pure (v := ?_) rfl (by kernel_rfl) (by kernel_rfl) (fun w hS hN => ?_) ?_
        rotate_left 1
        · clear hN
          go_simp
          try simp only [e1]
          refine givesP_mk ?_
          with_reducible rfl
        refine rg_pure (v := ?_) rfl (by kernel_rfl) (by kernel_rfl) (fun w hS hN => ?_) ?_
        rotate_left 1
        · clear hN
          go_simp
          try simp only [e1]
          refine givesP_mk ?_
          with_reducible rfl
        refine rg_pure (v := stV h s) rfl (by kernel_rfl) (by kernel_rfl) (fun w hS hN => ?_) ?_
        · clear hN
          exact givesP_load 32 _ rfl _ (by go_simp) (stL h s) _ rfl _ (range_row ((HX4.out.trans hS).blk HB1.out)) Try.underlying32 rfl (by kernel_rfl)
        refine rg_pure (v := ?_) rfl (by kernel_rfl) (by kernel_rfl) (fun w hS hN => ?_) ?_
        rotate_left 1
        · clear hN
          go_simp
          try simp only [e1]
          refine givesP_mk ?_
          with_reducible rfl
        refine rg_pure (v := ?_) rfl (by kernel_rfl) (by kernel_rfl) (fun w hS hN => ?_) ?_
        rotate_left 1
        · clear hN
          go_simp
          try simp only [e1]
          refine givesP_mk ?_
          with_reducible rfl
        refine rg_mem (fun u => u = .bool bh : Value → Prop) (fun _ _ => True : (Nat → GV) → World → Prop) (fun _ => Ext) rfl rfl rfl rfl (by kernel_rfl) (by kernel_rfl) (fun w hS hN R hR => ?_) ?_
        · have HR := Lib.hid hR
          clear hR
          (try clear hN)
          go_simp
          refine givesM_call ((smayHold_any h s k g HG.out bh HBH.out w (HK1.out.ext (HX4.out.trans hS)) HFW.out).mono ?_)
          rintro e w' ⟨rfl, hx⟩
          exact ⟨_, rfl, HR.out _ _ rfl trivial hx⟩
        rintro u13 s13 t13 rfl
        refine rg_pure (v := ?_) rfl (by kernel_rfl) (by kernel_rfl) (fun w hS hN => ?_) ?_
        rotate_left 1
        · clear hN
          go_simp
          try simp only [e1]
          refine givesP_mk ?_
          with_reducible rfl
        refine rg_pure (v := ?_) rfl (by kernel_rfl) (by kernel_rfl) (fun w hS hN => ?_) ?_
        rotate_left 1
        · clear hN
          go_simp
          try simp only [e1]
          refine givesP_mk ?_
          with_reducible rfl
        refine rg_done rfl (Nat.le_of_ble_eq_true (by kernel_rfl)) ?_
        intro w8 hS hT
        have HX8 := Lib.hid (HX4.out.trans hS)
        have HX28 := Lib.hid (HX24.out.trans hS)
        clear hT hS hq
        cases bh with
        | false =>
          have HNO : Hid (s.places = false) := Lib.hid (HST.out HOK2.out)
          go_simp
          go_wp2
          go_ret
          exact ⟨by rw [HNO.out] <;> rfl, HX1.out.trans HX8.out⟩
        | true =>
          go_simp
          go_wp2
          go_roundw
          case rel =>
            refine ⟨k + 1, by omega, by go_num, fun i y hi hij => ?_, HX28.out⟩
            by_cases hij2 : i < k
            · exact HALL.out i y hi hij2
            · obtain rfl : i = k := by omega
              rw [← some_eq HG.out hi]
              exact HOK2.out
          case measure => simp [intOf]; omega
    · obtain rfl : k = s.gs.length := by omega
      have HY : Hid (s.places = true) := Lib.hid (by rw [HPL2.out]; exact allIx_yes fun j l hj => HALL.out j l hj (List.getElem?_eq_some_iff.1 hj).1)
      go_wp2
      go_ret
      exact ⟨by rw [HY.out] <;> rfl, HX1.out.trans (HX2.out.trans HX.out)⟩
theorem count_split (n : Int) : ∀ ms : List (Int × Int), ((ms.filter fun m => m.2 != 0).map Prod.snd).count n = ((ms.filter fun m => m.2 != 0 && ((m.1 != 0) == true)).map Prod.snd).count n + ((ms.filter fun m => m.2 != 0 && ((m.1 != 0) == false)).map Prod.snd).count n
  | [] => rfl
  | m :: ms => by
    have ih := count_split n ms
    obtain ⟨a, b⟩ := m
    simp only [List.filter_cons]
    cases hb : (b != 0) with
    | false => simp only [Bool.false_and, Bool.false_eq_true, if_false]; exact ih
    | true =>
      cases ha : (a != 0) with
      | false => simp only [Bool.true_and, if_true, List.map_cons, List.count_cons, beq_self_eq_true, show ((false == true) = true) = False by simp, if_false]; omega
      | true => simp only [Bool.true_and, if_true, List.map_cons, List.count_cons, beq_self_eq_true, show ((true == false) = true) = False by simp, if_false]; omega
theorem St.onAll_times (s : St) (n : Int) : St.times s.onAll n = St.times (s.onM true) n + St.times (s.onM false) n := count_split n s.ms
theorem St.mem_onM {s : St} {b : Bool} {n : Int} : n ∈ s.onM b ↔ ∃ m ∈ s.ms, m.2 = n ∧ n ≠ 0 ∧ (m.1 != 0) = b := by
  unfold St.onM
  simp only [List.mem_map, List.mem_filter, Bool.and_eq_true, bne_iff_ne, beq_iff_eq]
  constructor
  · rintro ⟨m, ⟨h1, h2, h3⟩, rfl⟩; exact ⟨m, h1, rfl, h2, h3⟩
  · rintro ⟨m, h1, rfl, h2, h3⟩; exact ⟨m, ⟨h1, h2, h3⟩, rfl⟩
theorem St.mem_onAll {s : St} {n : Int} : n ∈ s.onAll ↔ n ∈ s.onM true ∨ n ∈ s.onM false := by
  simp only [St.mem_onM]
  unfold St.onAll
  simp only [List.mem_map, List.mem_filter, bne_iff_ne]
  constructor
  · rintro ⟨m, ⟨h1, h2⟩, rfl⟩
    cases h : (m.1 != 0) with
    | true => exact .inl ⟨m, h1, rfl, h2, by simpa using h⟩
    | false => exact .inr ⟨m, h1, rfl, h2, by simpa using h⟩
  · rintro (⟨m, h1, rfl, h2, _⟩ | ⟨m, h1, rfl, h2, _⟩) <;> exact ⟨m, ⟨h1, h2⟩, rfl⟩
theorem St.within_iff {l : List Int} {n : Int} : St.within l n = true ↔ ∀ x ∈ l, 1 ≤ x ∧ x ≤ n := by unfold St.within; simp
theorem St.allIn_eq (s : St) : allW (l3 s.runs s.waiters s.onAll) s.gs.length = s.allIn := by
  rw [Bool.eq_iff_iff]
  unfold allW St.allIn
  simp only [Bool.and_eq_true, St.within_iff, l3, St.mem_onAll]
  constructor
  · rintro ⟨⟨h1, h2⟩, h3⟩; exact ⟨⟨⟨h1, h2⟩, fun x hx => h3 x (.inl hx)⟩, fun x hx => h3 x (.inr hx)⟩
  · rintro ⟨⟨⟨h1, h2⟩, h3⟩, h4⟩; exact ⟨⟨h1, h2⟩, fun x hx => hx.elim (h3 x) (h4 x)⟩
theorem St.onM_pos {s : St} {j : Nat} {x : Int × Int} (hx : s.ms[j]? = some x) (h0 : x.2 ≠ 0) : 1 ≤ St.times (s.onM (x.1 != 0)) x.2 := by
  unfold St.times
  exact List.count_pos_iff.2 (St.mem_onM.2 ⟨x, List.mem_of_getElem? hx, rfl, h0, rfl⟩)
theorem St.place_stands (s : St) (i : Nat) (g : Gr) (hs : 1 ≤ g.st ∧ g.st ≤ 5) : s.placeOk i g = s.stands i g := by
  have hc := s.onAll_times ((i : Int) + 1)
  have hp := fun (x : Int × Int) (j : Nat) (hx : s.ms[j]? = some x) (h0 : x.2 = (i : Int) + 1) => s.onM_pos hx (by omega : x.2 ≠ 0)
  unfold St.placeOk St.stands St.holdG
  rw [hc]
  generalize St.times s.runs ((i : Int) + 1) = a
  generalize St.times s.waiters ((i : Int) + 1) = b
  obtain ⟨fn, pc, st, m, sq⟩ := g
  simp only at hs ⊢
  rw [decide_eq_true hs, Bool.true_and]
  by_cases h24 : st ≠ 2 ∧ st ≠ 4
  · rw [if_pos h24, if_pos h24]
    generalize St.times (s.onM true) ((i : Int) + 1) = c
    generalize St.times (s.onM false) ((i : Int) + 1) = d
    congr 1
    obtain rfl | rfl | rfl : st = 1 ∨ st = 3 ∨ st = 5 := by omega
    all_goals
      rw [decide_eq_decide]
      simp [St.wanted, St.want]
      omega
  · rw [if_neg h24, if_neg h24, Bool.eq_iff_iff]
    simp only [Bool.and_eq_true, decide_eq_true_eq, wiB_iff, beq_iff_eq]
    by_cases hm : 1 ≤ m ∧ m ≤ (s.ms.length : Int)
    · obtain ⟨j, rfl⟩ : ∃ j : Nat, m = (j : Int) + 1 := ⟨(m - 1).toNat, by omega⟩
      obtain ⟨x, hx⟩ : ∃ x, s.ms[j]? = some x := ⟨_, List.getElem?_eq_getElem (by omega)⟩
      rw [show ((j : Int) + 1 - 1).toNat = j by omega]
      simp only [List.getD, hx, Option.getD_some]
      have hpx := hp x j hx
      by_cases h2 : x.2 = (i : Int) + 1
      · have hpx := hpx h2
        rw [h2] at hpx
        cases hb : (x.1 != 0) with
        | true =>
          rw [hb] at hpx
          generalize St.times (s.onM true) ((i : Int) + 1) = c at *
          generalize St.times (s.onM false) ((i : Int) + 1) = d at *
          obtain rfl | rfl : st = 2 ∨ st = 4 := by omega
          all_goals
            simp [St.wanted, St.want, h2, hm]
            omega
        | false =>
          rw [hb] at hpx
          generalize St.times (s.onM true) ((i : Int) + 1) = c at *
          generalize St.times (s.onM false) ((i : Int) + 1) = d at *
          obtain rfl | rfl : st = 2 ∨ st = 4 := by omega
          all_goals
            simp [St.wanted, St.want, h2, hm]
            omega
      · simp [h2]
    · simp [hm]
theorem St.may_eq (s : St) : (s.whole && s.counts && s.gs.all s.pGood && allIx s.holdP 0 s.ps && allIx s.holdM 0 s.ms && s.places) = s.may := by
  rw [Bool.eq_iff_iff]
  unfold St.may St.places St.goods St.holds
  rw [St.allIn_eq]
  simp only [Bool.and_eq_true, List.all_eq_true, allIx_iff (f := s.placeOk), allIx_iff (f := s.stands), Nat.zero_add]
  constructor
  · rintro ⟨⟨⟨⟨⟨h1, h2⟩, h3⟩, h4⟩, h5⟩, h6, h7⟩
    refine ⟨⟨⟨⟨⟨h1, fun g hg => ?_⟩, h4, h5⟩, h2⟩, h6⟩, fun j g hg => ?_⟩
    · have := h3 g hg; unfold St.pGood at this; rw [Bool.and_eq_true] at this; exact this.1
    · have := h3 g (List.mem_of_getElem? hg); unfold St.pGood at this; rw [Bool.and_eq_true] at this
      rw [← St.place_stands s j g (wiB_iff.1 this.2)]
      exact h7 j g hg
  · rintro ⟨⟨⟨⟨⟨h1, h3⟩, h4, h5⟩, h2⟩, h6⟩, h7⟩
    have hst : ∀ (j : Nat) g, s.gs[j]? = some g → 1 ≤ g.st ∧ g.st ≤ 5 := fun j g hg => by
      have := h7 j g hg
      unfold St.stands at this
      rw [Bool.and_eq_true, Bool.and_eq_true, decide_eq_true_eq] at this
      exact this.1.1
    refine ⟨⟨⟨⟨⟨h1, h2⟩, fun g hg => ?_⟩, h4⟩, h5⟩, h6, fun j g hg => ?_⟩
    · obtain ⟨j, hj⟩ := List.mem_iff_getElem?.1 hg
      unfold St.pGood
      rw [h3 g hg, wiB_iff.2 (hst j g hj)]; rfl
    · rw [St.place_stands s j g (hst j g hg)]
      exact h7 j g hg
theorem holdM_no {s : St} {i : Nat} {m : Int × Int} (h : ¬ (0 ≤ m.1 ∧ m.1 ≤ s.ps.length)) : s.holdM i m = false := by unfold St.holdM; rw [decide_eq_false h]; rfl
theorem holdM_no2 {s : St} {i : Nat} {m : Int × Int} (h : ¬ (0 < m.1 → (s.ps.getD (m.1 - 1).toNat St.nilP).m = i + 1)) : s.holdM i m = false := by unfold St.holdM; rw [decide_eq_false h, Bool.and_false]
theorem holdM_yes {s : St} {i : Nat} {m : Int × Int} (h : 0 ≤ m.1 ∧ m.1 ≤ s.ps.length) (h2 : 0 < m.1 → (s.ps.getD (m.1 - 1).toNat St.nilP).m = i + 1) : s.holdM i m = true := by unfold St.holdM; rw [decide_eq_true h, decide_eq_true h2]; rfl
set_option maxRecDepth 100000 in
set_option maxHeartbeats 8000000 in
theorem smayMs_any (h : StH) (s : St) (r : Bool) (hr : allIx s.holdM 0 s.ms = r) (w : World) (hk : StOk w h s) (hf : StFew s) : Calls Try.prog 46 #[stV h s] w fun e w' => e = .returned (.bool r) ∧ Ext w w' := by
  subst hr
  have f1 := hf.ms
  have f2 := hf.ps
  have HK := Lib.hid hk
  obtain ⟨w1, hw1⟩ : ∃ w1, w.alloc (.cells #[.slice h.pa s.prog.length h.pc, .slice h.ga s.gs.length h.gc, .slice h.qa s.ps.length h.qc, .slice h.ma s.ms.length h.mc, .slice h.la s.glob.length h.lc, .int .i64 s.c0, .int .i64 s.c1, .int .i64 s.c2, .int .i64 s.c3, .slice h.a0 s.w0.length h.k0, .slice h.a1 s.w1.length h.k1, .slice h.a2 s.w2.length h.k2, .slice h.a3 s.w3.length h.k3, .slice h.ta s.timers.length h.tc, .int .i64 s.clock, .int .i64 s.procs] 32) = w1 := ⟨_, rfl⟩
  have HX1 : Hid (Ext w w1) := Lib.hid (by rw [← hw1]; exact (Ext.refl w).alloc _)
  have HB1 : Hid (w1.heap[w.heap.size]? = some (.cells (stC h s) 32 (0, 0))) := Lib.hid (by rw [← hw1]; exact blk_new w _)
  have HK1 := Lib.hid (hk.ext HX1.out)
  have HW1 := Lib.hid hw1
  clear hw1 hk
  clear hf
  have q3 := st3 HB1.out
  unfold stV
  go_enter Try.func46, Try.ntmps46
  go_upto_region 1 with fail
  rw [HW1.out]
  generalize Value.agg #[.slice h.pa s.prog.length h.pc, .slice h.ga s.gs.length h.gc, .slice h.qa s.ps.length h.qc, .slice h.ma s.ms.length h.mc, .slice h.la s.glob.length h.lc, .int .i64 s.c0, .int .i64 s.c1, .int .i64 s.c2, .int .i64 s.c3, .slice h.a0 s.w0.length h.k0, .slice h.a1 s.w1.length h.k1, .slice h.a2 s.w2.length h.k2, .slice h.a3 s.w3.length h.k3, .slice h.ta s.timers.length h.tc, .int .i64 s.clock, .int .i64 s.procs] = sv0
  go_wp2_with fail
  clear q3
  obtain ⟨ma, hma⟩ : ∃ ma, h.ma = ma := ⟨_, rfl⟩
  have HMA := Lib.hid hma
  rw [hma]
  clear hma
  go_loopw [8] (fun iv wr => ∃ k : Nat, k ≤ s.ms.length ∧ iv = .int .i64 k ∧ (∀ (j : Nat) g, s.ms[j]? = some g → j < k → s.holdM j g = true) ∧ Ext w1 wr) (fun iv _ => s.ms.length - (intOf iv).toNat)
  case atStart => exact ⟨0, by omega, rfl, fun j l _ h => by omega, Ext.refl _⟩
  case round =>
    obtain ⟨k, hk, rfl, hall, hx⟩ := hrel
    have HALL := Lib.hid hall
    have HX := Lib.hid hx
    clear hall hx
    by_cases hlt : k < s.ms.length
    · obtain ⟨x, hx⟩ : ∃ x, s.ms[k]? = some x := ⟨_, List.getElem?_eq_getElem hlt⟩
      have HG := Lib.hid hx
      have HST : Hid (s.holdM k x = false → allIx s.holdM 0 s.ms = false) := Lib.hid fun h => allIx_no hx h
      obtain ⟨b, o, hA, hb, c0, c1⟩ := frs2_get (HK1.out.ext HX.out).ms hx
      rw [HMA.out] at hA
      subst hA
      obtain ⟨m, g⟩ := x
      simp only at c0 c1
      obtain ⟨w3, hw3⟩ : ∃ w3, wr.alloc (.cells #[.int .i64 m, .int .i64 g] 57) = w3 := ⟨_, rfl⟩
      have HW3 := Lib.hid hw3
      have HX4 : Hid (Ext w1 w3) := Lib.hid (by rw [← hw3]; exact HX.out.alloc _)
      have hq : w3.heap[wr.heap.size]? = some (.cells #[.int .i64 m, .int .i64 g] 57 (0, 0)) := by rw [← hw3]; exact blk_new wr _
      have z0 := blk_cell hq 0 _ rfl
      have y2 := st2 (HX4.out.blk HB1.out)
      clear hx hb hw3 hq
      by_cases a0 : m = 0
      · subst a0
        have HYES : Hid (s.holdM k (0, g) = true) := Lib.hid (holdM_yes (by simp) (fun h => by simp at h))
        go_wp2_with (rw [HW3.out])
        go_roundw
        case rel =>
          refine ⟨k + 1, by omega, by go_num, fun i y hi hij => ?_, HX4.out⟩
          by_cases hij2 : i < k
          · exact HALL.out i y hi hij2
          · obtain rfl : i = k := by omega
            rw [← some_eq HG.out hi]
            exact HYES.out
        case measure => simp [intOf]; omega
      · have a0' : (m != 0) = true := by simpa using a0
        have HA0 := Lib.hid a0
        clear a0
        cases bb : wiB m 1 (s.ps.length : Int) with
        | false =>
          have HNO : Hid (allIx s.holdM 0 s.ms = false) := Lib.hid (HST.out (holdM_no (fun h => by
            have := HA0.out
            rw [wiB_iff.2 (show 1 ≤ m ∧ m ≤ (s.ps.length : Int) by have := h.1; have := h.2; simp only at *; omega)] at bb
            cases bb)))
          go_wp2_with (rw [HW3.out])
          refine (swithin_any m 1 (s.ps.length : Int) _).mono ?_
          rintro e w' ⟨rfl, rfl⟩
          go_wp2
          (go_ret; exact ⟨by rw [HNO.out] <;> rfl, HX1.out.trans HX4.out⟩)
        | true =>
          obtain ⟨fb1, fb2⟩ := wiB_iff.1 bb
          obtain ⟨j, hj⟩ : ∃ j : Nat, m = (j : Int) + 1 := ⟨(m - 1).toNat, by omega⟩
          subst hj
          obtain ⟨p, hp⟩ : ∃ p, s.ps[j]? = some p := ⟨_, List.getElem?_eq_getElem (by omega)⟩
          obtain ⟨pm, nx, r, sq⟩ := p
          obtain ⟨b0, b1, b2, b3, b4, b5, b6, b7, hd, nn, rfl⟩ := Ri.open8 (HK.out.buf _ (List.mem_of_getElem? hp))
          obtain ⟨bp, op, hAp, hbp, hcp⟩ := ps_get (HK1.out.ext HX4.out).ps hp
          have c0' := hcp.1.1
          have HMX : Hid ((s.ps.getD ((j : Int) + 1 - 1).toNat St.nilP).m = pm) := Lib.hid (by
            rw [show ((j : Int) + 1 - 1).toNat = j by omega, List.getD, hp]; rfl)
          have HM3 : Hid (0 ≤ (j : Int) + 1 ∧ (j : Int) + 1 ≤ s.ps.length) := Lib.hid ⟨by omega, fb2⟩
          have e1 : (j : Int) + 1 - 1 = (j : Int) := by omega
          have e4 : (j : Int) < (s.ps.length : Int) := by omega
          clear hcp hp hbp fb1
          go_wp2_with (rw [HW3.out])
          refine (swithin_any ((j : Int) + 1) 1 (s.ps.length : Int) _).mono ?_
          rintro e w' ⟨rfl, rfl⟩
          by_cases d0 : pm = (k : Int) + 1
          · subst d0
            have HYES : Hid (s.holdM k ((j : Int) + 1, g) = true) := Lib.hid (holdM_yes HM3.out (fun _ => HMX.out))
            go_wp2
            go_roundw
            case rel =>
              refine ⟨k + 1, by omega, by go_num, fun i y hi hij => ?_, HX4.out⟩
              by_cases hij2 : i < k
              · exact HALL.out i y hi hij2
              · obtain rfl : i = k := by omega
                rw [← some_eq HG.out hi]
                exact HYES.out
            case measure => simp [intOf]; omega
          · have HNO : Hid (allIx s.holdM 0 s.ms = false) := Lib.hid (HST.out (holdM_no2 (fun h => d0 (by have := h (by simp only; omega); simp only [HMX.out] at this; exact this))))
            have d0' : (pm != (k : Int) + 1) = true := by simpa using d0
            clear d0
            go_wp2
            (go_ret; exact ⟨by rw [HNO.out] <;> rfl, HX1.out.trans HX4.out⟩)
    · obtain rfl : k = s.ms.length := by omega
      have HY : Hid (allIx s.holdM 0 s.ms = true) := Lib.hid (allIx_yes fun j l hj => HALL.out j l hj (List.getElem?_eq_some_iff.1 hj).1)
      go_wp2
      go_ret
      exact ⟨by rw [HY.out] <;> rfl, HX1.out.trans HX.out⟩
set_option maxRecDepth 100000 in
set_option maxHeartbeats 16000000 in
theorem smayPs_any (h : StH) (s : St) (r : Bool) (hr : allIx s.holdP 0 s.ps = r) (w : World) (hk : StOk w h s) (hf : StFew s) : Calls Try.prog 45 #[stV h s] w fun e w' => e = .returned (.bool r) ∧ Ext w w' := by
  subst hr
  have f1 := hf.ms
  have f2 := hf.ps
  have HK := Lib.hid hk
  obtain ⟨w1, hw1⟩ : ∃ w1, w.alloc (.cells #[.slice h.pa s.prog.length h.pc, .slice h.ga s.gs.length h.gc, .slice h.qa s.ps.length h.qc, .slice h.ma s.ms.length h.mc, .slice h.la s.glob.length h.lc, .int .i64 s.c0, .int .i64 s.c1, .int .i64 s.c2, .int .i64 s.c3, .slice h.a0 s.w0.length h.k0, .slice h.a1 s.w1.length h.k1, .slice h.a2 s.w2.length h.k2, .slice h.a3 s.w3.length h.k3, .slice h.ta s.timers.length h.tc, .int .i64 s.clock, .int .i64 s.procs] 32) = w1 := ⟨_, rfl⟩
  have HX1 : Hid (Ext w w1) := Lib.hid (by rw [← hw1]; exact (Ext.refl w).alloc _)
  have HB1 : Hid (w1.heap[w.heap.size]? = some (.cells (stC h s) 32 (0, 0))) := Lib.hid (by rw [← hw1]; exact blk_new w _)
  have HK1 := Lib.hid (hk.ext HX1.out)
  have HW1 := Lib.hid hw1
  clear hw1 hk
  clear hf
  have q2 := st2 HB1.out
  unfold stV
  go_enter Try.func45, Try.ntmps45
  go_upto_region 1 with fail
  rw [HW1.out]
  generalize Value.agg #[.slice h.pa s.prog.length h.pc, .slice h.ga s.gs.length h.gc, .slice h.qa s.ps.length h.qc, .slice h.ma s.ms.length h.mc, .slice h.la s.glob.length h.lc, .int .i64 s.c0, .int .i64 s.c1, .int .i64 s.c2, .int .i64 s.c3, .slice h.a0 s.w0.length h.k0, .slice h.a1 s.w1.length h.k1, .slice h.a2 s.w2.length h.k2, .slice h.a3 s.w3.length h.k3, .slice h.ta s.timers.length h.tc, .int .i64 s.clock, .int .i64 s.procs] = sv0
  go_wp2_with fail
  clear q2
  obtain ⟨qa, hqa⟩ : ∃ qa, h.qa = qa := ⟨_, rfl⟩
  have HQA := Lib.hid hqa
  rw [hqa]
  clear hqa
  go_loopw [8] (fun iv wr => ∃ k : Nat, k ≤ s.ps.length ∧ iv = .int .i64 k ∧ (∀ (j : Nat) g, s.ps[j]? = some g → j < k → s.holdP j g = true) ∧ Ext w1 wr) (fun iv _ => s.ps.length - (intOf iv).toNat)
  case atStart => exact ⟨0, by omega, rfl, fun j l _ h => by omega, Ext.refl _⟩
  case round =>
    obtain ⟨k, hk, rfl, hall, hx⟩ := hrel
    have HALL := Lib.hid hall
    have HX := Lib.hid hx
    clear hall hx
    by_cases hlt : k < s.ps.length
    · obtain ⟨p, hp⟩ : ∃ p, s.ps[k]? = some p := ⟨_, List.getElem?_eq_getElem hlt⟩
      have HST : Hid (s.holdP k p = false → allIx s.holdP 0 s.ps = false) := Lib.hid fun h => allIx_no hp h
      obtain ⟨m, nx, r, sq⟩ := p
      obtain ⟨b0, b1, b2, b3, b4, b5, b6, b7, hd, nn, rfl⟩ := Ri.open8 (HK.out.buf _ (List.mem_of_getElem? hp))
      have HG := Lib.hid hp
      obtain ⟨b, o, hA, hb, hc⟩ := ps_get (HK1.out.ext HX.out).ps hp
      rw [HQA.out] at hA
      subst hA
      obtain ⟨⟨p0, p1, p2, p3, p4, p5, p6⟩, p7, p8, p9, p10, p11, p12⟩ := hc
      obtain ⟨w3, hw3⟩ : ∃ w3, wr.alloc (.cells #[.int .i64 m, .int .i64 nx, .int .i64 b0, .int .i64 b1, .int .i64 b2, .int .i64 b3, .int .i64 b4, .int .i64 b5, .int .i64 b6, .int .i64 b7, .int .i64 hd, .int .i64 nn, .int .i64 sq] 40) = w3 := ⟨_, rfl⟩
      have HW3 := Lib.hid hw3
      have HX3 : Hid (Ext w1 w3) := Lib.hid (by rw [← hw3]; exact HX.out.alloc _)
      have HQ3 : Hid (w3.heap[wr.heap.size]? = some (.cells #[.int .i64 m, .int .i64 nx, .int .i64 b0, .int .i64 b1, .int .i64 b2, .int .i64 b3, .int .i64 b4, .int .i64 b5, .int .i64 b6, .int .i64 b7, .int .i64 hd, .int .i64 nn, .int .i64 sq] 40 (0, 0))) := Lib.hid (by rw [← hw3]; exact blk_new wr _)
      obtain ⟨mr, hmr⟩ : ∃ mr, Ri.may ⟨[b0, b1, b2, b3, b4, b5, b6, b7], hd, nn⟩ = mr := ⟨_, rfl⟩
      have HMR := Lib.hid hmr
      have HRM := Lib.hid (rmay_eq b0 b1 b2 b3 b4 b5 b6 b7 hd nn mr hmr w3)
      clear hp hb hw3 hmr
      go_upto_region 4 with fail
      rw [HW3.out]
      clear p0 p1 p2 p3 p4 p5 p6 p7 p8 p9 p10 p11 p12
      obtain ⟨⟨p0, p1, p2, p3, p4, p5, p6⟩, p7, p8, p9, p10, p11, p12⟩ := cells13 HQ3.out
      go_wp2_with fail
      refine HRM.out.mono ?_
      rintro e w4 ⟨rfl, hx4⟩
      have HX4 := Lib.hid (HX3.out.trans hx4)
      have HQ4 := Lib.hid (hx4.blk HQ3.out)
      clear p0 p1 p2 p3 p4 p5 p6 p7 p8 p9 p10 p11 p12
      clear hx4
      have y3 := st3 (HX4.out.blk HB1.out)
      have y15 := st15 (HX4.out.blk HB1.out)
      have z0 := blk_cell HQ4.out 0 _ rfl
      have z1 := blk_cell HQ4.out 1 _ rfl
      have z11 := blk_cell HQ4.out 11 _ rfl
      have z12 := blk_cell HQ4.out 12 _ rfl
      cases mr with
      | false =>
        have HNO : Hid (allIx s.holdP 0 s.ps = false) := Lib.hid (HST.out (holdP_no1 HMR.out))
        go_wp2
        (go_ret; exact ⟨by rw [HNO.out] <;> rfl, HX1.out.trans HX4.out⟩)
      | true =>
      have HNN : Hid (0 ≤ nn) := Lib.hid (by
        have hi : Ri.inside ⟨[b0, b1, b2, b3, b4, b5, b6, b7], hd, nn⟩ = true := by have := HMR.out; unfold Ri.may at this; rw [Bool.and_eq_true] at this; exact this.1
        exact ((Ri.inside_iff _).1 hi).2.1)
      go_wp2_with fail
      refine (smayNumber_any sq _).mono ?_
      rintro e w' ⟨rfl, rfl⟩
      cases hlow : St.low sq with
      | false =>
        have HNO : Hid (allIx s.holdP 0 s.ps = false) := Lib.hid (HST.out (holdP_no2 hlow))
        go_wp2
        (go_ret; exact ⟨by rw [HNO.out] <;> rfl, HX1.out.trans HX4.out⟩)
      | true =>
      have HLOW := Lib.hid hlow
      clear hlow
      by_cases a0 : m = 0
      · subst a0
        by_cases d1 : (k : Int) < s.procs
        · have HYES : Hid (s.holdP k ⟨0, nx, ⟨[b0, b1, b2, b3, b4, b5, b6, b7], hd, nn⟩, sq⟩ = true) := Lib.hid (holdP_yes HMR.out HLOW.out (by simp) (fun h => by simp at h) (.inl d1))
          go_wp2
          go_roundw
          case rel =>
            refine ⟨k + 1, by omega, by go_num, fun i y hi hij => ?_, HX4.out⟩
            by_cases hij2 : i < k
            · exact HALL.out i y hi hij2
            · obtain rfl : i = k := by omega
              rw [← some_eq HG.out hi]
              exact HYES.out
          case measure => simp [intOf]; omega
        · by_cases d2 : nx = 0
          · subst d2
            by_cases d3 : nn = 0
            · have HYES : Hid (s.holdP k ⟨0, 0, ⟨[b0, b1, b2, b3, b4, b5, b6, b7], hd, nn⟩, sq⟩ = true) := Lib.hid (holdP_yes HMR.out HLOW.out (by simp) (fun h => by simp at h) (.inr ⟨rfl, rfl, by simp only; omega⟩))
              subst d3
              go_wp2
              go_roundw
              case rel =>
                refine ⟨k + 1, by omega, by go_num, fun i y hi hij => ?_, HX4.out⟩
                by_cases hij2 : i < k
                · exact HALL.out i y hi hij2
                · obtain rfl : i = k := by omega
                  rw [← some_eq HG.out hi]
                  exact HYES.out
              case measure => simp [intOf]; omega
            · have HNO : Hid (allIx s.holdP 0 s.ps = false) := Lib.hid (HST.out (holdP_no5 (by omega) (.inr (.inr (by have := HNN.out; simp only; omega)))))
              have d3' : (nn != 0) = true := by simpa using d3
              clear d3
              go_wp2
              (go_ret; exact ⟨by rw [HNO.out] <;> rfl, HX1.out.trans HX4.out⟩)
          · have HNO : Hid (allIx s.holdP 0 s.ps = false) := Lib.hid (HST.out (holdP_no5 (by omega) (.inr (.inl d2))))
            have d2' : (nx != 0) = true := by simpa using d2
            clear d2
            go_wp2
            (go_ret; exact ⟨by rw [HNO.out] <;> rfl, HX1.out.trans HX4.out⟩)
      · have a0' : (m != 0) = true := by simpa using a0
        have HA0 := Lib.hid a0
        clear a0
        go_wp2_with fail
        refine (swithin_any m 1 (s.ms.length : Int) _).mono ?_
        rintro e w' ⟨rfl, rfl⟩
        cases bb : wiB m 1 (s.ms.length : Int) with
        | false =>
          have HNO : Hid (allIx s.holdP 0 s.ps = false) := Lib.hid (HST.out (holdP_no3 (fun h => by
            have := HA0.out
            rw [wiB_iff.2 (show 1 ≤ m ∧ m ≤ (s.ms.length : Int) by have := h.1; have := h.2; simp only at *; omega)] at bb
            cases bb)))
          go_wp2
          (go_ret; exact ⟨by rw [HNO.out] <;> rfl, HX1.out.trans HX4.out⟩)
        | true =>
          obtain ⟨fb1, fb2⟩ := wiB_iff.1 bb
          obtain ⟨j, hj⟩ : ∃ j : Nat, m = (j : Int) + 1 := ⟨(m - 1).toNat, by omega⟩
          subst hj
          obtain ⟨x, hx⟩ : ∃ x, s.ms[j]? = some x := ⟨_, List.getElem?_eq_getElem (by omega)⟩
          obtain ⟨bm, om, hAm, hbm, c0, c1⟩ := frs2_get (HK1.out.ext HX4.out).ms hx
          have HMX : Hid ((s.ms.getD ((j : Int) + 1 - 1).toNat (0, 0)).1 = x.1) := Lib.hid (by
            rw [show ((j : Int) + 1 - 1).toNat = j by omega, List.getD, hx]; rfl)
          have HM3 : Hid (0 ≤ (j : Int) + 1 ∧ (j : Int) + 1 ≤ s.ms.length) := Lib.hid ⟨by omega, fb2⟩
          have e1 : (j : Int) + 1 - 1 = (j : Int) := by omega
          have e4 : (j : Int) < (s.ms.length : Int) := by omega
          obtain ⟨xp, xg⟩ := x
          simp only at HMX c0
          clear hx hbm c1 fb1
          by_cases d0 : xp = (k : Int) + 1
          · subst d0
            by_cases d1 : (k : Int) < s.procs
            · have HYES : Hid (s.holdP k ⟨(j : Int) + 1, nx, ⟨[b0, b1, b2, b3, b4, b5, b6, b7], hd, nn⟩, sq⟩ = true) := Lib.hid (holdP_yes HMR.out HLOW.out HM3.out (fun _ => HMX.out) (.inl d1))
              go_wp2
              go_roundw
              case rel =>
                refine ⟨k + 1, by omega, by go_num, fun i y hi hij => ?_, HX4.out⟩
                by_cases hij2 : i < k
                · exact HALL.out i y hi hij2
                · obtain rfl : i = k := by omega
                  rw [← some_eq HG.out hi]
                  exact HYES.out
              case measure => simp [intOf]; omega
            · have HNO : Hid (allIx s.holdP 0 s.ps = false) := Lib.hid (HST.out (holdP_no5 (by omega) (.inl (by simp only; omega))))
              go_wp2
              (go_ret; exact ⟨by rw [HNO.out] <;> rfl, HX1.out.trans HX4.out⟩)
          · have HNO : Hid (allIx s.holdP 0 s.ps = false) := Lib.hid (HST.out (holdP_no4 (fun h => d0 (by have := h (by simp only; omega); simp only [HMX.out] at this; exact this))))
            have d0' : (xp != (k : Int) + 1) = true := by simpa using d0
            clear d0
            go_wp2
            (go_ret; exact ⟨by rw [HNO.out] <;> rfl, HX1.out.trans HX4.out⟩)
    · obtain rfl : k = s.ps.length := by omega
      have HY : Hid (allIx s.holdP 0 s.ps = true) := Lib.hid (allIx_yes fun j l hj => HALL.out j l hj (List.getElem?_eq_some_iff.1 hj).1)
      go_wp2
      go_ret
      exact ⟨by rw [HY.out] <;> rfl, HX1.out.trans HX.out⟩
def closF (b : Nat) : Value := .func (.func 128) #[] #[.pointer (some ⟨b, 0, none⟩)]
def closL (b : Nat) : Value := .func (.func 129) #[] #[.pointer (some ⟨b, 0, none⟩)]
def ClosAt (w : World) (v : Value) (m : Int) : Prop := ∃ b, (v = closF b ∧ w.heap[b]? = some (.cells #[.int .i64 m] 3 (0, 0))) ∨ (v = closL b ∧ w.heap[b]? = some (.cells #[.int .i64 (m + 1)] 3 (0, 0)))
theorem ClosAt.ext {w w' : World} {v : Value} {m : Int} (h : ClosAt w v m) (hx : Ext w w') : ClosAt w' v m := by
  obtain ⟨b, h | h⟩ := h
  · exact ⟨b, .inl ⟨h.1, hx.blk h.2⟩⟩
  · exact ⟨b, .inr ⟨h.1, hx.blk h.2⟩⟩
set_option maxHeartbeats 1000000 in
theorem closF_any (b : Nat) (m : Int) (w : World) (h : w.heap[b]? = some (.cells #[.int .i64 m] 3 (0, 0))) : Calls Try.prog 128 #[.pointer (some ⟨b, 0, none⟩)] w fun e w' => e = .returned (.int .i64 m) ∧ w' = w := by
  have c := blk_cell h 0 _ rfl
  clear h
  go_enter Try.func128, Try.ntmps128
  go_wp2
  go_ret
  exact ⟨rfl, rfl⟩
set_option maxHeartbeats 1000000 in
theorem closL_any (b : Nat) (m : Int) (w : World) (h : w.heap[b]? = some (.cells #[.int .i64 (m + 1)] 3 (0, 0))) (h0 : -10 ≤ m ∧ m ≤ 1000000) : Calls Try.prog 129 #[.pointer (some ⟨b, 0, none⟩)] w fun e w' => e = .returned (.int .i64 m) ∧ w' = w := by
  have c := blk_cell h 0 _ rfl
  have e1 : m + 1 - 1 = m := by omega
  obtain ⟨h1, h2⟩ := h0
  clear h
  go_enter Try.func129, Try.ntmps129
  go_wp2
  go_ret
  exact ⟨rfl, rfl⟩
set_option maxHeartbeats 1000000 in
theorem fixed_any (m : Int) (w : World) : Calls Try.prog 127 #[.int .i64 m] w fun e w' => e = .returned (closF w.heap.size) ∧ w' = w.alloc (.cells #[.int .i64 m] 3) := by
  go_enter Try.func127, Try.ntmps127
  go_wp2
  go_ret
  exact ⟨rfl, rfl⟩
set_option maxHeartbeats 2000000 in
theorem shmay_any (nm : ByteArray) (nb : Bool) (cv : Value) (m a : Int) (w : World) (h : ClosAt w cv m) (h0 : -10 ≤ m ∧ m ≤ 1000000) (r : Bool) (hr : decide (0 ≤ a ∧ a ≤ m) = r) : Calls Try.prog 120 #[.agg #[.string nm, .bool nb, cv], .int .i64 a] w fun e w' => e = .returned (.bool r) ∧ Ext w w' := by
  obtain ⟨b, h | h⟩ := h
  · obtain ⟨rfl, hb⟩ := h
    unfold closF
    obtain ⟨w1, hw1⟩ : ∃ w1, w.alloc (.cells #[.string nm, .bool nb, .func (.func 128) #[] #[.pointer (some ⟨b, 0, none⟩)]] 132) = w1 := ⟨_, rfl⟩
    have HX1 : Hid (Ext w w1) := Lib.hid (by rw [← hw1]; exact (Ext.refl w).alloc _)
    have hq : w1.heap[w.heap.size]? = some (.cells #[.string nm, .bool nb, .func (.func 128) #[] #[.pointer (some ⟨b, 0, none⟩)]] 132 (0, 0)) := by rw [← hw1]; exact blk_new w _
    have HC := Lib.hid (closF_any b m w1 (HX1.out.blk hb))
    have HW1 := Lib.hid hw1
    have q2 := blk_cell hq 2 _ rfl
    clear hb hq hw1
    by_cases a0 : a < 0
    · obtain rfl : r = false := by rw [← hr, decide_eq_false (by omega)]
      clear hr
      go_enter Try.func120, Try.ntmps120
      go_wp2_with (rw [HW1.out])
      go_ret
      exact ⟨rfl, HX1.out⟩
    · have a0' : 0 ≤ a := by omega
      clear a0
      by_cases a1 : a ≤ m
      · obtain rfl : r = true := by rw [← hr, decide_eq_true (by omega)]
        clear hr
        go_enter Try.func120, Try.ntmps120
        go_wp2_with (rw [HW1.out])
        refine HC.out.mono ?_
        rintro e w' ⟨rfl, rfl⟩
        go_wp2
        go_ret
        exact ⟨rfl, HX1.out⟩
      · obtain rfl : r = false := by rw [← hr, decide_eq_false (by omega)]
        clear hr
        have a1' : decide (a ≤ m) = false := by simpa using a1
        clear a1
        go_enter Try.func120, Try.ntmps120
        go_wp2_with (rw [HW1.out])
        refine HC.out.mono ?_
        rintro e w' ⟨rfl, rfl⟩
        go_wp2
        go_ret
        exact ⟨rfl, HX1.out⟩
  · obtain ⟨rfl, hb⟩ := h
    unfold closL
    obtain ⟨w1, hw1⟩ : ∃ w1, w.alloc (.cells #[.string nm, .bool nb, .func (.func 129) #[] #[.pointer (some ⟨b, 0, none⟩)]] 132) = w1 := ⟨_, rfl⟩
    have HX1 : Hid (Ext w w1) := Lib.hid (by rw [← hw1]; exact (Ext.refl w).alloc _)
    have hq : w1.heap[w.heap.size]? = some (.cells #[.string nm, .bool nb, .func (.func 129) #[] #[.pointer (some ⟨b, 0, none⟩)]] 132 (0, 0)) := by rw [← hw1]; exact blk_new w _
    have HC := Lib.hid (closL_any b m w1 (HX1.out.blk hb) h0)
    have HW1 := Lib.hid hw1
    have q2 := blk_cell hq 2 _ rfl
    clear hb hq hw1
    by_cases a0 : a < 0
    · obtain rfl : r = false := by rw [← hr, decide_eq_false (by omega)]
      clear hr
      go_enter Try.func120, Try.ntmps120
      go_wp2_with (rw [HW1.out])
      go_ret
      exact ⟨rfl, HX1.out⟩
    · have a0' : 0 ≤ a := by omega
      clear a0
      by_cases a1 : a ≤ m
      · obtain rfl : r = true := by rw [← hr, decide_eq_true (by omega)]
        clear hr
        go_enter Try.func120, Try.ntmps120
        go_wp2_with (rw [HW1.out])
        refine HC.out.mono ?_
        rintro e w' ⟨rfl, rfl⟩
        go_wp2
        go_ret
        exact ⟨rfl, HX1.out⟩
      · obtain rfl : r = false := by rw [← hr, decide_eq_false (by omega)]
        clear hr
        have a1' : decide (a ≤ m) = false := by simpa using a1
        clear a1
        go_enter Try.func120, Try.ntmps120
        go_wp2_with (rw [HW1.out])
        refine HC.out.mono ?_
        rintro e w' ⟨rfl, rfl⟩
        go_wp2
        go_ret
        exact ⟨rfl, HX1.out⟩
end Go.Proofs.Ytogcfndhcphpaaa
