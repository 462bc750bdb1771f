/-
  Several texts in one: Th.
-/
import Derived.Test.YtogcfndhcphpaaaA08
import Derived.Test.YtogcfndhcphpaaaA05
import Derived.Test.YtogcfndhcphpaaaA06
/-
  The document's May of states, III: stands.
-/
set_option linter.unusedVariables false
set_option linter.unusedSimpArgs false
namespace Go.Proofs.Ytogcfndhcphpaaa
open Go.RowKit

theorem St.runs_len {s : St} (hf : StFew s) : s.runs.length ≤ 1000000 := by
  unfold St.runs
  have := flatMap_len9 s.ps
  have h1 := hf.ps
  have h2 := hf.glob
  rw [List.length_append]
  omega
theorem St.waiters_len {s : St} (hf : StFew s) : s.waiters.length ≤ 1000000 := by
  unfold St.waiters St.waits
  have h1 := hf.timers
  obtain ⟨a, b, c, d⟩ := hf.w
  simp only [List.length_append, List.length_map]
  omega
theorem St.onM_len {s : St} (hf : StFew s) (b : Bool) : (s.onM b).length ≤ 1000000 := by
  unfold St.onM
  rw [List.length_map]
  have := List.length_filter_le (fun m : Int × Int => m.2 != 0 && ((m.1 != 0) == b)) s.ms
  have h1 := hf.ms
  omega
theorem stands_eq {s : St} {i : Nat} {g : Gr} {na nb nc nd : Nat} (ha : St.times s.runs (i + 1) = na) (hb : St.times s.waiters (i + 1) = nb) (hc : St.times (s.onM true) (i + 1) = nc) (hd : St.times (s.onM false) (i + 1) = nd) :
    s.stands i g = (decide (1 ≤ g.st ∧ g.st ≤ 5) && decide (na = St.want g.st 1 ∧ nc = St.want g.st 2 ∧ nb = St.want g.st 3 ∧ nd = St.want g.st 4) &&
      (if g.st ≠ 2 ∧ g.st ≠ 4 then decide (g.m = 0) else decide (1 ≤ g.m ∧ g.m ≤ s.ms.length) && decide ((s.ms.getD (g.m - 1).toNat (0, 0)).2 = i + 1))) := by
  unfold St.stands; rw [ha, hb, hc, hd]
theorem st16 {v : World} {b : Nat} {h : StH} {s : St} {T : TypeId} (hb : v.heap[b]? = some (.cells (stC h s) T (0, 0))) :
    ((v.cell? ⟨b, 0, none⟩ = some (.slice h.pa s.prog.length h.pc) ∧ v.cell? ⟨b, 1, none⟩ = some (.slice h.ga s.gs.length h.gc) ∧ v.cell? ⟨b, 2, none⟩ = some (.slice h.qa s.ps.length h.qc) ∧ v.cell? ⟨b, 3, none⟩ = some (.slice h.ma s.ms.length h.mc)) ∧
      v.cell? ⟨b, 4, none⟩ = some (.slice h.la s.glob.length h.lc) ∧ v.cell? ⟨b, 5, none⟩ = some (.int .i64 s.c0) ∧ v.cell? ⟨b, 6, none⟩ = some (.int .i64 s.c1) ∧ v.cell? ⟨b, 7, none⟩ = some (.int .i64 s.c2)) ∧
    (v.cell? ⟨b, 8, none⟩ = some (.int .i64 s.c3) ∧ v.cell? ⟨b, 9, none⟩ = some (.slice h.a0 s.w0.length h.k0) ∧ v.cell? ⟨b, 10, none⟩ = some (.slice h.a1 s.w1.length h.k1) ∧ v.cell? ⟨b, 11, none⟩ = some (.slice h.a2 s.w2.length h.k2)) ∧
      v.cell? ⟨b, 12, none⟩ = some (.slice h.a3 s.w3.length h.k3) ∧ v.cell? ⟨b, 13, none⟩ = some (.slice h.ta s.timers.length h.tc) ∧ v.cell? ⟨b, 14, none⟩ = some (.int .i64 s.clock) ∧ v.cell? ⟨b, 15, none⟩ = some (.int .i64 s.procs) :=
  ⟨⟨⟨st0 hb, st1 hb, st2 hb, st3 hb⟩, st4 hb, st5 hb, st6 hb, st7 hb⟩, ⟨st8 hb, st9 hb, st10 hb, st11 hb⟩, st12 hb, st13 hb, st14 hb, st15 hb⟩
set_option maxRecDepth 100000 in
set_option maxHeartbeats 16000000 in
theorem rstands_any (h : StH) (s : St) (k : Nat) (g : Gr) (hg : s.gs[k]? = some g) (r : Bool) (hr : s.stands k g = r) (w : World) (hk : StOk w h s) (hf : StFew s) : Calls Try.prog 81 #[stV h s, .int .i64 ((k : Int) + 1)] w fun e w' => e = .returned (.bool r) ∧ Ext w w' := by
  subst hr
  have f1 := hf.gs
  have f2 := hf.ms
  have HF := Lib.hid hf
  have hlt : k < s.gs.length := (List.getElem?_eq_some_iff.1 hg).1
  have hkb : (k : Int) < (s.gs.length : Int) := by omega
  have HK := Lib.hid hk
  obtain ⟨w1, hw1⟩ : ∃ w1, w.alloc (.cells #[.slice h.pa s.prog.length h.pc, .slice h.ga s.gs.length h.gc, .slice h.qa s.ps.length h.qc, .slice h.ma s.ms.length h.mc, .slice h.la s.glob.length h.lc, .int .i64 s.c0, .int .i64 s.c1, .int .i64 s.c2, .int .i64 s.c3, .slice h.a0 s.w0.length h.k0, .slice h.a1 s.w1.length h.k1, .slice h.a2 s.w2.length h.k2, .slice h.a3 s.w3.length h.k3, .slice h.ta s.timers.length h.tc, .int .i64 s.clock, .int .i64 s.procs] 32) = w1 := ⟨_, rfl⟩
  have HX1 : Hid (Ext w w1) := Lib.hid (by rw [← hw1]; exact (Ext.refl w).alloc _)
  have HB1 : Hid (w1.heap[w.heap.size]? = some (.cells (stC h s) 32 (0, 0))) := Lib.hid (by rw [← hw1]; exact blk_new w _)
  have HK1 := Lib.hid (hk.ext HX1.out)
  have HW1 := Lib.hid hw1
  clear hw1 hk
  clear hf
  obtain ⟨na, hna⟩ : ∃ na, St.times s.runs ((k : Int) + 1) = na := ⟨_, rfl⟩
  obtain ⟨nb, hnb⟩ : ∃ nb, St.times s.waiters ((k : Int) + 1) = nb := ⟨_, rfl⟩
  obtain ⟨nc, hnc⟩ : ∃ nc, St.times (s.onM true) ((k : Int) + 1) = nc := ⟨_, rfl⟩
  obtain ⟨nd, hnd⟩ : ∃ nd, St.times (s.onM false) ((k : Int) + 1) = nd := ⟨_, rfl⟩
  have HST := Lib.hid (stands_eq (g := g) hna hnb hnc hnd)
  have Hna := Lib.hid hna
  have Hnb := Lib.hid hnb
  have Hnc := Lib.hid hnc
  have Hnd := Lib.hid hnd
  have HLna := Lib.hid (St.runs_len HF.out)
  have HLnb := Lib.hid (St.waiters_len HF.out)
  have HLnc := Lib.hid (St.onM_len HF.out true)
  have HLnd := Lib.hid (St.onM_len HF.out false)
  obtain ⟨b, o, hA, hb, p0, p1, p2, p3, p4⟩ := gs_get HK1.out.gs hg
  obtain ⟨fn, pc, st, m, sq⟩ := g
  simp only at p0 p1 p2 p3 p4
  obtain ⟨w3, hw3⟩ : ∃ w3, w1.alloc (.cells #[.int .i64 fn, .int .i64 pc, .int .i64 st, .int .i64 m, .int .i64 sq] 55) = w3 := ⟨_, rfl⟩
  have HW3 := Lib.hid hw3
  have HX3 : Hid (Ext w1 w3) := Lib.hid (by rw [← hw3]; exact (Ext.refl w1).alloc _)
  have HQ3 : Hid (w3.heap[w1.heap.size]? = some (.cells #[.int .i64 fn, .int .i64 pc, .int .i64 st, .int .i64 m, .int .i64 sq] 55 (0, 0))) := Lib.hid (by rw [← hw3]; exact blk_new w1 _)
  have q1 := st1 HB1.out
  have e1 : (k : Int) + 1 - 1 = (k : Int) := by omega
  have HA := Lib.hid hA
  clear hg hb hw3 hna hnb hnc hnd hA
  unfold stV
  go_enter Try.func81, Try.ntmps81
  go_upto_region 1 with fail
  rw [HW1.out]
  generalize Value.agg #[.slice h.pa s.prog.length h.pc, .slice h.ga s.gs.length h.gc, .slice h.qa s.ps.length h.qc, .slice h.ma s.ms.length h.mc, .slice h.la s.glob.length h.lc, .int .i64 s.c0, .int .i64 s.c1, .int .i64 s.c2, .int .i64 s.c3, .slice h.a0 s.w0.length h.k0, .slice h.a1 s.w1.length h.k1, .slice h.a2 s.w2.length h.k2, .slice h.a3 s.w3.length h.k3, .slice h.ta s.timers.length h.tc, .int .i64 s.clock, .int .i64 s.procs] = sv0
  have hA := HA.out
  go_upto_region 2 with fail
  rw [HW3.out]
  clear q1 hA p0 p1 p2 p3 p4
  refine region_rgx ([(1, (fun u => ∃ A c, u = .slice A s.runs.length c : Value → Prop), (fun u w => IntsAt w (u 1).v s.runs : (Nat → GV) → World → Prop)), (3, (fun u => u = .int .i64 (na : Nat) : Value → Prop), (fun _ _ => True : (Nat → GV) → World → Prop)), (5, (fun u => ∃ A c, u = .slice A s.waiters.length c : Value → Prop), (fun u w => IntsAt w (u 5).v s.waiters : (Nat → GV) → World → Prop)), (7, (fun u => u = .int .i64 (nb : Nat) : Value → Prop), (fun _ _ => True : (Nat → GV) → World → Prop))]) (w3) (by kernel_rfl) (by kernel_rfl) ?_ ?_ ?_
  · exact List.forall_mem_cons.2 ⟨⟨⟨_, none, 0, rfl⟩, fun u v w h ht => by show (fun u w => IntsAt w (u 1).v s.runs : (Nat → GV) → World → Prop) v w; dsimp only; rw [← h 1 (.inl rfl) (by kernel_rfl)]; exact ht, fun u w w2 hx ht => ht.ext hx⟩, List.forall_mem_cons.2 ⟨⟨⟨_, rfl⟩, fun _ _ _ _ _ => trivial, fun _ _ _ _ _ => trivial⟩, List.forall_mem_cons.2 ⟨⟨⟨_, none, 0, rfl⟩, fun u v w h ht => by show (fun u w => IntsAt w (u 5).v s.waiters : (Nat → GV) → World → Prop) v w; dsimp only; rw [← h 5 (.inl rfl) (by kernel_rfl)]; exact ht, fun u w w2 hx ht => ht.ext hx⟩, List.forall_mem_cons.2 ⟨⟨⟨_, rfl⟩, fun _ _ _ _ _ => trivial, fun _ _ _ _ _ => trivial⟩, List.forall_mem_nil _⟩⟩⟩⟩
  · first | assumption | exact Ext.refl _
  refine rg_pure (v := stV h s) rfl (by kernel_rfl) (by kernel_rfl) (fun w hS hN => ?_) ?_
  · clear hN
    exact givesP_load 32 _ rfl _ (by go_simp) (stL h s) _ rfl _ (range_row ((HX3.out.trans hS).blk HB1.out)) Try.underlying32 rfl (by kernel_rfl)
  refine rg_mem (fun u => ∃ A c, u = .slice A s.runs.length c : Value → Prop) (fun u w => IntsAt w (u 1).v s.runs : (Nat → GV) → World → Prop) (fun _ => Ext) rfl rfl rfl rfl (by kernel_rfl) (by kernel_rfl) (fun w hS hN R hR => ?_) ?_
  · have HR := Lib.hid hR
    clear hR
    (try clear hN)
    go_simp
    refine givesM_call ((rruns_any h s w (HK1.out.ext (HX3.out.trans hS)) HF.out).mono ?_)
    rintro e w' ⟨A, c, rfl, ho, hx⟩
    exact ⟨_, rfl, HR.out _ _ ⟨_, _, rfl⟩ ho.at.2 hx⟩
  rintro u1 s1 t1 ⟨A1, c1, rfl⟩
  refine rg_pure (v := ?_) rfl (by kernel_rfl) (by kernel_rfl) (fun w hS hN => ?_) ?_
  rotate_left 1
  · clear hN
    go_simp
    refine givesP_mk ?_
    with_reducible rfl
  refine rg_mem (fun u => u = .int .i64 (na : Nat) : Value → Prop) (fun _ _ => True : (Nat → GV) → World → Prop) (fun _ => Ext) rfl rfl rfl rfl (by kernel_rfl) (by kernel_rfl) (fun w hS hN R hR => ?_) ?_
  · have HR := Lib.hid hR
    clear hR
    have h1 : IntsAt w (.slice A1 s.runs.length c1) s.runs := hN.get 1 rfl (by kernel_rfl)
    clear hN
    (try clear hN)
    go_simp
    refine givesM_call ((rtimes_any (.slice A1 s.runs.length c1) s.runs ((k : Int) + 1) w h1 (by have := HLna.out; omega)).mono ?_)
    rintro e w' ⟨rfl, rfl⟩
    exact ⟨_, rfl, HR.out _ _ (by rw [Hna.out]) trivial (Ext.refl _)⟩
  rintro u3 s3 t3 rfl
  refine rg_pure (v := stV h s) rfl (by kernel_rfl) (by kernel_rfl) (fun w hS hN => ?_) ?_
  · clear hN
    exact givesP_load 32 _ rfl _ (by go_simp) (stL h s) _ rfl _ (range_row ((HX3.out.trans hS).blk HB1.out)) Try.underlying32 rfl (by kernel_rfl)
  refine rg_mem (fun u => ∃ A c, u = .slice A s.waiters.length c : Value → Prop) (fun u w => IntsAt w (u 5).v s.waiters : (Nat → GV) → World → Prop) (fun _ => Ext) rfl rfl rfl rfl (by kernel_rfl) (by kernel_rfl) (fun w hS hN R hR => ?_) ?_
  · have HR := Lib.hid hR
    clear hR
    (try clear hN)
    go_simp
    refine givesM_call ((rwaiters_any h s w (HK1.out.ext (HX3.out.trans hS)) HF.out).mono ?_)
    rintro e w' ⟨A, c, rfl, ho, hx⟩
    exact ⟨_, rfl, HR.out _ _ ⟨_, _, rfl⟩ ho.at.2 hx⟩
  rintro u5 s5 t5 ⟨A5, c5, rfl⟩
  refine rg_pure (v := ?_) rfl (by kernel_rfl) (by kernel_rfl) (fun w hS hN => ?_) ?_
  rotate_left 1
  · clear hN
    go_simp
    refine givesP_mk ?_
    with_reducible rfl
  refine rg_mem (fun u => u = .int .i64 (nb : Nat) : Value → Prop) (fun _ _ => True : (Nat → GV) → World → Prop) (fun _ => Ext) rfl rfl rfl rfl (by kernel_rfl) (by kernel_rfl) (fun w hS hN R hR => ?_) ?_
  · have HR := Lib.hid hR
    clear hR
    have h5 : IntsAt w (.slice A5 s.waiters.length c5) s.waiters := hN.get 5 rfl (by kernel_rfl)
    clear hN
    (try clear hN)
    go_simp
    refine givesM_call ((rtimes_any (.slice A5 s.waiters.length c5) s.waiters ((k : Int) + 1) w h5 (by have := HLnb.out; omega)).mono ?_)
    rintro e w' ⟨rfl, rfl⟩
    exact ⟨_, rfl, HR.out _ _ (by rw [Hnb.out]) trivial (Ext.refl _)⟩
  rintro u7 s7 t7 rfl
  refine rg_pure (v := ?_) rfl (by kernel_rfl) (by kernel_rfl) (fun w hS hN => ?_) ?_
  rotate_left 1
  · clear hN
    go_simp
    refine givesP_mk ?_
    with_reducible rfl
  refine rg_pure (v := ?_) rfl (by kernel_rfl) (by kernel_rfl) (fun w hS hN => ?_) ?_
  rotate_left 1
  · clear hN
    go_simp
    refine givesP_mk ?_
    with_reducible rfl
  refine rg_done rfl (Nat.le_of_ble_eq_true (by kernel_rfl)) ?_
  intro w4 hS4 hT4
  have HX4 := Lib.hid (HX3.out.trans hS4)
  have HQ4 := Lib.hid (hS4.blk HQ3.out)
  clear hT4 hS4
  go_simp
  go_upto_region 3 with fail
  refine region_rgx ([(1, (fun u => ∃ A c, u = .slice A (s.onM true).length c : Value → Prop), (fun u w => IntsAt w (u 1).v (s.onM true) : (Nat → GV) → World → Prop)), (3, (fun u => u = .int .i64 (nc : Nat) : Value → Prop), (fun _ _ => True : (Nat → GV) → World → Prop)), (5, (fun u => ∃ A c, u = .slice A (s.onM false).length c : Value → Prop), (fun u w => IntsAt w (u 5).v (s.onM false) : (Nat → GV) → World → Prop)), (7, (fun u => u = .int .i64 (nd : Nat) : Value → Prop), (fun _ _ => True : (Nat → GV) → World → Prop))]) (w4) (by kernel_rfl) (by kernel_rfl) ?_ ?_ ?_
  · exact List.forall_mem_cons.2 ⟨⟨⟨_, none, 0, rfl⟩, fun u v w h ht => by show (fun u w => IntsAt w (u 1).v (s.onM true) : (Nat → GV) → World → Prop) v w; dsimp only; rw [← h 1 (.inl rfl) (by kernel_rfl)]; exact ht, fun u w w2 hx ht => ht.ext hx⟩, List.forall_mem_cons.2 ⟨⟨⟨_, rfl⟩, fun _ _ _ _ _ => trivial, fun _ _ _ _ _ => trivial⟩, List.forall_mem_cons.2 ⟨⟨⟨_, none, 0, rfl⟩, fun u v w h ht => by show (fun u w => IntsAt w (u 5).v (s.onM false) : (Nat → GV) → World → Prop) v w; dsimp only; rw [← h 5 (.inl rfl) (by kernel_rfl)]; exact ht, fun u w w2 hx ht => ht.ext hx⟩, List.forall_mem_cons.2 ⟨⟨⟨_, rfl⟩, fun _ _ _ _ _ => trivial, fun _ _ _ _ _ => trivial⟩, List.forall_mem_nil _⟩⟩⟩⟩
  · first | assumption | exact Ext.refl _
  refine rg_pure (v := stV h s) rfl (by kernel_rfl) (by kernel_rfl) (fun w hS hN => ?_) ?_
  · clear hN
    exact givesP_load 32 _ rfl _ (by go_simp) (stL h s) _ rfl _ (range_row ((HX4.out.trans hS).blk HB1.out)) Try.underlying32 rfl (by kernel_rfl)
  refine rg_mem (fun u => ∃ A c, u = .slice A (s.onM true).length c : Value → Prop) (fun u w => IntsAt w (u 1).v (s.onM true) : (Nat → GV) → World → Prop) (fun _ => Ext) rfl rfl rfl rfl (by kernel_rfl) (by kernel_rfl) (fun w hS hN R hR => ?_) ?_
  · have HR := Lib.hid hR
    clear hR
    (try clear hN)
    go_simp
    refine givesM_call ((ronM_any h s true w (HK1.out.ext (HX4.out.trans hS)) HF.out).mono ?_)
    rintro e w' ⟨A, c, rfl, ho, hx⟩
    exact ⟨_, rfl, HR.out _ _ ⟨_, _, rfl⟩ ho.at.2 hx⟩
  rintro u1 s1 t1 ⟨A1, c1, rfl⟩
  refine rg_pure (v := ?_) rfl (by kernel_rfl) (by kernel_rfl) (fun w hS hN => ?_) ?_
  rotate_left 1
  · clear hN
    go_simp
    refine givesP_mk ?_
    with_reducible rfl
  refine rg_mem (fun u => u = .int .i64 (nc : Nat) : Value → Prop) (fun _ _ => True : (Nat → GV) → World → Prop) (fun _ => Ext) rfl rfl rfl rfl (by kernel_rfl) (by kernel_rfl) (fun w hS hN R hR => ?_) ?_
  · have HR := Lib.hid hR
    clear hR
    have h1 : IntsAt w (.slice A1 (s.onM true).length c1) (s.onM true) := hN.get 1 rfl (by kernel_rfl)
    clear hN
    (try clear hN)
    go_simp
    refine givesM_call ((rtimes_any (.slice A1 (s.onM true).length c1) (s.onM true) ((k : Int) + 1) w h1 (by have := HLnc.out; omega)).mono ?_)
    rintro e w' ⟨rfl, rfl⟩
    exact ⟨_, rfl, HR.out _ _ (by rw [Hnc.out]) trivial (Ext.refl _)⟩
  rintro u3 s3 t3 rfl
  refine rg_pure (v := stV h s) rfl (by kernel_rfl) (by kernel_rfl) (fun w hS hN => ?_) ?_
  · clear hN
    exact givesP_load 32 _ rfl _ (by go_simp) (stL h s) _ rfl _ (range_row ((HX4.out.trans hS).blk HB1.out)) Try.underlying32 rfl (by kernel_rfl)
  refine rg_mem (fun u => ∃ A c, u = .slice A (s.onM false).length c : Value → Prop) (fun u w => IntsAt w (u 5).v (s.onM false) : (Nat → GV) → World → Prop) (fun _ => Ext) rfl rfl rfl rfl (by kernel_rfl) (by kernel_rfl) (fun w hS hN R hR => ?_) ?_
  · have HR := Lib.hid hR
    clear hR
    (try clear hN)
    go_simp
    refine givesM_call ((ronM_any h s false w (HK1.out.ext (HX4.out.trans hS)) HF.out).mono ?_)
    rintro e w' ⟨A, c, rfl, ho, hx⟩
    exact ⟨_, rfl, HR.out _ _ ⟨_, _, rfl⟩ ho.at.2 hx⟩
  rintro u5 s5 t5 ⟨A5, c5, rfl⟩
  refine rg_pure (v := ?_) rfl (by kernel_rfl) (by kernel_rfl) (fun w hS hN => ?_) ?_
  rotate_left 1
  · clear hN
    go_simp
    refine givesP_mk ?_
    with_reducible rfl
  refine rg_mem (fun u => u = .int .i64 (nd : Nat) : Value → Prop) (fun _ _ => True : (Nat → GV) → World → Prop) (fun _ => Ext) rfl rfl rfl rfl (by kernel_rfl) (by kernel_rfl) (fun w hS hN R hR => ?_) ?_
  · have HR := Lib.hid hR
    clear hR
    have h5 : IntsAt w (.slice A5 (s.onM false).length c5) (s.onM false) := hN.get 5 rfl (by kernel_rfl)
    clear hN
    (try clear hN)
    go_simp
    refine givesM_call ((rtimes_any (.slice A5 (s.onM false).length c5) (s.onM false) ((k : Int) + 1) w h5 (by have := HLnd.out; omega)).mono ?_)
    rintro e w' ⟨rfl, rfl⟩
    exact ⟨_, rfl, HR.out _ _ (by rw [Hnd.out]) trivial (Ext.refl _)⟩
  rintro u7 s7 t7 rfl
  refine rg_pure (v := ?_) rfl (by kernel_rfl) (by kernel_rfl) (fun w hS hN => ?_) ?_
  rotate_left 1
  · clear hN
    go_simp
    refine givesP_mk ?_
    with_reducible rfl
  refine rg_pure (v := ?_) rfl (by kernel_rfl) (by kernel_rfl) (fun w hS hN => ?_) ?_
  rotate_left 1
  · clear hN
    go_simp
    refine givesP_mk ?_
    with_reducible rfl
  refine rg_done rfl (Nat.le_of_ble_eq_true (by kernel_rfl)) ?_
  intro w5 hS5 hT5
  have HX5 := Lib.hid (HX4.out.trans hS5)
  have HQ5 := Lib.hid (hS5.blk HQ4.out)
  clear hT5 hS5
  go_simp
  obtain ⟨w6, hw6⟩ : ∃ w6, w5.alloc (.cells #[.int .i64 0, .int .i64 0, .int .i64 0, .int .i64 0, .int .i64 0] 129) = w6 := ⟨_, rfl⟩
  have HW6 := Lib.hid hw6
  have HX6 : Hid (Ext w1 w6) := Lib.hid (by rw [← hw6]; exact HX5.out.alloc _)
  have HQ6 : Hid (w6.heap[w1.heap.size]? = some (.cells #[.int .i64 fn, .int .i64 pc, .int .i64 st, .int .i64 m, .int .i64 sq] 55 (0, 0))) := Lib.hid (by rw [← hw6]; exact blk_alloc HQ5.out _)
  have HQW : Hid (w6.heap[w5.heap.size]? = some (.cells #[.int .i64 0, .int .i64 0, .int .i64 0, .int .i64 0, .int .i64 0] 129 (0, 0))) := Lib.hid (by rw [← hw6]; exact blk_new w5 _)
  have HS5 : Hid (w1.heap.size ≤ w5.heap.size ∧ w1.heap.size < w5.heap.size) := Lib.hid ⟨HX5.out.size, blk_lt HQ5.out⟩
  clear hw6
  go_upto_region 5 with fail
  rw [HW6.out]
  have z2 := blk_cell HQ6.out 2 _ rfl
  by_cases s1 : st < 1
  · have HNO : Hid (s.stands k ⟨fn, pc, st, m, sq⟩ = false) := Lib.hid (by rw [HST.out, decide_eq_false (by simp only; omega)]; rfl)
    go_wp2
    (go_ret; exact ⟨by rw [HNO.out] <;> rfl, HX1.out.trans HX6.out⟩)
  by_cases s5 : 5 < st
  · have HNO : Hid (s.stands k ⟨fn, pc, st, m, sq⟩ = false) := Lib.hid (by rw [HST.out, decide_eq_false (by simp only; omega)]; rfl)
    go_wp2
    (go_ret; exact ⟨by rw [HNO.out] <;> rfl, HX1.out.trans HX6.out⟩)
  clear z2
  obtain rfl | rfl | rfl | rfl | rfl : st = 1 ∨ st = 2 ∨ st = 3 ∨ st = 4 ∨ st = 5 := by omega
  · clear s1 s5
    obtain ⟨w7, hw7⟩ : ∃ w7, w6.setCell ⟨w5.heap.size, 0, none⟩ (.int .i64 1) = w7 := ⟨_, rfl⟩
    have HW7 := Lib.hid hw7
    have HX7 : Hid (Ext w1 w7) := Lib.hid (by rw [← hw7]; exact HX6.out.setCell HS5.out.1 _)
    have hqw : w7.heap[w5.heap.size]? = some (.cells #[.int .i64 1, .int .i64 0, .int .i64 0, .int .i64 0, .int .i64 0] 129 (0, 0)) := by rw [← hw7]; exact blk_set HQW.out 0 _
    have HQ7 : Hid (w7.heap[w1.heap.size]? = some (.cells #[.int .i64 fn, .int .i64 pc, .int .i64 1, .int .i64 m, .int .i64 sq] 55 (0, 0))) := Lib.hid (by rw [← hw7]; exact blk_set_other HQ6.out _ (by have := HS5.out.2; simp only; omega) _)
    have z2 := blk_cell HQ6.out 2 _ rfl
    have v0 := blk_cell HQW.out 0 _ rfl
    have fz := frozen_of_row _ _ 0 _ _ HQW.out
    have x0 := blk_cell hqw 0 _ rfl
    have x1 := blk_cell hqw 1 _ rfl
    have x2 := blk_cell hqw 2 _ rfl
    have x3 := blk_cell hqw 3 _ rfl
    have y2 := blk_cell HQ7.out 2 _ rfl
    have y3 := blk_cell HQ7.out 3 _ rfl
    have q3 := st3 (HX7.out.blk HB1.out)
    clear hw7 hqw
    go_upto_region 8 with (rw [HW7.out])
    clear z2 v0 fz
    by_cases ena : na = 1
    rotate_left 1
    · have HNO : Hid (s.stands k ⟨fn, pc, 1, m, sq⟩ = false) := Lib.hid (by
        rw [HST.out, decide_eq_false (p := _ ∧ _ ∧ _ ∧ _) (fun hh => ena (by have := hh.1; simpa [St.want] using this))]
        simp)
      have dna : ((na : Int) != 1) = true := by simp; omega
      clear ena
      go_wp2
      go_ret
      exact ⟨by rw [HNO.out] <;> rfl, HX1.out.trans HX7.out⟩
    have dna : ((na : Int) != 1) = false := by simp; omega
    by_cases enc : nc = 0
    rotate_left 1
    · have HNO : Hid (s.stands k ⟨fn, pc, 1, m, sq⟩ = false) := Lib.hid (by
        rw [HST.out, decide_eq_false (p := _ ∧ _ ∧ _ ∧ _) (fun hh => enc (by have := hh.2.1; simpa [St.want] using this))]
        simp)
      have dnc : ((nc : Int) != 0) = true := by simp; omega
      clear enc
      go_wp2
      go_ret
      exact ⟨by rw [HNO.out] <;> rfl, HX1.out.trans HX7.out⟩
    have dnc : ((nc : Int) != 0) = false := by simp; omega
    by_cases enb : nb = 0
    rotate_left 1
    · have HNO : Hid (s.stands k ⟨fn, pc, 1, m, sq⟩ = false) := Lib.hid (by
        rw [HST.out, decide_eq_false (p := _ ∧ _ ∧ _ ∧ _) (fun hh => enb (by have := hh.2.2.1; simpa [St.want] using this))]
        simp)
      have dnb : ((nb : Int) != 0) = true := by simp; omega
      clear enb
      go_wp2
      go_ret
      exact ⟨by rw [HNO.out] <;> rfl, HX1.out.trans HX7.out⟩
    have dnb : ((nb : Int) != 0) = false := by simp; omega
    by_cases ed : nd = 0
    rotate_left 1
    · have HNO : Hid (s.stands k ⟨fn, pc, 1, m, sq⟩ = false) := Lib.hid (by
        rw [HST.out, decide_eq_false (p := _ ∧ _ ∧ _ ∧ _) (fun hh => ed (by have := hh.2.2.2; simpa [St.want] using this))]
        simp)
      have dnd : ((nd : Int) != 0) = true := by simp; omega
      clear ed
      go_wp2
      go_ret
      exact ⟨by rw [HNO.out] <;> rfl, HX1.out.trans HX7.out⟩
    have dnd : ((nd : Int) != 0) = false := by simp; omega
    have HEQ : Hid (s.stands k ⟨fn, pc, 1, m, sq⟩ = decide (m = 0)) := Lib.hid (by
      rw [HST.out, decide_eq_true (by simp), if_pos (by simp), decide_eq_true (p := _ ∧ _ ∧ _ ∧ _) (by simp [St.want, ena, enb, enc, ed])]
      simp)
    clear ena enb enc ed
    by_cases d0 : m = 0
    · have HYES : Hid (s.stands k ⟨fn, pc, 1, m, sq⟩ = true) := Lib.hid (by rw [HEQ.out, decide_eq_true d0])
      subst d0
      go_wp2
      go_ret
      exact ⟨by rw [HYES.out] <;> rfl, HX1.out.trans HX7.out⟩
    · have HNO : Hid (s.stands k ⟨fn, pc, 1, m, sq⟩ = false) := Lib.hid (by rw [HEQ.out, decide_eq_false d0])
      have d0' : (m == 0) = false := by simpa using d0
      clear d0
      go_wp2
      go_ret
      exact ⟨by rw [HNO.out] <;> rfl, HX1.out.trans HX7.out⟩
  · clear s1 s5
    obtain ⟨w7, hw7⟩ : ∃ w7, w6.setCell ⟨w5.heap.size, 1, none⟩ (.int .i64 1) = w7 := ⟨_, rfl⟩
    have HW7 := Lib.hid hw7
    have HX7 : Hid (Ext w1 w7) := Lib.hid (by rw [← hw7]; exact HX6.out.setCell HS5.out.1 _)
    have hqw : w7.heap[w5.heap.size]? = some (.cells #[.int .i64 0, .int .i64 1, .int .i64 0, .int .i64 0, .int .i64 0] 129 (0, 0)) := by rw [← hw7]; exact blk_set HQW.out 1 _
    have HQ7 : Hid (w7.heap[w1.heap.size]? = some (.cells #[.int .i64 fn, .int .i64 pc, .int .i64 2, .int .i64 m, .int .i64 sq] 55 (0, 0))) := Lib.hid (by rw [← hw7]; exact blk_set_other HQ6.out _ (by have := HS5.out.2; simp only; omega) _)
    have z2 := blk_cell HQ6.out 2 _ rfl
    have v1 := blk_cell HQW.out 1 _ rfl
    have fz := frozen_of_row _ _ 1 _ _ HQW.out
    have x0 := blk_cell hqw 0 _ rfl
    have x1 := blk_cell hqw 1 _ rfl
    have x2 := blk_cell hqw 2 _ rfl
    have x3 := blk_cell hqw 3 _ rfl
    have y2 := blk_cell HQ7.out 2 _ rfl
    have y3 := blk_cell HQ7.out 3 _ rfl
    have q3 := st3 (HX7.out.blk HB1.out)
    clear hw7 hqw
    go_upto_region 8 with (rw [HW7.out])
    clear z2 v1 fz
    by_cases ena : na = 0
    rotate_left 1
    · have HNO : Hid (s.stands k ⟨fn, pc, 2, m, sq⟩ = false) := Lib.hid (by
        rw [HST.out, decide_eq_false (p := _ ∧ _ ∧ _ ∧ _) (fun hh => ena (by have := hh.1; simpa [St.want] using this))]
        simp)
      have dna : ((na : Int) != 0) = true := by simp; omega
      clear ena
      go_wp2
      go_ret
      exact ⟨by rw [HNO.out] <;> rfl, HX1.out.trans HX7.out⟩
    have dna : ((na : Int) != 0) = false := by simp; omega
    by_cases enc : nc = 1
    rotate_left 1
    · have HNO : Hid (s.stands k ⟨fn, pc, 2, m, sq⟩ = false) := Lib.hid (by
        rw [HST.out, decide_eq_false (p := _ ∧ _ ∧ _ ∧ _) (fun hh => enc (by have := hh.2.1; simpa [St.want] using this))]
        simp)
      have dnc : ((nc : Int) != 1) = true := by simp; omega
      clear enc
      go_wp2
      go_ret
      exact ⟨by rw [HNO.out] <;> rfl, HX1.out.trans HX7.out⟩
    have dnc : ((nc : Int) != 1) = false := by simp; omega
    by_cases enb : nb = 0
    rotate_left 1
    · have HNO : Hid (s.stands k ⟨fn, pc, 2, m, sq⟩ = false) := Lib.hid (by
        rw [HST.out, decide_eq_false (p := _ ∧ _ ∧ _ ∧ _) (fun hh => enb (by have := hh.2.2.1; simpa [St.want] using this))]
        simp)
      have dnb : ((nb : Int) != 0) = true := by simp; omega
      clear enb
      go_wp2
      go_ret
      exact ⟨by rw [HNO.out] <;> rfl, HX1.out.trans HX7.out⟩
    have dnb : ((nb : Int) != 0) = false := by simp; omega
    by_cases ed : nd = 0
    rotate_left 1
    · have HNO : Hid (s.stands k ⟨fn, pc, 2, m, sq⟩ = false) := Lib.hid (by
        rw [HST.out, decide_eq_false (p := _ ∧ _ ∧ _ ∧ _) (fun hh => ed (by have := hh.2.2.2; simpa [St.want] using this))]
        simp)
      have dnd : ((nd : Int) != 0) = true := by simp; omega
      clear ed
      go_wp2
      go_ret
      exact ⟨by rw [HNO.out] <;> rfl, HX1.out.trans HX7.out⟩
    have dnd : ((nd : Int) != 0) = false := by simp; omega
    have HEQ : Hid (s.stands k ⟨fn, pc, 2, m, sq⟩ = (decide (1 ≤ m ∧ m ≤ s.ms.length) && decide ((s.ms.getD (m - 1).toNat (0, 0)).2 = k + 1))) := Lib.hid (by
      rw [HST.out, decide_eq_true (by simp), if_neg (by simp), decide_eq_true (p := _ ∧ _ ∧ _ ∧ _) (by simp [St.want, ena, enb, enc, ed])]
      simp)
    clear ena enb enc ed
    by_cases m1 : m < 1
    · have HNO : Hid (s.stands k ⟨fn, pc, 2, m, sq⟩ = false) := Lib.hid (by rw [HEQ.out, decide_eq_false (by omega)]; rfl)
      go_wp2
      go_ret
      exact ⟨by rw [HNO.out] <;> rfl, HX1.out.trans HX7.out⟩
    by_cases m2 : (s.ms.length : Int) < m
    · have HNO : Hid (s.stands k ⟨fn, pc, 2, m, sq⟩ = false) := Lib.hid (by rw [HEQ.out, decide_eq_false (by omega)]; rfl)
      go_wp2
      go_ret
      exact ⟨by rw [HNO.out] <;> rfl, HX1.out.trans HX7.out⟩
    have m1' : 1 ≤ m := by omega
    have m2' : m ≤ (s.ms.length : Int) := by omega
    obtain ⟨j, hj⟩ : ∃ j : Nat, m = (j : Int) + 1 := ⟨(m - 1).toNat, by omega⟩
    subst hj
    obtain ⟨x, hx⟩ : ∃ x, s.ms[j]? = some x := ⟨_, List.getElem?_eq_getElem (by omega)⟩
    obtain ⟨bm, om, hAm, hbm, c0, c1⟩ := frs2_get (HK1.out.ext HX7.out).ms hx
    have HMX : Hid ((s.ms.getD ((j : Int) + 1 - 1).toNat (0, 0)).2 = x.2) := Lib.hid (by rw [show ((j : Int) + 1 - 1).toNat = j by omega, List.getD, hx]; rfl)
    have e6 : (j : Int) + 1 - 1 = (j : Int) := by omega
    have e7 : (j : Int) < (s.ms.length : Int) := by omega
    obtain ⟨xp, xg⟩ := x
    simp only at HMX c1
    clear hx hbm c0 m1 m2
    by_cases d0 : xg = (k : Int) + 1
    · have HYES : Hid (s.stands k ⟨fn, pc, 2, ((j : Int) + 1), sq⟩ = true) := Lib.hid (by rw [HEQ.out, HMX.out, decide_eq_true d0, decide_eq_true (by omega)]; rfl)
      subst d0
      go_wp2
      go_ret
      exact ⟨by rw [HYES.out] <;> rfl, HX1.out.trans HX7.out⟩
    · have HNO : Hid (s.stands k ⟨fn, pc, 2, ((j : Int) + 1), sq⟩ = false) := Lib.hid (by rw [HEQ.out, HMX.out, decide_eq_false d0, Bool.and_false])
      have d0' : (xg == (k : Int) + 1) = false := by simpa using d0
      clear d0
      go_wp2
      go_ret
      exact ⟨by rw [HNO.out] <;> rfl, HX1.out.trans HX7.out⟩
  · clear s1 s5
    obtain ⟨w7, hw7⟩ : ∃ w7, w6.setCell ⟨w5.heap.size, 2, none⟩ (.int .i64 1) = w7 := ⟨_, rfl⟩
    have HW7 := Lib.hid hw7
    have HX7 : Hid (Ext w1 w7) := Lib.hid (by rw [← hw7]; exact HX6.out.setCell HS5.out.1 _)
    have hqw : w7.heap[w5.heap.size]? = some (.cells #[.int .i64 0, .int .i64 0, .int .i64 1, .int .i64 0, .int .i64 0] 129 (0, 0)) := by rw [← hw7]; exact blk_set HQW.out 2 _
    have HQ7 : Hid (w7.heap[w1.heap.size]? = some (.cells #[.int .i64 fn, .int .i64 pc, .int .i64 3, .int .i64 m, .int .i64 sq] 55 (0, 0))) := Lib.hid (by rw [← hw7]; exact blk_set_other HQ6.out _ (by have := HS5.out.2; simp only; omega) _)
    have z2 := blk_cell HQ6.out 2 _ rfl
    have v2 := blk_cell HQW.out 2 _ rfl
    have fz := frozen_of_row _ _ 2 _ _ HQW.out
    have x0 := blk_cell hqw 0 _ rfl
    have x1 := blk_cell hqw 1 _ rfl
    have x2 := blk_cell hqw 2 _ rfl
    have x3 := blk_cell hqw 3 _ rfl
    have y2 := blk_cell HQ7.out 2 _ rfl
    have y3 := blk_cell HQ7.out 3 _ rfl
    have q3 := st3 (HX7.out.blk HB1.out)
    clear hw7 hqw
    go_upto_region 8 with (rw [HW7.out])
    clear z2 v2 fz
    by_cases ena : na = 0
    rotate_left 1
    · have HNO : Hid (s.stands k ⟨fn, pc, 3, m, sq⟩ = false) := Lib.hid (by
        rw [HST.out, decide_eq_false (p := _ ∧ _ ∧ _ ∧ _) (fun hh => ena (by have := hh.1; simpa [St.want] using this))]
        simp)
      have dna : ((na : Int) != 0) = true := by simp; omega
      clear ena
      go_wp2
      go_ret
      exact ⟨by rw [HNO.out] <;> rfl, HX1.out.trans HX7.out⟩
    have dna : ((na : Int) != 0) = false := by simp; omega
    by_cases enc : nc = 0
    rotate_left 1
    · have HNO : Hid (s.stands k ⟨fn, pc, 3, m, sq⟩ = false) := Lib.hid (by
        rw [HST.out, decide_eq_false (p := _ ∧ _ ∧ _ ∧ _) (fun hh => enc (by have := hh.2.1; simpa [St.want] using this))]
        simp)
      have dnc : ((nc : Int) != 0) = true := by simp; omega
      clear enc
      go_wp2
      go_ret
      exact ⟨by rw [HNO.out] <;> rfl, HX1.out.trans HX7.out⟩
    have dnc : ((nc : Int) != 0) = false := by simp; omega
    by_cases enb : nb = 1
    rotate_left 1
    · have HNO : Hid (s.stands k ⟨fn, pc, 3, m, sq⟩ = false) := Lib.hid (by
        rw [HST.out, decide_eq_false (p := _ ∧ _ ∧ _ ∧ _) (fun hh => enb (by have := hh.2.2.1; simpa [St.want] using this))]
        simp)
      have dnb : ((nb : Int) != 1) = true := by simp; omega
      clear enb
      go_wp2
      go_ret
      exact ⟨by rw [HNO.out] <;> rfl, HX1.out.trans HX7.out⟩
    have dnb : ((nb : Int) != 1) = false := by simp; omega
    by_cases ed : nd = 0
    rotate_left 1
    · have HNO : Hid (s.stands k ⟨fn, pc, 3, m, sq⟩ = false) := Lib.hid (by
        rw [HST.out, decide_eq_false (p := _ ∧ _ ∧ _ ∧ _) (fun hh => ed (by have := hh.2.2.2; simpa [St.want] using this))]
        simp)
      have dnd : ((nd : Int) != 0) = true := by simp; omega
      clear ed
      go_wp2
      go_ret
      exact ⟨by rw [HNO.out] <;> rfl, HX1.out.trans HX7.out⟩
    have dnd : ((nd : Int) != 0) = false := by simp; omega
    have HEQ : Hid (s.stands k ⟨fn, pc, 3, m, sq⟩ = decide (m = 0)) := Lib.hid (by
      rw [HST.out, decide_eq_true (by simp), if_pos (by simp), decide_eq_true (p := _ ∧ _ ∧ _ ∧ _) (by simp [St.want, ena, enb, enc, ed])]
      simp)
    clear ena enb enc ed
    by_cases d0 : m = 0
    · have HYES : Hid (s.stands k ⟨fn, pc, 3, m, sq⟩ = true) := Lib.hid (by rw [HEQ.out, decide_eq_true d0])
      subst d0
      go_wp2
      go_ret
      exact ⟨by rw [HYES.out] <;> rfl, HX1.out.trans HX7.out⟩
    · have HNO : Hid (s.stands k ⟨fn, pc, 3, m, sq⟩ = false) := Lib.hid (by rw [HEQ.out, decide_eq_false d0])
      have d0' : (m == 0) = false := by simpa using d0
      clear d0
      go_wp2
      go_ret
      exact ⟨by rw [HNO.out] <;> rfl, HX1.out.trans HX7.out⟩
  · clear s1 s5
    obtain ⟨w7, hw7⟩ : ∃ w7, w6.setCell ⟨w5.heap.size, 3, none⟩ (.int .i64 1) = w7 := ⟨_, rfl⟩
    have HW7 := Lib.hid hw7
    have HX7 : Hid (Ext w1 w7) := Lib.hid (by rw [← hw7]; exact HX6.out.setCell HS5.out.1 _)
    have hqw : w7.heap[w5.heap.size]? = some (.cells #[.int .i64 0, .int .i64 0, .int .i64 0, .int .i64 1, .int .i64 0] 129 (0, 0)) := by rw [← hw7]; exact blk_set HQW.out 3 _
    have HQ7 : Hid (w7.heap[w1.heap.size]? = some (.cells #[.int .i64 fn, .int .i64 pc, .int .i64 4, .int .i64 m, .int .i64 sq] 55 (0, 0))) := Lib.hid (by rw [← hw7]; exact blk_set_other HQ6.out _ (by have := HS5.out.2; simp only; omega) _)
    have z2 := blk_cell HQ6.out 2 _ rfl
    have v3 := blk_cell HQW.out 3 _ rfl
    have fz := frozen_of_row _ _ 3 _ _ HQW.out
    have x0 := blk_cell hqw 0 _ rfl
    have x1 := blk_cell hqw 1 _ rfl
    have x2 := blk_cell hqw 2 _ rfl
    have x3 := blk_cell hqw 3 _ rfl
    have y2 := blk_cell HQ7.out 2 _ rfl
    have y3 := blk_cell HQ7.out 3 _ rfl
    have q3 := st3 (HX7.out.blk HB1.out)
    clear hw7 hqw
    go_upto_region 8 with (rw [HW7.out])
    clear z2 v3 fz
    by_cases ena : na = 0
    rotate_left 1
    · have HNO : Hid (s.stands k ⟨fn, pc, 4, m, sq⟩ = false) := Lib.hid (by
        rw [HST.out, decide_eq_false (p := _ ∧ _ ∧ _ ∧ _) (fun hh => ena (by have := hh.1; simpa [St.want] using this))]
        simp)
      have dna : ((na : Int) != 0) = true := by simp; omega
      clear ena
      go_wp2
      go_ret
      exact ⟨by rw [HNO.out] <;> rfl, HX1.out.trans HX7.out⟩
    have dna : ((na : Int) != 0) = false := by simp; omega
    by_cases enc : nc = 0
    rotate_left 1
    · have HNO : Hid (s.stands k ⟨fn, pc, 4, m, sq⟩ = false) := Lib.hid (by
        rw [HST.out, decide_eq_false (p := _ ∧ _ ∧ _ ∧ _) (fun hh => enc (by have := hh.2.1; simpa [St.want] using this))]
        simp)
      have dnc : ((nc : Int) != 0) = true := by simp; omega
      clear enc
      go_wp2
      go_ret
      exact ⟨by rw [HNO.out] <;> rfl, HX1.out.trans HX7.out⟩
    have dnc : ((nc : Int) != 0) = false := by simp; omega
    by_cases enb : nb = 0
    rotate_left 1
    · have HNO : Hid (s.stands k ⟨fn, pc, 4, m, sq⟩ = false) := Lib.hid (by
        rw [HST.out, decide_eq_false (p := _ ∧ _ ∧ _ ∧ _) (fun hh => enb (by have := hh.2.2.1; simpa [St.want] using this))]
        simp)
      have dnb : ((nb : Int) != 0) = true := by simp; omega
      clear enb
      go_wp2
      go_ret
      exact ⟨by rw [HNO.out] <;> rfl, HX1.out.trans HX7.out⟩
    have dnb : ((nb : Int) != 0) = false := by simp; omega
    by_cases ed : nd = 1
    rotate_left 1
    · have HNO : Hid (s.stands k ⟨fn, pc, 4, m, sq⟩ = false) := Lib.hid (by
        rw [HST.out, decide_eq_false (p := _ ∧ _ ∧ _ ∧ _) (fun hh => ed (by have := hh.2.2.2; simpa [St.want] using this))]
        simp)
      have dnd : ((nd : Int) != 1) = true := by simp; omega
      clear ed
      go_wp2
      go_ret
      exact ⟨by rw [HNO.out] <;> rfl, HX1.out.trans HX7.out⟩
    have dnd : ((nd : Int) != 1) = false := by simp; omega
    have HEQ : Hid (s.stands k ⟨fn, pc, 4, m, sq⟩ = (decide (1 ≤ m ∧ m ≤ s.ms.length) && decide ((s.ms.getD (m - 1).toNat (0, 0)).2 = k + 1))) := Lib.hid (by
      rw [HST.out, decide_eq_true (by simp), if_neg (by simp), decide_eq_true (p := _ ∧ _ ∧ _ ∧ _) (by simp [St.want, ena, enb, enc, ed])]
      simp)
    clear ena enb enc ed
    by_cases m1 : m < 1
    · have HNO : Hid (s.stands k ⟨fn, pc, 4, m, sq⟩ = false) := Lib.hid (by rw [HEQ.out, decide_eq_false (by omega)]; rfl)
      go_wp2
      go_ret
      exact ⟨by rw [HNO.out] <;> rfl, HX1.out.trans HX7.out⟩
    by_cases m2 : (s.ms.length : Int) < m
    · have HNO : Hid (s.stands k ⟨fn, pc, 4, m, sq⟩ = false) := Lib.hid (by rw [HEQ.out, decide_eq_false (by omega)]; rfl)
      go_wp2
      go_ret
      exact ⟨by rw [HNO.out] <;> rfl, HX1.out.trans HX7.out⟩
    have m1' : 1 ≤ m := by omega
    have m2' : m ≤ (s.ms.length : Int) := by omega
    obtain ⟨j, hj⟩ : ∃ j : Nat, m = (j : Int) + 1 := ⟨(m - 1).toNat, by omega⟩
    subst hj
    obtain ⟨x, hx⟩ : ∃ x, s.ms[j]? = some x := ⟨_, List.getElem?_eq_getElem (by omega)⟩
    obtain ⟨bm, om, hAm, hbm, c0, c1⟩ := frs2_get (HK1.out.ext HX7.out).ms hx
    have HMX : Hid ((s.ms.getD ((j : Int) + 1 - 1).toNat (0, 0)).2 = x.2) := Lib.hid (by rw [show ((j : Int) + 1 - 1).toNat = j by omega, List.getD, hx]; rfl)
    have e6 : (j : Int) + 1 - 1 = (j : Int) := by omega
    have e7 : (j : Int) < (s.ms.length : Int) := by omega
    obtain ⟨xp, xg⟩ := x
    simp only at HMX c1
    clear hx hbm c0 m1 m2
    by_cases d0 : xg = (k : Int) + 1
    · have HYES : Hid (s.stands k ⟨fn, pc, 4, ((j : Int) + 1), sq⟩ = true) := Lib.hid (by rw [HEQ.out, HMX.out, decide_eq_true d0, decide_eq_true (by omega)]; rfl)
      subst d0
      go_wp2
      go_ret
      exact ⟨by rw [HYES.out] <;> rfl, HX1.out.trans HX7.out⟩
    · have HNO : Hid (s.stands k ⟨fn, pc, 4, ((j : Int) + 1), sq⟩ = false) := Lib.hid (by rw [HEQ.out, HMX.out, decide_eq_false d0, Bool.and_false])
      have d0' : (xg == (k : Int) + 1) = false := by simpa using d0
      clear d0
      go_wp2
      go_ret
      exact ⟨by rw [HNO.out] <;> rfl, HX1.out.trans HX7.out⟩
  · clear s1 s5
    obtain ⟨w7, hw7⟩ : ∃ w7, w6.setCell ⟨w5.heap.size, 4, none⟩ (.int .i64 1) = w7 := ⟨_, rfl⟩
    have HW7 := Lib.hid hw7
    have HX7 : Hid (Ext w1 w7) := Lib.hid (by rw [← hw7]; exact HX6.out.setCell HS5.out.1 _)
    have hqw : w7.heap[w5.heap.size]? = some (.cells #[.int .i64 0, .int .i64 0, .int .i64 0, .int .i64 0, .int .i64 1] 129 (0, 0)) := by rw [← hw7]; exact blk_set HQW.out 4 _
    have HQ7 : Hid (w7.heap[w1.heap.size]? = some (.cells #[.int .i64 fn, .int .i64 pc, .int .i64 5, .int .i64 m, .int .i64 sq] 55 (0, 0))) := Lib.hid (by rw [← hw7]; exact blk_set_other HQ6.out _ (by have := HS5.out.2; simp only; omega) _)
    have z2 := blk_cell HQ6.out 2 _ rfl
    have v4 := blk_cell HQW.out 4 _ rfl
    have fz := frozen_of_row _ _ 4 _ _ HQW.out
    have x0 := blk_cell hqw 0 _ rfl
    have x1 := blk_cell hqw 1 _ rfl
    have x2 := blk_cell hqw 2 _ rfl
    have x3 := blk_cell hqw 3 _ rfl
    have y2 := blk_cell HQ7.out 2 _ rfl
    have y3 := blk_cell HQ7.out 3 _ rfl
    have q3 := st3 (HX7.out.blk HB1.out)
    clear hw7 hqw
    go_upto_region 8 with (rw [HW7.out])
    clear z2 v4 fz
    by_cases ena : na = 0
    rotate_left 1
    · have HNO : Hid (s.stands k ⟨fn, pc, 5, m, sq⟩ = false) := Lib.hid (by
        rw [HST.out, decide_eq_false (p := _ ∧ _ ∧ _ ∧ _) (fun hh => ena (by have := hh.1; simpa [St.want] using this))]
        simp)
      have dna : ((na : Int) != 0) = true := by simp; omega
      clear ena
      go_wp2
      go_ret
      exact ⟨by rw [HNO.out] <;> rfl, HX1.out.trans HX7.out⟩
    have dna : ((na : Int) != 0) = false := by simp; omega
    by_cases enc : nc = 0
    rotate_left 1
    · have HNO : Hid (s.stands k ⟨fn, pc, 5, m, sq⟩ = false) := Lib.hid (by
        rw [HST.out, decide_eq_false (p := _ ∧ _ ∧ _ ∧ _) (fun hh => enc (by have := hh.2.1; simpa [St.want] using this))]
        simp)
      have dnc : ((nc : Int) != 0) = true := by simp; omega
      clear enc
      go_wp2
      go_ret
      exact ⟨by rw [HNO.out] <;> rfl, HX1.out.trans HX7.out⟩
    have dnc : ((nc : Int) != 0) = false := by simp; omega
    by_cases enb : nb = 0
    rotate_left 1
    · have HNO : Hid (s.stands k ⟨fn, pc, 5, m, sq⟩ = false) := Lib.hid (by
        rw [HST.out, decide_eq_false (p := _ ∧ _ ∧ _ ∧ _) (fun hh => enb (by have := hh.2.2.1; simpa [St.want] using this))]
        simp)
      have dnb : ((nb : Int) != 0) = true := by simp; omega
      clear enb
      go_wp2
      go_ret
      exact ⟨by rw [HNO.out] <;> rfl, HX1.out.trans HX7.out⟩
    have dnb : ((nb : Int) != 0) = false := by simp; omega
    by_cases ed : nd = 0
    rotate_left 1
    · have HNO : Hid (s.stands k ⟨fn, pc, 5, m, sq⟩ = false) := Lib.hid (by
        rw [HST.out, decide_eq_false (p := _ ∧ _ ∧ _ ∧ _) (fun hh => ed (by have := hh.2.2.2; simpa [St.want] using this))]
        simp)
      have dnd : ((nd : Int) != 0) = true := by simp; omega
      clear ed
      go_wp2
      go_ret
      exact ⟨by rw [HNO.out] <;> rfl, HX1.out.trans HX7.out⟩
    have dnd : ((nd : Int) != 0) = false := by simp; omega
    have HEQ : Hid (s.stands k ⟨fn, pc, 5, m, sq⟩ = decide (m = 0)) := Lib.hid (by
      rw [HST.out, decide_eq_true (by simp), if_pos (by simp), decide_eq_true (p := _ ∧ _ ∧ _ ∧ _) (by simp [St.want, ena, enb, enc, ed])]
      simp)
    clear ena enb enc ed
    by_cases d0 : m = 0
    · have HYES : Hid (s.stands k ⟨fn, pc, 5, m, sq⟩ = true) := Lib.hid (by rw [HEQ.out, decide_eq_true d0])
      subst d0
      go_wp2
      go_ret
      exact ⟨by rw [HYES.out] <;> rfl, HX1.out.trans HX7.out⟩
    · have HNO : Hid (s.stands k ⟨fn, pc, 5, m, sq⟩ = false) := Lib.hid (by rw [HEQ.out, decide_eq_false d0])
      have d0' : (m == 0) = false := by simpa using d0
      clear d0
      go_wp2
      go_ret
      exact ⟨by rw [HNO.out] <;> rfl, HX1.out.trans HX7.out⟩
end Go.Proofs.Ytogcfndhcphpaaa
