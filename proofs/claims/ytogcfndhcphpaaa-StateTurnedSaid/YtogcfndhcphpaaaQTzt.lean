/-
  The walk of the statement StateTurned.
-/
import Derived.Test.YtogcfndhcphpaaaK26
set_option linter.unusedVariables false
set_option linter.unusedSimpArgs false
namespace Go.Proofs.Ytogcfndhcphpaaa
open Go.RowKit

theorem stV_inj {h h' : StH} {s : St} (e : stV h s = stV h' s) : h = h' := by
  obtain ⟨⟩ := h
  obtain ⟨⟩ := h'
  simp [stV, stC, stL] at e
  simp [e]
theorem St.small_glob {s : St} (h : s.small = true) : s.glob.length ≤ 80 := by
  unfold St.small St.many at h
  simp only [Bool.and_eq_true, decide_eq_true_eq] at h
  omega
theorem StFew.withGlob {s : St} (h : StFew s) {l : List Int} (hl : l.length ≤ 100000) : StFew { s with glob := l } := ⟨h.prog, h.gs, h.ps, h.ms, hl, h.w, h.timers, h.tnum⟩
theorem StFew.withPs {s : St} (h : StFew s) {l : List Pr} (hl : l.length ≤ 100000) : StFew { s with ps := l } := ⟨h.prog, h.gs, hl, h.ms, h.glob, h.w, h.timers, h.tnum⟩
set_option maxRecDepth 100000 in
set_option maxHeartbeats 32000000 in
theorem walk_StateTurned (h : StH) (s : St) (a : Int) (w : World) (hk : StOk w h s) (hi : StIn s) (hcap : s.glob.length ≤ h.lc) (_ : (Lit.int .i64 a).wf = true) : Calls Try.prog 3 #[stV h s, .int .i64 a] w fun e w' => e = .returned (.bool true) ∧ Ext w w' := by
  have HCAP := Lib.hid hcap
  clear hcap
  have HI := Lib.hid hi
  have HK := Lib.hid hk
  obtain ⟨w1, hw1⟩ : ∃ w1, w.alloc (.cells #[.slice h.pa s.prog.length h.pc, .slice h.ga s.gs.length h.gc, .slice h.qa s.ps.length h.qc, .slice h.ma s.ms.length h.mc, .slice h.la s.glob.length h.lc, .int .i64 s.c0, .int .i64 s.c1, .int .i64 s.c2, .int .i64 s.c3, .slice h.a0 s.w0.length h.k0, .slice h.a1 s.w1.length h.k1, .slice h.a2 s.w2.length h.k2, .slice h.a3 s.w3.length h.k3, .slice h.ta s.timers.length h.tc, .int .i64 s.clock, .int .i64 s.procs] 32) = w1 := ⟨_, rfl⟩
  have HX1 : Hid (Ext w w1) := Lib.hid (by rw [← hw1]; exact (Ext.refl w).alloc _)
  have HB1 : Hid (w1.heap[w.heap.size]? = some (.cells (stC h s) 32 (0, 0))) := Lib.hid (by rw [← hw1]; exact blk_new w _)
  have HK1 := Lib.hid (hk.ext HX1.out)
  have HW1 := Lib.hid hw1
  clear hw1 hk
  clear hi
  unfold stV
  go_enter Try.func3, Try.ntmps3
  go_upto_region 1 with fail
  rw [HW1.out]
  generalize Value.agg #[.slice h.pa s.prog.length h.pc, .slice h.ga s.gs.length h.gc, .slice h.qa s.ps.length h.qc, .slice h.ma s.ms.length h.mc, .slice h.la s.glob.length h.lc, .int .i64 s.c0, .int .i64 s.c1, .int .i64 s.c2, .int .i64 s.c3, .slice h.a0 s.w0.length h.k0, .slice h.a1 s.w1.length h.k1, .slice h.a2 s.w2.length h.k2, .slice h.a3 s.w3.length h.k3, .slice h.ta s.timers.length h.tc, .int .i64 s.clock, .int .i64 s.procs] = sv0
  go_wp2_with fail
  refine (tfixed_yes w1).mono ?_
  rintro e w2 ⟨rfl, hx2⟩
  have HX2 := Lib.hid hx2
  have HLD := Lib.hid (hx2.blk HB1.out)
  clear hx2
  go_wp2_with (refine wpList_load_rowW rfl 32 _ rfl w.heap.size rfl (stL h s) (stV h s) rfl _ (range_row HLD.out) Try.underlying32 rfl (by kernel_rfl) ?_)
  refine (rstsmall_any h s _ rfl w2 (HK1.out.ext HX2.out) HI.out).mono ?_
  rintro e w3 ⟨rfl, hx3⟩
  have HX4 := Lib.hid (HX2.out.trans hx3)
  clear hx3 HLD
  cases bs : s.small with
  | false =>
    go_wp2_with fail
    refine (tfixed_yes _).mono ?_
    rintro e w9 ⟨rfl, hx9⟩
    have HX9 := Lib.hid (HX1.out.trans (HX4.out.trans hx9))
    clear hx9
    go_wp2
    go_ret
    exact ⟨rfl, HX9.out⟩
  | true =>
  have HF := Lib.hid (St.small_few bs HI.out)
  have HSM : Hid (s.glob.length ≤ 80) := Lib.hid (St.small_glob bs)
  have HLD := Lib.hid (HX4.out.blk HB1.out)
  clear bs
  go_wp2_with (refine wpList_load_rowW rfl 32 _ rfl w.heap.size rfl (stL h s) (stV h s) rfl _ (range_row HLD.out) Try.underlying32 rfl (by kernel_rfl) ?_)
  refine (sstmay_any h s _ rfl w3 (HK1.out.ext HX4.out) HF.out).mono ?_
  rintro e w4 ⟨rfl, hx4⟩
  have HX5 := Lib.hid (HX4.out.trans hx4)
  clear hx4 HLD HX4
  have HX4 := Lib.hid HX5.out
  clear HX5
  cases bm : s.may with
  | false =>
    go_wp2_with fail
    refine (tfixed_yes _).mono ?_
    rintro e w9 ⟨rfl, hx9⟩
    have HX9 := Lib.hid (HX1.out.trans (HX4.out.trans hx9))
    clear hx9
    go_wp2
    go_ret
    exact ⟨rfl, HX9.out⟩
  | true =>
  have HM := Lib.hid bm
  have q4 := st4 (HX4.out.blk HB1.out)
  clear bm
  by_cases a1 : a < 0
  · skip
    go_wp2_with fail
    refine (tfixed_yes _).mono ?_
    rintro e w9 ⟨rfl, hx9⟩
    have HX9 := Lib.hid (HX1.out.trans (HX4.out.trans hx9))
    clear hx9
    go_wp2
    go_ret
    exact ⟨rfl, HX9.out⟩
  by_cases a2 : (s.glob.length : Int) ≤ a
  · skip
    go_wp2_with fail
    refine (tfixed_yes _).mono ?_
    rintro e w9 ⟨rfl, hx9⟩
    have HX9 := Lib.hid (HX1.out.trans (HX4.out.trans hx9))
    clear hx9
    go_wp2
    go_ret
    exact ⟨rfl, HX9.out⟩
  obtain ⟨k, hka⟩ : ∃ k : Nat, a = (k : Int) := ⟨a.toNat, by omega⟩
  obtain ⟨x, hx⟩ : ∃ x, s.glob[k]? = some x := ⟨_, List.getElem?_eq_getElem (by omega)⟩
  have HKA := Lib.hid hka
  have HXG := Lib.hid hx
  clear hx hka
  go_upto_region 3 with fail
  clear q4 a1 a2
  have HK4 := Lib.hid (HK1.out.ext HX4.out)
  have HB4 := Lib.hid (HX4.out.blk HB1.out)
  refine region_rgw ([(1, (fun u => ∃ h', u = stV h' s : Value → Prop), (fun u w => ∃ h', (u 1).v = stV h' s ∧ CopW w4.heap.size s w (u 1) h' : (Nat → GV) → World → Prop)), (3, (fun u => ∃ h', u = stV h' s : Value → Prop), (fun u w => ∃ h', (u 3).v = stV h' s ∧ CopW w4.heap.size s w (u 3) h' : (Nat → GV) → World → Prop)), (5, (fun u => ∃ h', u = stV h' s : Value → Prop), (fun u w => ∃ h', (u 5).v = stV h' s ∧ CopW w4.heap.size s w (u 5) h' : (Nat → GV) → World → Prop)), (6, (fun u => ∃ g, u = .pointer (some ⟨g, 0, none⟩) : Value → Prop), (fun u w => BoxW 32 16 w4 w (u 6) : (Nat → GV) → World → Prop)), (7, (fun u => ∃ g, u = .pointer (some ⟨g, 0, none⟩) : Value → Prop), (fun u w => BoxW 32 16 w4 w (u 7) : (Nat → GV) → World → Prop)), (8, (fun u => ∃ g, u = .pointer (some ⟨g, 0, none⟩) : Value → Prop), (fun u w => BoxW 32 16 w4 w (u 8) : (Nat → GV) → World → Prop)), (9, (fun u => u = undef : Value → Prop), (fun u w => ∃ h', (u 1).v = stV h' s ∧ HasW 32 w4 w (u 6) (stL h' s) : (Nat → GV) → World → Prop)), (10, (fun u => u = undef : Value → Prop), (fun u w => ∃ h', (u 3).v = stV h' s ∧ HasW 32 w4 w (u 7) (stL h' s) : (Nat → GV) → World → Prop)), (11, (fun u => u = undef : Value → Prop), (fun u w => ∃ h', (u 5).v = stV h' s ∧ HasW 32 w4 w (u 8) (stL h' s) : (Nat → GV) → World → Prop))]) (w4) ([(9, 0, [6]), (10, 0, [7]), (11, 0, [8])]) (by kernel_rfl) (by kernel_rfl) ?_ ?_ ?_ ?_
  · exact List.forall_mem_cons.2 ⟨List.forall_mem_cons.2 ⟨by kernel_rfl, List.forall_mem_nil _⟩, List.forall_mem_cons.2 ⟨List.forall_mem_cons.2 ⟨by kernel_rfl, List.forall_mem_nil _⟩, List.forall_mem_cons.2 ⟨List.forall_mem_cons.2 ⟨by kernel_rfl, List.forall_mem_nil _⟩, List.forall_mem_nil _⟩⟩⟩
  · exact List.forall_mem_cons.2 ⟨⟨⟨_, StH.nil, rfl⟩, fun u v w h ht => by show (fun u w => ∃ h', (u 1).v = stV h' s ∧ CopW w4.heap.size s w (u 1) h' : (Nat → GV) → World → Prop) v w; dsimp only; rw [← h 1 (.inl rfl) (by kernel_rfl)]; exact ht, fun u w w2 hx ht => (by obtain ⟨h', e, k⟩ := ht; exact ⟨h', e, k.ext hx⟩), List.forall_mem_cons.2 ⟨fun _ hp => by first | (intro u w w2 hap haq hc ht; (obtain ⟨h', e, k⟩ := ht; refine ⟨h', e, k.far hc ?_⟩; intro x hx; simp only [List.map_cons, List.map_nil, List.mem_cons, List.not_mem_nil, or_false] at hx; subst hx; first | exact hap 6 (by simp) (by simp) | exact hap 7 (by simp) (by simp) | exact hap 8 (by simp) (by simp)); done) | exact rg_vac hp (by kernel_rfl), List.forall_mem_cons.2 ⟨fun _ hp => by first | (intro u w w2 hap haq hc ht; (obtain ⟨h', e, k⟩ := ht; refine ⟨h', e, k.far hc ?_⟩; intro x hx; simp only [List.map_cons, List.map_nil, List.mem_cons, List.not_mem_nil, or_false] at hx; subst hx; first | exact hap 6 (by simp) (by simp) | exact hap 7 (by simp) (by simp) | exact hap 8 (by simp) (by simp)); done) | exact rg_vac hp (by kernel_rfl), List.forall_mem_cons.2 ⟨fun _ hp => by first | (intro u w w2 hap haq hc ht; (obtain ⟨h', e, k⟩ := ht; refine ⟨h', e, k.far hc ?_⟩; intro x hx; simp only [List.map_cons, List.map_nil, List.mem_cons, List.not_mem_nil, or_false] at hx; subst hx; first | exact hap 6 (by simp) (by simp) | exact hap 7 (by simp) (by simp) | exact hap 8 (by simp) (by simp)); done) | exact rg_vac hp (by kernel_rfl), List.forall_mem_nil _⟩⟩⟩⟩, List.forall_mem_cons.2 ⟨⟨⟨_, StH.nil, rfl⟩, fun u v w h ht => by show (fun u w => ∃ h', (u 3).v = stV h' s ∧ CopW w4.heap.size s w (u 3) h' : (Nat → GV) → World → Prop) v w; dsimp only; rw [← h 3 (.inl rfl) (by kernel_rfl)]; exact ht, fun u w w2 hx ht => (by obtain ⟨h', e, k⟩ := ht; exact ⟨h', e, k.ext hx⟩), List.forall_mem_cons.2 ⟨fun _ hp => by first | (intro u w w2 hap haq hc ht; (obtain ⟨h', e, k⟩ := ht; refine ⟨h', e, k.far hc ?_⟩; intro x hx; simp only [List.map_cons, List.map_nil, List.mem_cons, List.not_mem_nil, or_false] at hx; subst hx; first | exact hap 6 (by simp) (by simp) | exact hap 7 (by simp) (by simp) | exact hap 8 (by simp) (by simp)); done) | exact rg_vac hp (by kernel_rfl), List.forall_mem_cons.2 ⟨fun _ hp => by first | (intro u w w2 hap haq hc ht; (obtain ⟨h', e, k⟩ := ht; refine ⟨h', e, k.far hc ?_⟩; intro x hx; simp only [List.map_cons, List.map_nil, List.mem_cons, List.not_mem_nil, or_false] at hx; subst hx; first | exact hap 6 (by simp) (by simp) | exact hap 7 (by simp) (by simp) | exact hap 8 (by simp) (by simp)); done) | exact rg_vac hp (by kernel_rfl), List.forall_mem_cons.2 ⟨fun _ hp => by first | (intro u w w2 hap haq hc ht; (obtain ⟨h', e, k⟩ := ht; refine ⟨h', e, k.far hc ?_⟩; intro x hx; simp only [List.map_cons, List.map_nil, List.mem_cons, List.not_mem_nil, or_false] at hx; subst hx; first | exact hap 6 (by simp) (by simp) | exact hap 7 (by simp) (by simp) | exact hap 8 (by simp) (by simp)); done) | exact rg_vac hp (by kernel_rfl), List.forall_mem_nil _⟩⟩⟩⟩, List.forall_mem_cons.2 ⟨⟨⟨_, StH.nil, rfl⟩, fun u v w h ht => by show (fun u w => ∃ h', (u 5).v = stV h' s ∧ CopW w4.heap.size s w (u 5) h' : (Nat → GV) → World → Prop) v w; dsimp only; rw [← h 5 (.inl rfl) (by kernel_rfl)]; exact ht, fun u w w2 hx ht => (by obtain ⟨h', e, k⟩ := ht; exact ⟨h', e, k.ext hx⟩), List.forall_mem_cons.2 ⟨fun _ hp => by first | (intro u w w2 hap haq hc ht; (obtain ⟨h', e, k⟩ := ht; refine ⟨h', e, k.far hc ?_⟩; intro x hx; simp only [List.map_cons, List.map_nil, List.mem_cons, List.not_mem_nil, or_false] at hx; subst hx; first | exact hap 6 (by simp) (by simp) | exact hap 7 (by simp) (by simp) | exact hap 8 (by simp) (by simp)); done) | exact rg_vac hp (by kernel_rfl), List.forall_mem_cons.2 ⟨fun _ hp => by first | (intro u w w2 hap haq hc ht; (obtain ⟨h', e, k⟩ := ht; refine ⟨h', e, k.far hc ?_⟩; intro x hx; simp only [List.map_cons, List.map_nil, List.mem_cons, List.not_mem_nil, or_false] at hx; subst hx; first | exact hap 6 (by simp) (by simp) | exact hap 7 (by simp) (by simp) | exact hap 8 (by simp) (by simp)); done) | exact rg_vac hp (by kernel_rfl), List.forall_mem_cons.2 ⟨fun _ hp => by first | (intro u w w2 hap haq hc ht; (obtain ⟨h', e, k⟩ := ht; refine ⟨h', e, k.far hc ?_⟩; intro x hx; simp only [List.map_cons, List.map_nil, List.mem_cons, List.not_mem_nil, or_false] at hx; subst hx; first | exact hap 6 (by simp) (by simp) | exact hap 7 (by simp) (by simp) | exact hap 8 (by simp) (by simp)); done) | exact rg_vac hp (by kernel_rfl), List.forall_mem_nil _⟩⟩⟩⟩, List.forall_mem_cons.2 ⟨⟨⟨_, 0, rfl⟩, fun u v w h ht => by show (fun u w => BoxW 32 16 w4 w (u 6) : (Nat → GV) → World → Prop) v w; dsimp only; rw [← h 6 (.inl rfl) (by kernel_rfl)]; exact ht, fun u w w2 hx ht => ht.ext hx, List.forall_mem_cons.2 ⟨fun _ hp => by first | (intro u w w2 hap haq hc ht; (exact ht.chg hc); done) | exact rg_vac hp (by kernel_rfl), List.forall_mem_cons.2 ⟨fun _ hp => by first | (intro u w w2 hap haq hc ht; (exact ht.chg hc); done) | exact rg_vac hp (by kernel_rfl), List.forall_mem_cons.2 ⟨fun _ hp => by first | (intro u w w2 hap haq hc ht; (exact ht.chg hc); done) | exact rg_vac hp (by kernel_rfl), List.forall_mem_nil _⟩⟩⟩⟩, List.forall_mem_cons.2 ⟨⟨⟨_, 0, rfl⟩, fun u v w h ht => by show (fun u w => BoxW 32 16 w4 w (u 7) : (Nat → GV) → World → Prop) v w; dsimp only; rw [← h 7 (.inl rfl) (by kernel_rfl)]; exact ht, fun u w w2 hx ht => ht.ext hx, List.forall_mem_cons.2 ⟨fun _ hp => by first | (intro u w w2 hap haq hc ht; (exact ht.chg hc); done) | exact rg_vac hp (by kernel_rfl), List.forall_mem_cons.2 ⟨fun _ hp => by first | (intro u w w2 hap haq hc ht; (exact ht.chg hc); done) | exact rg_vac hp (by kernel_rfl), List.forall_mem_cons.2 ⟨fun _ hp => by first | (intro u w w2 hap haq hc ht; (exact ht.chg hc); done) | exact rg_vac hp (by kernel_rfl), List.forall_mem_nil _⟩⟩⟩⟩, List.forall_mem_cons.2 ⟨⟨⟨_, 0, rfl⟩, fun u v w h ht => by show (fun u w => BoxW 32 16 w4 w (u 8) : (Nat → GV) → World → Prop) v w; dsimp only; rw [← h 8 (.inl rfl) (by kernel_rfl)]; exact ht, fun u w w2 hx ht => ht.ext hx, List.forall_mem_cons.2 ⟨fun _ hp => by first | (intro u w w2 hap haq hc ht; (exact ht.chg hc); done) | exact rg_vac hp (by kernel_rfl), List.forall_mem_cons.2 ⟨fun _ hp => by first | (intro u w w2 hap haq hc ht; (exact ht.chg hc); done) | exact rg_vac hp (by kernel_rfl), List.forall_mem_cons.2 ⟨fun _ hp => by first | (intro u w w2 hap haq hc ht; (exact ht.chg hc); done) | exact rg_vac hp (by kernel_rfl), List.forall_mem_nil _⟩⟩⟩⟩, List.forall_mem_cons.2 ⟨⟨⟨_, rfl⟩, fun u v w h ht => by show (fun u w => ∃ h', (u 1).v = stV h' s ∧ HasW 32 w4 w (u 6) (stL h' s) : (Nat → GV) → World → Prop) v w; dsimp only; rw [← h 1 (.inr (by kernel_rfl)) (by kernel_rfl), ← h 6 (.inr (by kernel_rfl)) (by kernel_rfl)]; exact ht, fun u w w2 hx ht => (by obtain ⟨h', e, k⟩ := ht; exact ⟨h', e, k.ext hx⟩), List.forall_mem_cons.2 ⟨fun hne => absurd rfl hne, List.forall_mem_cons.2 ⟨fun _ hp => by first | (intro u w w2 hap haq hc ht; (obtain ⟨h', e, k⟩ := ht; refine ⟨h', e, k.far hc ?_⟩; intro x hx; simp only [List.map_cons, List.map_nil, List.mem_cons, List.not_mem_nil, or_false] at hx; subst hx; first | exact haq 7 (by simp) 6 (by kernel_rfl) (by kernel_rfl) (by decide) | exact haq 8 (by simp) 6 (by kernel_rfl) (by kernel_rfl) (by decide)); done) | exact rg_vac hp (by kernel_rfl), List.forall_mem_cons.2 ⟨fun _ hp => by first | (intro u w w2 hap haq hc ht; (obtain ⟨h', e, k⟩ := ht; refine ⟨h', e, k.far hc ?_⟩; intro x hx; simp only [List.map_cons, List.map_nil, List.mem_cons, List.not_mem_nil, or_false] at hx; subst hx; first | exact haq 7 (by simp) 6 (by kernel_rfl) (by kernel_rfl) (by decide) | exact haq 8 (by simp) 6 (by kernel_rfl) (by kernel_rfl) (by decide)); done) | exact rg_vac hp (by kernel_rfl), List.forall_mem_nil _⟩⟩⟩⟩, List.forall_mem_cons.2 ⟨⟨⟨_, rfl⟩, fun u v w h ht => by show (fun u w => ∃ h', (u 3).v = stV h' s ∧ HasW 32 w4 w (u 7) (stL h' s) : (Nat → GV) → World → Prop) v w; dsimp only; rw [← h 3 (.inr (by kernel_rfl)) (by kernel_rfl), ← h 7 (.inr (by kernel_rfl)) (by kernel_rfl)]; exact ht, fun u w w2 hx ht => (by obtain ⟨h', e, k⟩ := ht; exact ⟨h', e, k.ext hx⟩), List.forall_mem_cons.2 ⟨fun _ hp => by first | (intro u w w2 hap haq hc ht; (obtain ⟨h', e, k⟩ := ht; refine ⟨h', e, k.far hc ?_⟩; intro x hx; simp only [List.map_cons, List.map_nil, List.mem_cons, List.not_mem_nil, or_false] at hx; subst hx; first | exact haq 6 (by simp) 7 (by kernel_rfl) (by kernel_rfl) (by decide) | exact haq 8 (by simp) 7 (by kernel_rfl) (by kernel_rfl) (by decide)); done) | exact rg_vac hp (by kernel_rfl), List.forall_mem_cons.2 ⟨fun hne => absurd rfl hne, List.forall_mem_cons.2 ⟨fun _ hp => by first | (intro u w w2 hap haq hc ht; (obtain ⟨h', e, k⟩ := ht; refine ⟨h', e, k.far hc ?_⟩; intro x hx; simp only [List.map_cons, List.map_nil, List.mem_cons, List.not_mem_nil, or_false] at hx; subst hx; first | exact haq 6 (by simp) 7 (by kernel_rfl) (by kernel_rfl) (by decide) | exact haq 8 (by simp) 7 (by kernel_rfl) (by kernel_rfl) (by decide)); done) | exact rg_vac hp (by kernel_rfl), List.forall_mem_nil _⟩⟩⟩⟩, List.forall_mem_cons.2 ⟨⟨⟨_, rfl⟩, fun u v w h ht => by show (fun u w => ∃ h', (u 5).v = stV h' s ∧ HasW 32 w4 w (u 8) (stL h' s) : (Nat → GV) → World → Prop) v w; dsimp only; rw [← h 5 (.inr (by kernel_rfl)) (by kernel_rfl), ← h 8 (.inr (by kernel_rfl)) (by kernel_rfl)]; exact ht, fun u w w2 hx ht => (by obtain ⟨h', e, k⟩ := ht; exact ⟨h', e, k.ext hx⟩), List.forall_mem_cons.2 ⟨fun _ hp => by first | (intro u w w2 hap haq hc ht; (obtain ⟨h', e, k⟩ := ht; refine ⟨h', e, k.far hc ?_⟩; intro x hx; simp only [List.map_cons, List.map_nil, List.mem_cons, List.not_mem_nil, or_false] at hx; subst hx; first | exact haq 6 (by simp) 8 (by kernel_rfl) (by kernel_rfl) (by decide) | exact haq 7 (by simp) 8 (by kernel_rfl) (by kernel_rfl) (by decide)); done) | exact rg_vac hp (by kernel_rfl), List.forall_mem_cons.2 ⟨fun _ hp => by first | (intro u w w2 hap haq hc ht; (obtain ⟨h', e, k⟩ := ht; refine ⟨h', e, k.far hc ?_⟩; intro x hx; simp only [List.map_cons, List.map_nil, List.mem_cons, List.not_mem_nil, or_false] at hx; subst hx; first | exact haq 6 (by simp) 8 (by kernel_rfl) (by kernel_rfl) (by decide) | exact haq 7 (by simp) 8 (by kernel_rfl) (by kernel_rfl) (by decide)); done) | exact rg_vac hp (by kernel_rfl), List.forall_mem_cons.2 ⟨fun hne => absurd rfl hne, List.forall_mem_nil _⟩⟩⟩⟩, List.forall_mem_nil _⟩⟩⟩⟩⟩⟩⟩⟩⟩
  · first | assumption | exact Ext.refl _
  refine rg_pure (v := stV h s) rfl (by kernel_rfl) (by kernel_rfl) (fun w hS hN => ?_) ?_
  · clear hN
    exact givesP_load 32 _ rfl _ (by go_simp) (stL h s) _ rfl _ (range_row (hS.blk HB4.out)) Try.underlying32 rfl (by kernel_rfl)
  refine rg_mem (fun u => ∃ h', u = stV h' s : Value → Prop) (fun u w => ∃ h', (u 1).v = stV h' s ∧ CopW w4.heap.size s w (u 1) h' : (Nat → GV) → World → Prop) (fun _ => Ext) rfl rfl rfl rfl (by kernel_rfl) (by kernel_rfl) (fun w hS hN R hR => ?_) ?_
  · have HR := Lib.hid hR
    clear hR
    (try clear hN)
    go_simp
    refine givesM_call ((rCopy_any h s w (HK4.out.ext hS) HF.out).mono ?_)
    rintro e w' ⟨h', I, rfl, ho, hx⟩
    exact ⟨_, rfl, HR.out _ _ ⟨h', rfl⟩ ⟨h', rfl, hS.size, I, ho, fun i hi => (ho.low i hi).2.2, Nat.le_refl _⟩ hx⟩
  rintro u1 s1 t1 ⟨h1, rfl⟩
  refine rg_pure (v := stV h s) rfl (by kernel_rfl) (by kernel_rfl) (fun w hS hN => ?_) ?_
  · clear hN
    exact givesP_load 32 _ rfl _ (by go_simp) (stL h s) _ rfl _ (range_row (hS.blk HB4.out)) Try.underlying32 rfl (by kernel_rfl)
  refine rg_mem (fun u => ∃ h', u = stV h' s : Value → Prop) (fun u w => ∃ h', (u 3).v = stV h' s ∧ CopW w4.heap.size s w (u 3) h' : (Nat → GV) → World → Prop) (fun _ => Ext) rfl rfl rfl rfl (by kernel_rfl) (by kernel_rfl) (fun w hS hN R hR => ?_) ?_
  · have HR := Lib.hid hR
    clear hR
    (try clear hN)
    go_simp
    refine givesM_call ((rCopy_any h s w (HK4.out.ext hS) HF.out).mono ?_)
    rintro e w' ⟨h', I, rfl, ho, hx⟩
    exact ⟨_, rfl, HR.out _ _ ⟨h', rfl⟩ ⟨h', rfl, hS.size, I, ho, fun i hi => (ho.low i hi).2.2, Nat.le_refl _⟩ hx⟩
  rintro u3 s3 t3 ⟨h3, rfl⟩
  refine rg_pure (v := stV h s) rfl (by kernel_rfl) (by kernel_rfl) (fun w hS hN => ?_) ?_
  · clear hN
    exact givesP_load 32 _ rfl _ (by go_simp) (stL h s) _ rfl _ (range_row (hS.blk HB4.out)) Try.underlying32 rfl (by kernel_rfl)
  refine rg_mem (fun u => ∃ h', u = stV h' s : Value → Prop) (fun u w => ∃ h', (u 5).v = stV h' s ∧ CopW w4.heap.size s w (u 5) h' : (Nat → GV) → World → Prop) (fun _ => Ext) rfl rfl rfl rfl (by kernel_rfl) (by kernel_rfl) (fun w hS hN R hR => ?_) ?_
  · have HR := Lib.hid hR
    clear hR
    (try clear hN)
    go_simp
    refine givesM_call ((rCopy_any h s w (HK4.out.ext hS) HF.out).mono ?_)
    rintro e w' ⟨h', I, rfl, ho, hx⟩
    exact ⟨_, rfl, HR.out _ _ ⟨h', rfl⟩ ⟨h', rfl, hS.size, I, ho, fun i hi => (ho.low i hi).2.2, Nat.le_refl _⟩ hx⟩
  rintro u5 s5 t5 ⟨h5, rfl⟩
  refine rg_mem (fun u => ∃ g, u = .pointer (some ⟨g, 0, none⟩) : Value → Prop) (fun u w => BoxW 32 16 w4 w (u 6) : (Nat → GV) → World → Prop) (fun _ => Ext) rfl rfl rfl rfl (by kernel_rfl) (by kernel_rfl) (fun w hS hN R hR => ?_) ?_
  · have HR := Lib.hid hR
    clear hR
    (try clear hN)
    go_simp
    exact givesM_val (HR.out _ _ ⟨_, rfl⟩ (BoxW.made hS [.slice none 0 0, .slice none 0 0, .slice none 0 0, .slice none 0 0, .slice none 0 0, .int .i64 0, .int .i64 0, .int .i64 0, .int .i64 0, .slice none 0 0, .slice none 0 0, .slice none 0 0, .slice none 0 0, .slice none 0 0, .int .i64 0, .int .i64 0]) ((Ext.refl w).alloc _))
  rintro u6 s6 t6 ⟨g6, rfl⟩
  refine rg_mem (fun u => ∃ g, u = .pointer (some ⟨g, 0, none⟩) : Value → Prop) (fun u w => BoxW 32 16 w4 w (u 7) : (Nat → GV) → World → Prop) (fun _ => Ext) rfl rfl rfl rfl (by kernel_rfl) (by kernel_rfl) (fun w hS hN R hR => ?_) ?_
  · have HR := Lib.hid hR
    clear hR
    (try clear hN)
    go_simp
    exact givesM_val (HR.out _ _ ⟨_, rfl⟩ (BoxW.made hS [.slice none 0 0, .slice none 0 0, .slice none 0 0, .slice none 0 0, .slice none 0 0, .int .i64 0, .int .i64 0, .int .i64 0, .int .i64 0, .slice none 0 0, .slice none 0 0, .slice none 0 0, .slice none 0 0, .slice none 0 0, .int .i64 0, .int .i64 0]) ((Ext.refl w).alloc _))
  rintro u7 s7 t7 ⟨g7, rfl⟩
  refine rg_mem (fun u => ∃ g, u = .pointer (some ⟨g, 0, none⟩) : Value → Prop) (fun u w => BoxW 32 16 w4 w (u 8) : (Nat → GV) → World → Prop) (fun _ => Ext) rfl rfl rfl rfl (by kernel_rfl) (by kernel_rfl) (fun w hS hN R hR => ?_) ?_
  · have HR := Lib.hid hR
    clear hR
    (try clear hN)
    go_simp
    exact givesM_val (HR.out _ _ ⟨_, rfl⟩ (BoxW.made hS [.slice none 0 0, .slice none 0 0, .slice none 0 0, .slice none 0 0, .slice none 0 0, .int .i64 0, .int .i64 0, .int .i64 0, .int .i64 0, .slice none 0 0, .slice none 0 0, .slice none 0 0, .slice none 0 0, .slice none 0 0, .int .i64 0, .int .i64 0]) ((Ext.refl w).alloc _))
  rintro u8 s8 t8 ⟨g8, rfl⟩
  refine rg_mem (fun u => u = undef : Value → Prop) (fun u w => ∃ h', (u 1).v = stV h' s ∧ HasW 32 w4 w (u 6) (stL h' s) : (Nat → GV) → World → Prop) (fun u => ChgIn (w4) (0) ([6].map u)) rfl rfl rfl rfl (by kernel_rfl) (by kernel_rfl) (fun w hS hN R hR => ?_) ?_
  · have HR := Lib.hid hR
    clear hR
    have hb : BoxW 32 16 w4 w ⟨.pointer (some ⟨g6, 0, none⟩), s6, t6⟩ := hN.get 6 rfl (by kernel_rfl)
    obtain ⟨g, cz, hcz, hg, hg2, hg3, hg4⟩ := hb
    simp only [Value.pointer.injEq, Option.some.injEq, Addr.mk.injEq, and_true] at hg
    subst hg
    clear hN
    refine givesM_store 32 _ _ rfl g6 0 (by go_simp) (stL h1 s) (by go_simp; rfl) (there_row hg4 (by rw [List.size_toArray, hcz]; exact Nat.le_refl 16)) (by kernel_rfl) (stL_one _ _) ?_
    exact HR.out _ _ rfl ⟨h1, rfl, g6, rfl, hg2, hg3, setCells_at cz _ hcz hg4⟩ (ChgIn.row hcz hS hg2 hg3 hg4)
  rintro u9 s9 t9 rfl
  refine rg_mem (fun u => u = undef : Value → Prop) (fun u w => ∃ h', (u 3).v = stV h' s ∧ HasW 32 w4 w (u 7) (stL h' s) : (Nat → GV) → World → Prop) (fun u => ChgIn (w4) (0) ([7].map u)) rfl rfl rfl rfl (by kernel_rfl) (by kernel_rfl) (fun w hS hN R hR => ?_) ?_
  · have HR := Lib.hid hR
    clear hR
    have hb : BoxW 32 16 w4 w ⟨.pointer (some ⟨g7, 0, none⟩), s7, t7⟩ := hN.get 7 rfl (by kernel_rfl)
    obtain ⟨g, cz, hcz, hg, hg2, hg3, hg4⟩ := hb
    simp only [Value.pointer.injEq, Option.some.injEq, Addr.mk.injEq, and_true] at hg
    subst hg
    clear hN
    refine givesM_store 32 _ _ rfl g7 0 (by go_simp) (stL h3 s) (by go_simp; rfl) (there_row hg4 (by rw [List.size_toArray, hcz]; exact Nat.le_refl 16)) (by kernel_rfl) (stL_one _ _) ?_
    exact HR.out _ _ rfl ⟨h3, rfl, g7, rfl, hg2, hg3, setCells_at cz _ hcz hg4⟩ (ChgIn.row hcz hS hg2 hg3 hg4)
  rintro u10 s10 t10 rfl
  refine rg_mem (fun u => u = undef : Value → Prop) (fun u w => ∃ h', (u 5).v = stV h' s ∧ HasW 32 w4 w (u 8) (stL h' s) : (Nat → GV) → World → Prop) (fun u => ChgIn (w4) (0) ([8].map u)) rfl rfl rfl rfl (by kernel_rfl) (by kernel_rfl) (fun w hS hN R hR => ?_) ?_
  · have HR := Lib.hid hR
    clear hR
    have hb : BoxW 32 16 w4 w ⟨.pointer (some ⟨g8, 0, none⟩), s8, t8⟩ := hN.get 8 rfl (by kernel_rfl)
    obtain ⟨g, cz, hcz, hg, hg2, hg3, hg4⟩ := hb
    simp only [Value.pointer.injEq, Option.some.injEq, Addr.mk.injEq, and_true] at hg
    subst hg
    clear hN
    refine givesM_store 32 _ _ rfl g8 0 (by go_simp) (stL h5 s) (by go_simp; rfl) (there_row hg4 (by rw [List.size_toArray, hcz]; exact Nat.le_refl 16)) (by kernel_rfl) (stL_one _ _) ?_
    exact HR.out _ _ rfl ⟨h5, rfl, g8, rfl, hg2, hg3, setCells_at cz _ hcz hg4⟩ (ChgIn.row hcz hS hg2 hg3 hg4)
  rintro u11 s11 t11 rfl
  refine rg_doneA rfl (Nat.le_of_ble_eq_true (by kernel_rfl)) ?_
  intro w8 hS hT hA
  have K1 : Hid (CopW w4.heap.size s w8 ⟨stV h1 s, s1, t1⟩ h1) := Lib.hid (by
    obtain ⟨h', e, c⟩ := hT (1, ⟨stV h1 s, s1, t1⟩) (by simp)
    obtain rfl := stV_inj e
    exact c)
  have K3 : Hid (CopW w4.heap.size s w8 ⟨stV h3 s, s3, t3⟩ h3) := Lib.hid (by
    obtain ⟨h', e, c⟩ := hT (3, ⟨stV h3 s, s3, t3⟩) (by simp)
    obtain rfl := stV_inj e
    exact c)
  have K5 : Hid (CopW w4.heap.size s w8 ⟨stV h5 s, s5, t5⟩ h5) := Lib.hid (by
    obtain ⟨h', e, c⟩ := hT (5, ⟨stV h5 s, s5, t5⟩) (by simp)
    obtain rfl := stV_inj e
    exact c)
  have G6 : Hid (w4.heap.size ≤ g6 ∧ (s6 ≤ g6 ∧ g6 < t6) ∧ w8.heap[g6]? = some (.cells (stL h1 s).toArray 32 (0, 0))) := Lib.hid (by
    obtain ⟨h', e, kk⟩ := hT (9, ⟨undef, s9, t9⟩) (by simp)
    obtain rfl := stV_inj e
    have kk' : HasW 32 w4 w8 ⟨.pointer (some ⟨g6, 0, none⟩), s6, t6⟩ (stL h1 s) := kk
    obtain ⟨g, hg, hge, hin, hb⟩ := kk'
    simp only [Value.pointer.injEq, Option.some.injEq, Addr.mk.injEq, and_true] at hg
    subst hg
    exact ⟨hge, hin, hb⟩)
  have G7 : Hid (w4.heap.size ≤ g7 ∧ (s7 ≤ g7 ∧ g7 < t7) ∧ w8.heap[g7]? = some (.cells (stL h3 s).toArray 32 (0, 0))) := Lib.hid (by
    obtain ⟨h', e, kk⟩ := hT (10, ⟨undef, s10, t10⟩) (by simp)
    obtain rfl := stV_inj e
    have kk' : HasW 32 w4 w8 ⟨.pointer (some ⟨g7, 0, none⟩), s7, t7⟩ (stL h3 s) := kk
    obtain ⟨g, hg, hge, hin, hb⟩ := kk'
    simp only [Value.pointer.injEq, Option.some.injEq, Addr.mk.injEq, and_true] at hg
    subst hg
    exact ⟨hge, hin, hb⟩)
  have G8 : Hid (w4.heap.size ≤ g8 ∧ (s8 ≤ g8 ∧ g8 < t8) ∧ w8.heap[g8]? = some (.cells (stL h5 s).toArray 32 (0, 0))) := Lib.hid (by
    obtain ⟨h', e, kk⟩ := hT (11, ⟨undef, s11, t11⟩) (by simp)
    obtain rfl := stV_inj e
    have kk' : HasW 32 w4 w8 ⟨.pointer (some ⟨g8, 0, none⟩), s8, t8⟩ (stL h5 s) := kk
    obtain ⟨g, hg, hge, hin, hb⟩ := kk'
    simp only [Value.pointer.injEq, Option.some.injEq, Addr.mk.injEq, and_true] at hg
    subst hg
    exact ⟨hge, hin, hb⟩)
  have A13 : Hid (t1 ≤ s3 ∨ t3 ≤ s1) := Lib.hid (hA (1, ⟨stV h1 s, s1, t1⟩) (by simp) (3, ⟨stV h3 s, s3, t3⟩) (by simp) (by simp))
  have A15 : Hid (t1 ≤ s5 ∨ t5 ≤ s1) := Lib.hid (hA (1, ⟨stV h1 s, s1, t1⟩) (by simp) (5, ⟨stV h5 s, s5, t5⟩) (by simp) (by simp))
  have A16 : Hid (t1 ≤ s6 ∨ t6 ≤ s1) := Lib.hid (hA (1, ⟨stV h1 s, s1, t1⟩) (by simp) (6, ⟨.pointer (some ⟨g6, 0, none⟩), s6, t6⟩) (by simp) (by simp))
  have A17 : Hid (t1 ≤ s7 ∨ t7 ≤ s1) := Lib.hid (hA (1, ⟨stV h1 s, s1, t1⟩) (by simp) (7, ⟨.pointer (some ⟨g7, 0, none⟩), s7, t7⟩) (by simp) (by simp))
  have A18 : Hid (t1 ≤ s8 ∨ t8 ≤ s1) := Lib.hid (hA (1, ⟨stV h1 s, s1, t1⟩) (by simp) (8, ⟨.pointer (some ⟨g8, 0, none⟩), s8, t8⟩) (by simp) (by simp))
  have A35 : Hid (t3 ≤ s5 ∨ t5 ≤ s3) := Lib.hid (hA (3, ⟨stV h3 s, s3, t3⟩) (by simp) (5, ⟨stV h5 s, s5, t5⟩) (by simp) (by simp))
  have A36 : Hid (t3 ≤ s6 ∨ t6 ≤ s3) := Lib.hid (hA (3, ⟨stV h3 s, s3, t3⟩) (by simp) (6, ⟨.pointer (some ⟨g6, 0, none⟩), s6, t6⟩) (by simp) (by simp))
  have A37 : Hid (t3 ≤ s7 ∨ t7 ≤ s3) := Lib.hid (hA (3, ⟨stV h3 s, s3, t3⟩) (by simp) (7, ⟨.pointer (some ⟨g7, 0, none⟩), s7, t7⟩) (by simp) (by simp))
  have A38 : Hid (t3 ≤ s8 ∨ t8 ≤ s3) := Lib.hid (hA (3, ⟨stV h3 s, s3, t3⟩) (by simp) (8, ⟨.pointer (some ⟨g8, 0, none⟩), s8, t8⟩) (by simp) (by simp))
  have A56 : Hid (t5 ≤ s6 ∨ t6 ≤ s5) := Lib.hid (hA (5, ⟨stV h5 s, s5, t5⟩) (by simp) (6, ⟨.pointer (some ⟨g6, 0, none⟩), s6, t6⟩) (by simp) (by simp))
  have A57 : Hid (t5 ≤ s7 ∨ t7 ≤ s5) := Lib.hid (hA (5, ⟨stV h5 s, s5, t5⟩) (by simp) (7, ⟨.pointer (some ⟨g7, 0, none⟩), s7, t7⟩) (by simp) (by simp))
  have A58 : Hid (t5 ≤ s8 ∨ t8 ≤ s5) := Lib.hid (hA (5, ⟨stV h5 s, s5, t5⟩) (by simp) (8, ⟨.pointer (some ⟨g8, 0, none⟩), s8, t8⟩) (by simp) (by simp))
  have A67 : Hid (t6 ≤ s7 ∨ t7 ≤ s6) := Lib.hid (hA (6, ⟨.pointer (some ⟨g6, 0, none⟩), s6, t6⟩) (by simp) (7, ⟨.pointer (some ⟨g7, 0, none⟩), s7, t7⟩) (by simp) (by simp))
  have A68 : Hid (t6 ≤ s8 ∨ t8 ≤ s6) := Lib.hid (hA (6, ⟨.pointer (some ⟨g6, 0, none⟩), s6, t6⟩) (by simp) (8, ⟨.pointer (some ⟨g8, 0, none⟩), s8, t8⟩) (by simp) (by simp))
  have A78 : Hid (t7 ≤ s8 ∨ t8 ≤ s7) := Lib.hid (hA (7, ⟨.pointer (some ⟨g7, 0, none⟩), s7, t7⟩) (by simp) (8, ⟨.pointer (some ⟨g8, 0, none⟩), s8, t8⟩) (by simp) (by simp))
  have HX8 := Lib.hid (HX4.out.trans hS)
  have HGE := Lib.hid hS.size
  have HS8 := Lib.hid hS
  clear hT hA hS
  have b1 : (0 : Int) ≤ a := by rw [HKA.out]; omega
  have b2 : a ≤ 100000 := by have := (List.getElem?_eq_some_iff.1 HXG.out).1; have := HF.out.glob; rw [HKA.out]; omega
  have hkl := (List.getElem?_eq_some_iff.1 HXG.out).1
  have HKL := Lib.hid hkl
  have S1 : ∀ v, (Instr.slice 27 (.slice h.la s.glob.length h.lc) none (some (.int .i64 a)) none).run Try.prog v = .ok (.slice h.la k h.lc) v := fun v => by rw [HKA.out]; exact irun_to _ _ _ _ (by omega) HCAP.out v
  have S2 : ∀ v, (Instr.slice 27 (.slice h.la s.glob.length h.lc) (some (.int .i64 (a + 1))) none none).run Try.prog v = .ok (.slice (advK h.la (k + 1) h.lc) (s.glob.length - (k + 1)) (h.lc - (k + 1))) v := fun v => by rw [show a + 1 = ((k + 1 : Nat) : Int) by rw [HKA.out]; omega]; exact irun_from _ _ _ _ (by omega) HCAP.out v
  have K0 : ∀ v, Ext w8 v → v.cell? ⟨w.heap.size, 4, none⟩ = some (.slice h.la s.glob.length h.lc) := fun v hv => st4 ((HX8.out.trans hv).blk HB1.out)
  have HGL : Hid (∀ v, Ext w8 v → IntsAt v (.slice h.la s.glob.length h.lc) s.glob) := Lib.hid fun v hv => (HK1.out.ext (HX8.out.trans hv)).glob
  have hwr : IntKind.i64.wrap (a + 1) = a + 1 := IntWalk.i64_in _ (by omega)
  clear hkl
  go_wp2_with fail
  refine region_g 13 (fun v => Ext w8 v) (fun v => Ext w8 v) (by kernel_rfl) (Ext.refl _).drew ?_
  have HG : ∀ (l : Array Bool) v, Ext w8 v → l.getD 13 false = false → Ext w8 v := fun _ _ h _ => h
  refine g_take (HG _) (i := 1) (v := ?_) rfl (by kernel_rfl) (by kernel_rfl) (by kernel_rfl) (by kernel_rfl) (by kernel_rfl) (fun _ _ _ h => h) (Still.yes (by kernel_rfl) fun w hS => ?_) ?_
  rotate_left 1
  · skip
    go_simp
    try simp only [S1]
    refine gives_mk ?_ rfl
    with_reducible rfl
  refine g_take (HG _) (i := 2) (v := ?_) rfl (by kernel_rfl) (by kernel_rfl) (by kernel_rfl) (by kernel_rfl) (by kernel_rfl) (fun _ _ _ h => h) (Still.yes (by kernel_rfl) fun w hS => ?_) ?_
  rotate_left 1
  · skip
    go_simp
    try simp only [S1]
    refine gives_mk ?_ rfl
    with_reducible rfl
  refine g_take (HG _) (i := 3) (v := ?_) rfl (by kernel_rfl) (by kernel_rfl) (by kernel_rfl) (by kernel_rfl) (by kernel_rfl) (fun _ _ _ h => h) (Still.yes (by kernel_rfl) fun w hS => ?_) ?_
  rotate_left 1
  · skip
    go_simp
    try simp only [S1]
    refine gives_mk ?_ rfl
    with_reducible rfl
  refine g_take (HG _) (i := 4) (v := ?_) rfl (by kernel_rfl) (by kernel_rfl) (by kernel_rfl) (by kernel_rfl) (by kernel_rfl) (fun _ _ _ h => h) (Still.yes (by kernel_rfl) fun w hS => ?_) ?_
  rotate_left 1
  · skip
    go_simp
    try simp only [S1]
    refine gives_mk ?_ rfl
    with_reducible rfl
  refine g_take (HG _) (i := 6) (v := ?_) rfl (by kernel_rfl) (by kernel_rfl) (by kernel_rfl) (by kernel_rfl) (by kernel_rfl) (fun _ _ _ h => h) (Still.yes (by kernel_rfl) fun w hS => ?_) ?_
  rotate_left 1
  · skip
    go_simp
    try simp only [hwr, S2]
    refine gives_mk ?_ rfl
    with_reducible rfl
  refine g_take (HG _) (i := 7) (v := ?_) rfl (by kernel_rfl) (by kernel_rfl) (by kernel_rfl) (by kernel_rfl) (by kernel_rfl) (fun _ _ _ h => h) (Still.yes (by kernel_rfl) fun w hS => ?_) ?_
  rotate_left 1
  · skip
    go_simp
    try simp only [hwr, S2]
    refine gives_mk ?_ rfl
    with_reducible rfl
  refine g_take (HG _) (i := 8) (v := ?_) rfl (by kernel_rfl) (by kernel_rfl) (by kernel_rfl) (by kernel_rfl) (by kernel_rfl) (fun _ _ _ h => h) (Still.yes (by kernel_rfl) fun w hS => ?_) ?_
  rotate_left 1
  · skip
    go_simp
    try simp only [hwr, S2]
    refine gives_mk ?_ rfl
    with_reducible rfl
  refine g_take (HG _) (i := 9) (v := ?_) rfl (by kernel_rfl) (by kernel_rfl) (by kernel_rfl) (by kernel_rfl) (by kernel_rfl) (fun _ _ _ h => h) (Still.yes (by kernel_rfl) fun w hS => ?_) ?_
  rotate_left 1
  · skip
    go_simp
    try simp only [hwr, S2]
    refine gives_mk ?_ rfl
    with_reducible rfl
  refine g_take (HG _) (i := 10) (v := ?_) rfl (by kernel_rfl) (by kernel_rfl) (by kernel_rfl) (by kernel_rfl) (by kernel_rfl) (fun _ _ _ h => h) (Still.yes (by kernel_rfl) fun w hS => ?_) ?_
  rotate_left 1
  · skip
    go_simp
    try simp only [hwr, S2]
    refine gives_mk ?_ rfl
    with_reducible rfl
  refine g_turn (fun v w' => (∃ g, v = .slice (some ⟨g, 0, none⟩) 0 0) ∧ OwnInts w' w8.heap.size v [] ∧ Ext w8 w') (k := 0) (by kernel_rfl) (fun _ _ h _ => h.2.2) (fun v hv => ?_)
  refine at_value rfl (by kernel_rfl) (by go_simp; exact ⟨_, _, ⟨rfl, rfl⟩, ⟨_, rfl⟩, OwnInts.lower (ints_made v) hv.size, hv.alloc _⟩) ?_
  rintro u ⟨_, ⟨g0, rfl⟩, _⟩
  refine g_turn (fun v w' => (∃ A' c', v = .slice A' (0 + k) c') ∧ OwnInts w' w8.heap.size v ([] ++ s.glob.take k) ∧ Ext w8 w') (k := 5) (by kernel_rfl) (fun _ _ h _ => h.2.2) (fun v hv => ?_)
  refine at_value rfl (by kernel_rfl) (by
    have hkl := HKL.out
    have hgl := HF.out.glob
    obtain ⟨A', c', w', hr, ho, hx, _⟩ := ints_more (W := w8) hv.2.1 rfl (by rw [List.length_take]; omega) ((HGL.out v hv.2.2).upto (Nat.le_of_lt hkl)) (Nat.le_refl _) hv.2.2.size hv.2.2 (by simp; omega)
    exact ⟨_, w', run_append_op (.tmp 39) (.tmp 43) 27 rfl _ _ (by go_simp) (by go_simp) hr, ⟨_, _, rfl⟩, ho, hx⟩) ?_
  rintro u ⟨_, ⟨A5, c5, rfl⟩, _⟩
  refine g_turn (fun v w' => (∃ A' c', v = .slice A' (0 + k + (s.glob.length - (k + 1))) c') ∧ OwnInts w' w8.heap.size v ([] ++ s.glob.take k ++ s.glob.drop (k + 1)) ∧ Ext w8 w') (k := 11) (by kernel_rfl) (fun _ _ h _ => h.2.2) (fun v hv => ?_)
  refine at_value rfl (by kernel_rfl) (by
    have hkl := HKL.out
    have hgl := HF.out.glob
    obtain ⟨A', c', w', hr, ho, hx, _⟩ := ints_more (W := w8) (n := 0 + k) hv.2.1 (by simp; omega) (by rw [List.length_drop]) ((HGL.out v hv.2.2).behind (k := k + 1) hkl HCAP.out) (Nat.le_refl _) hv.2.2.size hv.2.2 (by simp; omega)
    exact ⟨_, w', run_append_op (.tmp 44) (.tmp 49) 27 rfl _ _ (by go_simp) (by go_simp) hr, ⟨_, _, rfl⟩, ho, hx⟩) ?_
  rintro u ⟨_, ⟨A11, c11, rfl⟩, _⟩
  refine g_free (fun _ h _ => h.2.2) (i := 12) (v := ?_) rfl (by kernel_rfl) (by kernel_rfl) (by kernel_rfl) (by kernel_rfl) (fun _ _ _ h => h) (Still.yes (by kernel_rfl) fun w hS => ?_) ?_
  rotate_left 1
  · clear hS
    go_simp
    refine gives_mk ?_ rfl
    with_reducible rfl
  refine g_turn (fun v w' => w'.heap[g6]? = some (.cells (stL { h1 with la := A11, lc := c11 } { s with glob := s.glob.take k ++ s.glob.drop (k + 1) }).toArray 32 (0, 0)) ∧ OwnInts w' w8.heap.size (.slice A11 (0 + k + (s.glob.length - (k + 1))) c11) ([] ++ s.glob.take k ++ s.glob.drop (k + 1)) ∧ Upd g6 w8 w') (k := 13) (by kernel_rfl) (fun _ _ _ hz => absurd hz (by decide +kernel)) (fun v hv => ?_)
  refine at_skip rfl (by kernel_rfl) ?_ ?_
  · obtain ⟨⟨A', c', he⟩, ho, hx⟩ := hv
    have hlen : (s.glob.take k ++ s.glob.drop (k + 1)).length = 0 + k + (s.glob.length - (k + 1)) := by have := HKL.out; simp; omega
    have hb6 := hx.blk G6.out.2.2
    have N1 : Hid ((v.setCell ⟨g6, 4, none⟩ (.slice A11 (0 + k + (s.glob.length - (k + 1))) c11)).heap[g6]? = some (.cells (stL { h1 with la := A11, lc := c11 } { s with glob := s.glob.take k ++ s.glob.drop (k + 1) }).toArray 32 (0, 0))) := Lib.hid (by rw [← hlen]; exact blk_set hb6 4 _)
    have N2 := Lib.hid (ho.updB ((Upd.refl g6 v).set 4 (.slice A11 (0 + k + (s.glob.length - (k + 1))) c11)) (blk_lt G6.out.2.2))
    have N3 := Lib.hid ((Upd.ext (g := g6) hx).set 4 (.slice A11 (0 + k + (s.glob.length - (k + 1))) c11))
    have z0 : v.cell? ⟨g6, 4, none⟩ = some (.slice h1.la s.glob.length h1.lc) := st4 hb6
    have y0 := frozen_of_row _ _ 4 _ _ hb6
    clear he ho hx hb6 hlen K0 HG S1 S2 hwr b1 b2
    refine ⟨v.setCell ⟨g6, 4, none⟩ (.slice A11 (0 + k + (s.glob.length - (k + 1))) c11), ?_, N1.out, N2.out, N3.out⟩
    go_simp
  refine g_done (by kernel_rfl) ?_ _
  intro w9 hw9
  have P6 := Lib.hid hw9.1
  have PO := Lib.hid hw9.2.1
  have PU := Lib.hid hw9.2.2
  clear hw9 K0 HG S1 S2 hwr
  obtain ⟨hs3, I3, c3, hT3, ht3⟩ := K3.out
  have HS3 := Lib.hid hs3
  clear hs3
  have a36 := A36.out
  have p66 := G6.out.2.1
  have C3 : Hid (StApart s3 w9 I3 h3 s) := Lib.hid (c3.but (But.upd (S := fun b => b = g6) PU.out rfl) hT3 (fun b h1 h2 h3 => by simp only at h1 h2; omega))
  have HT3 := Lib.hid hT3
  have HC3 := Lib.hid ht3
  clear c3 hT3 ht3 a36 p66
  have hge6 := G6.out.1
  have HX9 : Hid (Ext w4 w9) := Lib.hid ((HS8.out).upd PU.out hge6)
  have HXW9 := Lib.hid (HX4.out.trans HX9.out)
  have hge7 := G7.out.1
  have p76 := A67.out
  have q66 := G6.out.2.1
  have q77 := G7.out.2.1
  have G7b : Hid (w9.heap[g7]? = some (.cells (stL h3 s).toArray 32 (0, 0))) := Lib.hid ((PU.out.block g7 (blk_lt G7.out.2.2) (fun e => by injection e; omega)).trans G7.out.2.2)
  have G8b : Hid (w9.heap[g8]? = some (.cells (stL h5 s).toArray 32 (0, 0))) := Lib.hid ((PU.out.block g8 (blk_lt G8.out.2.2) (fun e => by injection e; have := A68.out; have := G8.out.2.1; omega)).trans G8.out.2.2)
  clear hge6 hge7 p76 q66 q77
  obtain ⟨bb, oo, hla, hbb, hcell⟩ : ∃ b o, h.la = some ⟨b, o, none⟩ ∧ b < w9.heap.size ∧ w9.cell? ⟨b, o + k, none⟩ = some (.int .i64 x) := by
    obtain ⟨A', c', hv, hA⟩ := (HK1.out.ext HXW9.out).glob
    simp only [Value.slice.injEq, true_and] at hv
    obtain ⟨b, o, e, hb, hc⟩ := hA (by have := HKL.out; omega)
    exact ⟨b, o, hv.1.trans e, hb, hc k x HXG.out⟩
  have i0 : (0 : Int) ≤ a := by rw [HKA.out]; omega
  have i1 : a < (s.glob.length : Int) := by have := HKL.out; rw [HKA.out]; omega
  have hkt : a.toNat = k := by rw [HKA.out]; omega
  have K0 : ∀ v, Ext w9 v → v.cell? ⟨w.heap.size, 4, none⟩ = some (.slice (some ⟨bb, oo, none⟩) s.glob.length h.lc) := fun v hv => by rw [← hla]; exact st4 ((HXW9.out.trans hv).blk HB1.out)
  have K1' : ∀ v, Ext w9 v → v.cell? ⟨g7, 4, none⟩ = some (.slice h3.la s.glob.length h3.lc) := fun v hv => st4 (hv.blk G7b.out)
  have K2 : ∀ v, Ext w9 v → v.cell? ⟨bb, oo + a.toNat, none⟩ = some (.int .i64 x) := fun v hv => by rw [hkt, Below.cell hv hbb]; exact hcell
  clear hla hbb hcell b1 b2 hkt
  go_simp
  go_wp2_with fail
  refine region_g 8 (fun v => Ext w9 v) (fun v => Ext w9 v) (by kernel_rfl) (Ext.refl _).drew ?_
  have HG : ∀ (l : Array Bool) v, Ext w9 v → l.getD 8 false = false → Ext w9 v := fun _ _ h _ => h
  refine g_take (HG _) (i := 0) (v := ?_) rfl (by kernel_rfl) (by kernel_rfl) (by kernel_rfl) (by kernel_rfl) (by kernel_rfl) (fun _ _ _ h => h) (Still.yes (by kernel_rfl) fun w hS => ?_) ?_
  rotate_left 1
  · skip
    go_simp
    refine gives_mk ?_ rfl
    with_reducible rfl
  refine g_take (HG _) (i := 1) (v := ?_) rfl (by kernel_rfl) (by kernel_rfl) (by kernel_rfl) (by kernel_rfl) (by kernel_rfl) (fun _ _ _ h => h) (Still.yes (by kernel_rfl) fun w hS => ?_) ?_
  rotate_left 1
  · skip
    go_simp
    refine gives_mk ?_ rfl
    with_reducible rfl
  refine g_take (HG _) (i := 2) (v := ?_) rfl (by kernel_rfl) (by kernel_rfl) (by kernel_rfl) (by kernel_rfl) (by kernel_rfl) (fun _ _ _ h => h) (Still.yes (by kernel_rfl) fun w hS => ?_) ?_
  rotate_left 1
  · skip
    go_simp
    refine gives_mk ?_ rfl
    with_reducible rfl
  refine g_take (HG _) (i := 3) (v := ?_) rfl (by kernel_rfl) (by kernel_rfl) (by kernel_rfl) (by kernel_rfl) (by kernel_rfl) (fun _ _ _ h => h) (Still.yes (by kernel_rfl) fun w hS => ?_) ?_
  rotate_left 1
  · skip
    go_simp
    refine gives_mk ?_ rfl
    with_reducible rfl
  refine g_take (HG _) (i := 4) (v := ?_) rfl (by kernel_rfl) (by kernel_rfl) (by kernel_rfl) (by kernel_rfl) (by kernel_rfl) (fun _ _ _ h => h) (Still.yes (by kernel_rfl) fun w hS => ?_) ?_
  rotate_left 1
  · skip
    go_simp
    refine gives_mk ?_ rfl
    with_reducible rfl
  refine g_take (HG _) (i := 5) (v := ?_) rfl (by kernel_rfl) (by kernel_rfl) (by kernel_rfl) (by kernel_rfl) (by kernel_rfl) (fun _ _ _ h => h) (Still.yes (by kernel_rfl) fun w hS => ?_) ?_
  rotate_left 1
  · skip
    go_simp
    refine gives_mk ?_ rfl
    with_reducible rfl
  refine g_take (HG _) (i := 6) (v := ?_) rfl (by kernel_rfl) (by kernel_rfl) (by kernel_rfl) (by kernel_rfl) (by kernel_rfl) (fun _ _ _ h => h) (Still.yes (by kernel_rfl) fun w hS => ?_) ?_
  rotate_left 1
  · skip
    go_simp
    refine gives_mk ?_ rfl
    with_reducible rfl
  refine g_turn (fun v w' => (∃ g, v = .slice (some ⟨g, 0, none⟩) 1 1 ∧ w'.heap[g]? = some (.cells #[.int .i64 x] 3 (0, 0))) ∧ Ext w9 w') (k := 7) (by kernel_rfl) (fun _ _ h _ => h.2) (fun v hv => ?_)
  refine at_value rfl (by kernel_rfl) (by go_simp; exact ⟨_, _, ⟨rfl, rfl⟩, ⟨_, rfl, blk_new _ _⟩, hv.alloc _⟩) ?_
  rintro u ⟨_, ⟨g7', rfl, _⟩, _⟩
  refine g_turn (fun v w' => (∃ A' c', v = .slice A' (s.glob.length + 1) c' ∧ OwnInts w' (I3 4).1 v (s.glob ++ [x]) ∧ ∀ b, v.ownBlock = some b → (Value.slice h3.la s.glob.length h3.lc).ownBlock = some b ∨ w9.heap.size ≤ b) ∧ But (fun b => (Value.slice h3.la s.glob.length h3.lc).ownBlock = some b) w9 w') (k := 8) (by kernel_rfl) (fun _ _ _ hz => absurd hz (by decide +kernel)) (fun v hv => ?_)
  refine at_value rfl (by kernel_rfl) (by
    obtain ⟨⟨g, hg, hgb⟩, hx⟩ := hv
    simp only [Value.slice.injEq, Option.some.injEq, Addr.mk.injEq, and_true] at hg
    subst hg
    have hgl := HF.out.glob
    have hlow := (C3.out.low 4 (by omega)).2
    have hone : IntsAt v (.slice (some ⟨g7', 0, none⟩) [x].length 1) [x] := ⟨_, _, rfl, fun _ => ⟨g7', 0, rfl, blk_lt hgb, fun j y hj => by
      match j with
      | 0 => simp at hj; subst hj; exact blk_cell hgb _ _ rfl
      | j + 1 => simp at hj⟩⟩
    obtain ⟨u', w', hr, ho, hgr, hnb⟩ := OwnInts.append2 27 (C3.out.glob.1.ext hx) hone (by simp; omega) (by have := hx.size; omega)
    obtain ⟨A', c', rfl⟩ := ho.form
    rw [List.length_append] at hr ho hnb
    exact ⟨_, w', run_append_op (.tmp 53) (.tmp 59) 27 rfl _ _ (by go_simp) (by go_simp) hr, ⟨_, _, rfl, ho, fun b hb => hnb.elim (fun e => .inl (e.symm.trans hb)) (fun e => .inr (by have := Option.some.inj (e.symm.trans hb); have := hx.size; omega))⟩, (But.ext hx).trans ⟨hgr.os, hgr.tape, hgr.output, hgr.size, fun i hi hn => hgr.block i hi (fun e => hn e.symm)⟩⟩) ?_
  rintro u ⟨_, ⟨A8, c8, rfl, _⟩, _⟩
  refine g_free (fun _ _ hz => absurd hz (by decide +kernel)) (i := 9) (v := ?_) rfl (by kernel_rfl) (by kernel_rfl) (by kernel_rfl) (by kernel_rfl) (fun _ _ _ h => h) (Still.yes (by kernel_rfl) fun w hS => ?_) ?_
  rotate_left 1
  · clear hS
    go_simp
    refine gives_mk ?_ rfl
    with_reducible rfl
  have NB : Hid (¬ (Value.slice h3.la s.glob.length h3.lc).ownBlock = some g7) := Lib.hid fun e => by
    have a1 := World.ownsRow.lt C3.out.glob.1 g7 e
    have a2 := C3.out.glob.2 g7 e
    have a3 := C3.out.low 4 (by omega)
    have a4 := HT3.out 4 (by omega)
    have a5 := G7.out.2.1
    have a6 := A37.out
    omega
  refine g_turn (fun v w' => w'.heap[g7]? = some (.cells (stL { h3 with la := A8, lc := c8 } { s with glob := s.glob ++ [x] }).toArray 32 (0, 0)) ∧ (OwnInts w' (I3 4).1 (.slice A8 (s.glob.length + 1) c8) (s.glob ++ [x]) ∧ ∀ b, (Value.slice A8 (s.glob.length + 1) c8).ownBlock = some b → (Value.slice h3.la s.glob.length h3.lc).ownBlock = some b ∨ w9.heap.size ≤ b) ∧ But (fun b => (Value.slice h3.la s.glob.length h3.lc).ownBlock = some b ∨ b = g7) w9 w') (k := 10) (by kernel_rfl) (fun _ _ _ hz => absurd hz (by decide +kernel)) (fun v hv => ?_)
  refine at_skip rfl (by kernel_rfl) ?_ ?_
  · obtain ⟨⟨A', c', he, ho, hnb⟩, hbt⟩ := hv
    have hlen : (s.glob ++ [x]).length = s.glob.length + 1 := by simp
    have hb7 := hbt.blk G7b.out NB.out
    have hlt7 := blk_lt G7b.out
    have hu := (Upd.refl g7 v).set 4 (.slice A8 (s.glob.length + 1) c8)
    have N1 : Hid ((v.setCell ⟨g7, 4, none⟩ (.slice A8 (s.glob.length + 1) c8)).heap[g7]? = some (.cells (stL { h3 with la := A8, lc := c8 } { s with glob := s.glob ++ [x] }).toArray 32 (0, 0))) := Lib.hid (by rw [← hlen]; exact blk_set hb7 4 _)
    have N2 := Lib.hid (ho.but (But.upd (S := fun b => b = g7) hu rfl) (fun b hb e => by
      subst e
      rcases hnb _ hb with e | e
      · exact NB.out e
      · omega))
    have N3 : Hid (But (fun b => (Value.slice h3.la s.glob.length h3.lc).ownBlock = some b ∨ b = g7) w9 (v.setCell ⟨g7, 4, none⟩ (.slice A8 (s.glob.length + 1) c8))) := Lib.hid ((hbt.wide (fun i _ h => .inl h)).trans (But.upd hu (.inr rfl)))
    have N4 := Lib.hid hnb
    have z0 : v.cell? ⟨g7, 4, none⟩ = some (.slice h3.la s.glob.length h3.lc) := st4 hb7
    have y0 := frozen_of_row _ _ 4 _ _ hb7
    clear he ho hnb hbt hb7 hlen K0 K1' K2 HG hu hlt7 i0 i1
    refine ⟨v.setCell ⟨g7, 4, none⟩ (.slice A8 (s.glob.length + 1) c8), ?_, N1.out, ⟨N2.out, N4.out⟩, N3.out⟩
    go_simp
  refine g_done (by kernel_rfl) ?_ _
  intro w10 hw10
  have Q7 := Lib.hid hw10.1
  have QO := Lib.hid hw10.2.1.1
  have QN := Lib.hid hw10.2.1.2
  have QB := Lib.hid hw10.2.2
  clear hw10 K0 K1' K2 HG i0 i1
  have OB3 : Hid (∀ b, (Value.slice h3.la s.glob.length h3.lc).ownBlock = some b → s3 ≤ b ∧ b < t3) := Lib.hid fun b e => by
    have a1 := World.ownsRow.lt C3.out.glob.1 b e
    have a2 := C3.out.glob.2 b e
    have a3 := C3.out.low 4 (by omega)
    have a4 := HT3.out 4 (by omega)
    omega
  have HX10 : Hid (Ext w4 w10) := Lib.hid (But.after HX9.out QB.out fun i hi => by
    rcases hi with e | e
    · have := OB3.out i e; have := HS3.out; omega
    · have := G7.out.1; omega)
  have HXW10 := Lib.hid (HX4.out.trans HX10.out)
  have G8c : Hid (w10.heap[g8]? = some (.cells (stL h5 s).toArray 32 (0, 0))) := Lib.hid (QB.out.blk G8b.out fun hi => by
    have b8 := G8.out.2.1
    rcases hi with e | e
    · have := OB3.out g8 e; have := A38.out; omega
    · have := G7.out.2.1; have := A78.out; omega)
  obtain ⟨hs5, I5, c5', hT5, ht5⟩ := K5.out
  have C5 : Hid (StApart s5 w10 I5 h5 s) := Lib.hid (by
    have a1 := A56.out
    have a2 := G6.out.2.1
    have a3 := A35.out
    have a4 := A57.out
    have a5 := G7.out.2.1
    refine (c5'.but (But.upd (S := fun b => b = g6) PU.out rfl) hT5 (fun b h1 h2 h3 => by simp only at h1 h2; omega)).but QB.out hT5 (fun b h1 h2 h3 => ?_)
    simp only at h1 h2
    rcases h3 with e | e
    · have := OB3.out b e; omega
    · omega)
  have HS5 := Lib.hid hs5
  have HT5 := Lib.hid hT5
  clear hs5 c5' hT5 ht5
  obtain ⟨p, pr, hps⟩ : ∃ p pr, s.ps = p :: pr := by
    have hw := (St.may_parts HM.out).1
    unfold St.whole at hw
    simp only [Bool.and_eq_true, decide_eq_true_eq] at hw
    cases hq : s.ps with
    | nil => rw [hq] at hw; simp at hw
    | cons p pr => exact ⟨p, pr, rfl⟩
  have HPS := Lib.hid hps
  obtain ⟨bq, oq, hqa, hqb, hqr⟩ := RowsAt.range (OwnRows.rows pL_len C5.out.ps.1) (k := 0) (x := p) (by rw [hps]; rfl)
  rw [Nat.zero_mul, Nat.add_zero] at hqr
  have HQA := Lib.hid hqa
  have HQR := Lib.hid hqr
  have q2 : w10.cell? ⟨g8, 2, none⟩ = some (.slice (some ⟨bq, oq, none⟩) s.ps.length h5.qc) := by rw [← hqa]; exact st2 G8c.out
  have i1 : (0 : Int) < (s.ps.length : Int) := by rw [hps]; simp <;> omega
  obtain ⟨pv, hpv⟩ : ∃ pv, Value.agg (pL p).toArray = pv := ⟨_, rfl⟩
  have HPV := Lib.hid hpv
  obtain ⟨w11, hw11⟩ : ∃ w11, w10.alloc (.cells #[.int .i64 0, .int .i64 0, .int .i64 0, .int .i64 0, .int .i64 0, .int .i64 0, .int .i64 0, .int .i64 0, .int .i64 0, .int .i64 0, .int .i64 0, .int .i64 0, .int .i64 0] 40) = w11 := ⟨_, rfl⟩
  obtain ⟨bx, hbx⟩ : ∃ bx, w10.heap.size = bx := ⟨_, rfl⟩
  obtain ⟨w12, hw12⟩ : ∃ w12, w11.setCells bx 0 (pL p) = w12 := ⟨_, rfl⟩
  have hb11 : w11.heap[bx]? = some (.cells #[.int .i64 0, .int .i64 0, .int .i64 0, .int .i64 0, .int .i64 0, .int .i64 0, .int .i64 0, .int .i64 0, .int .i64 0, .int .i64 0, .int .i64 0, .int .i64 0, .int .i64 0] 40 (0, 0)) := by rw [← hw11, ← hbx]; exact blk_new w10 _
  have HTH : Hid (w11.there bx 0 (pL p).length) := Lib.hid (there_row hb11 (by rw [pL_len]; exact Nat.le_refl 13))
  have HW11 := Lib.hid hw11
  have HBX := Lib.hid hbx
  have HW12 := Lib.hid hw12
  have HB12 : Hid (w12.heap[bx]? = some (.cells (pL p).toArray 40 (0, 0))) := Lib.hid (by rw [← hw12]; exact setCells_at [.int .i64 0, .int .i64 0, .int .i64 0, .int .i64 0, .int .i64 0, .int .i64 0, .int .i64 0, .int .i64 0, .int .i64 0, .int .i64 0, .int .i64 0, .int .i64 0, .int .i64 0] (pL p) (by rw [pL_len]; rfl) hb11)
  have HX12 : Hid (Ext w10 w12) := Lib.hid (by rw [← hw12]; exact Ext.upd (a := w10) (by rw [← hw11]; exact (Ext.refl w10).alloc _) (setCells_upd _ _ _ _) (by omega))
  clear hqa hqb hqr hpv hw11 hbx hw12 hb11 hps
  go_simp
  go_upto_region 7 with (first | rw [HW11.out] | rw [HBX.out] | (refine wpList_load_rowM rfl 40 _ rfl bq oq rfl (pL p) pv HPV.out.symm _ HQR.out Try.underlying40 rfl (by rw [pL_len]; kernel_rfl) ?_) | (refine wpList_store_row rfl 40 _ _ rfl bx (pL p) pv rfl rfl HPV.out.symm HTH.out (by rw [pL_len]; kernel_rfl) (pL_one p) HW12.out ?_))
  clear q2 i1
  have q3 : w12.cell? ⟨g8, 3, none⟩ = some (.slice h5.ma s.ms.length h5.mc) := st3 (HX12.out.blk G8c.out)
  have r0 : w12.cell? ⟨bx, 0, none⟩ = some (.int .i64 p.m) := blk_cell HB12.out 0 _ rfl
  have r1 := frozen_of_row _ _ 0 _ _ HB12.out
  have hms := HF.out.ms
  obtain ⟨w13, hw13⟩ : ∃ w13, w12.setCell ⟨bx, 0, none⟩ (.int .i64 ((s.ms.length : Int) + 1)) = w13 := ⟨_, rfl⟩
  have HW13 := Lib.hid hw13
  have HB13 : Hid (w13.heap[bx]? = some (.cells (pL { p with m := (s.ms.length : Int) + 1 }).toArray 40 (0, 0))) := Lib.hid (by rw [← hw13]; exact blk_set HB12.out 0 _)
  have HX13 : Hid (Ext w10 w13) := Lib.hid (by rw [← hw13]; exact HX12.out.setCell (p := ⟨bx, 0, none⟩) (by have := HBX.out; simp only; omega) _)
  clear hw13
  go_upto_region 8 with (rw [HW13.out])
  clear q3 r0 r1 hms
  have HCU : Hid (oq = 0 ∧ (I5 2).1 ≤ bq ∧ bq < (I5 2).2 ∧ ∃ cur, w10.heap[bq]? = some (.cells cur 40 (0, 0)) ∧ 13 ≤ cur.size) := Lib.hid (by
    have hq := HQA.out
    have hn : 0 < s.ps.length := by rw [HPS.out]; simp
    rcases C5.out.ps.1.2 with ⟨_, h0⟩ | ⟨g, cap, cur, hv, hge, hgb, hnc, _, hsz, _⟩
    · omega
    · rw [hq] at hv
      simp only [Value.slice.injEq, Option.some.injEq, Addr.mk.injEq, and_true, true_and] at hv
      obtain ⟨⟨rfl, rfl⟩, rfl⟩ := hv
      exact ⟨rfl, hge, C5.out.ps.2 _ (by rw [hq]; rfl), cur, hgb, by rw [hsz]; omega⟩)
  obtain ⟨hoq, hlo, hhi, cur, hcb, hcs⟩ := HCU.out
  subst hoq
  have hcb3 := HX13.out.blk hcb
  obtain ⟨w14, hw14⟩ : ∃ w14, w13.setCells bq 0 (pL { p with m := (s.ms.length : Int) + 1 }) = w14 := ⟨_, rfl⟩
  obtain ⟨pv2, hpv2⟩ : ∃ pv2, Value.agg (pL { p with m := (s.ms.length : Int) + 1 }).toArray = pv2 := ⟨_, rfl⟩
  have HPV2 := Lib.hid hpv2
  have HW14 := Lib.hid hw14
  have HTH14 : Hid (w13.there bq 0 (pL { p with m := (s.ms.length : Int) + 1 }).length) := Lib.hid fun j hj => by
    rw [pL_len] at hj
    exact ⟨by rw [blk_cell hcb3 (0 + j) _ (Array.getElem?_eq_getElem (by omega))]; rfl, frozen_of_row _ _ (0 + j) _ _ hcb3⟩
  have HR14 : Hid (RowsAt 13 pL w14 (.slice (some ⟨bq, 0, none⟩) s.ps.length h5.qc) ({ p with m := (s.ms.length : Int) + 1 } :: pr)) := Lib.hid (by
    rw [← hw14]
    refine RowsAt.setHead pL_len (x := p) ?_ hcb3 (by omega)
    have := (OwnRows.rows pL_len C5.out.ps.1).ext HX13.out
    rw [HQA.out, HPS.out] at this
    rw [HPS.out]
    exact this)
  have HU14 : Hid (Upd bq w13 w14) := Lib.hid (by rw [← hw14]; exact setCells_upd _ _ _ _)
  have q2 : w13.cell? ⟨g8, 2, none⟩ = some (.slice (some ⟨bq, 0, none⟩) s.ps.length h5.qc) := by rw [← HQA.out]; exact st2 (HX13.out.blk G8c.out)
  have i1 : (0 : Int) < (s.ps.length : Int) := by rw [HPS.out]; simp <;> omega
  clear hlo hhi hcb hcs hcb3 hw14 hpv2
  go_upto_region 9 with (first | (refine wpList_load_rowM rfl 40 _ rfl bx 0 rfl (pL { p with m := (s.ms.length : Int) + 1 }) pv2 HPV2.out.symm _ (range_row HB13.out) Try.underlying40 rfl (by rw [pL_len]; kernel_rfl) ?_) | (refine wpList_store_row rfl 40 _ _ rfl bq (pL { p with m := (s.ms.length : Int) + 1 }) pv2 rfl rfl HPV2.out.symm HTH14.out (by rw [pL_len]; kernel_rfl) (pL_one _) HW14.out ?_))
  clear q2 i1
  obtain ⟨hs1, I1, c1', hT1, ht1⟩ := K1.out
  have hlow2 := C5.out.low 2 (by omega)
  have hT52 := HT5.out 2 (by omega)
  have HBQ : Hid (s5 ≤ bq ∧ bq < t5) := Lib.hid (by have hq := HCU.out; exact ⟨Nat.le_trans hlow2.1 hq.2.1, Nat.lt_of_lt_of_le hq.2.2.1 hT52⟩)
  have hlen14 : (s.glob.take k ++ s.glob.drop (k + 1)).length = 0 + k + (s.glob.length - (k + 1)) := by have := HKL.out; simp; omega
  have HS89 := Lib.hid PU.out.size
  have HS35 := Lib.hid (show t5 ≤ w8.heap.size by obtain ⟨_, _, _, _, h⟩ := K5.out; exact h)
  have HC : Hid (But (fun b => b = g6 ∨ ((Value.slice h3.la s.glob.length h3.lc).ownBlock = some b ∨ b = g7) ∨ b = bq) w8 w14) := Lib.hid ((((But.upd PU.out (.inl rfl)).trans (QB.out.wide (fun i _ h => .inr (.inl h)))).trans (But.ext HX13.out)).trans (But.upd HU14.out (.inr (.inr rfl))))
  have HCB : Hid (But (fun b => ((Value.slice h3.la s.glob.length h3.lc).ownBlock = some b ∨ b = g7) ∨ b = bq) w9 w14) := Lib.hid (((QB.out.wide (fun i _ h => .inl h)).trans (But.ext HX13.out)).trans (But.upd HU14.out (.inr rfl)))
  have HCC : Hid (But (fun b => b = bq) w10 w14) := Lib.hid ((But.ext HX13.out).trans (But.upd HU14.out rfl))
  have p6 := G6.out.2.1
  have p7 := G7.out.2.1
  have p8 := G8.out.2.1
  have pbq := HBQ.out
  have p89 := HS89.out
  have p35 := HS35.out
  have HKA' : Hid (StOk w14 { h1 with la := A11, lc := c11 } { s with glob := s.glob.take k ++ s.glob.drop (k + 1) }) := Lib.hid (by
    refine c1'.okGlob HC.out hT1 (fun b x1 x2 x3 => ?_) HK1.out.buf ?_
    · exfalso
      have a1 := A16.out
      have a2 := A13.out
      have a3 := A17.out
      have a4 := A15.out
      simp only at x1 x2
      rcases x3 with e | (e | e) | e
      · omega
      · have := OB3.out b e; omega
      · omega
      · omega
    · rw [hlen14]
      refine (OwnInts.but (S := fun b => b < w8.heap.size) PO.out ((HCB.out.wide (fun i _ h => ?_))) (fun b hb h => ?_)).at.2
      · rcases h with (e | e) | e
        · have := OB3.out i e; have := HT3.out 4 (by omega); have := C3.out.glob.2 i e; have := C3.out.low 4 (by omega); obtain ⟨_, _, _, _, q⟩ := K3.out; simp only at q; omega
        · have := blk_lt G7.out.2.2; omega
        · omega
      · have := (World.ownsRow.lt PO.out b hb).1; omega)
  have HKB' : Hid (StOk w14 { h3 with la := A8, lc := c8 } { s with glob := s.glob ++ [x] }) := Lib.hid (by
    refine C3.out.okGlob HCB.out HT3.out (fun b x1 x2 x3 => ?_) HK1.out.buf ?_
    · rcases x3 with (e | e) | e
      · exact ⟨(World.ownsRow.lt C3.out.glob.1 b e).1, C3.out.glob.2 b e⟩
      · exfalso; have := A37.out; omega
      · exfalso; have := A35.out; omega
    · have h14 : (s.glob ++ [x]).length = s.glob.length + 1 := by simp
      rw [h14]
      refine ((OwnInts.ext QO.out HX13.out).but (But.upd (S := fun b => b = bq) HU14.out rfl) (fun b hb h => ?_)).at.2
      subst h
      rcases QN.out b hb with e | e
      · have := OB3.out b e; have := A35.out; omega
      · have := HT5.out; omega)
  have HKC' : Hid (StOk w14 h5 { s with ps := { p with m := (s.ms.length : Int) + 1 } :: pr }) := Lib.hid (by
    refine C5.out.okPs HCC.out HT5.out (fun b x1 x2 x3 => ?_) (fun q hq => ?_) ?_
    · have := HCU.out; subst x3; exact ⟨this.2.1, this.2.2.1⟩
    · have hbf := HK1.out.buf
      rw [HPS.out] at hbf
      rcases List.mem_cons.1 hq with e | e
      · subst e; exact hbf p (List.mem_cons_self ..)
      · exact hbf q (List.mem_cons_of_mem _ e)
    · have := HR14.out
      rw [HQA.out]
      rw [HPS.out, List.length_cons] at this
      rw [List.length_cons]
      exact this)
  have HBA' : Hid (w14.heap[g6]? = some (.cells (stL { h1 with la := A11, lc := c11 } { s with glob := s.glob.take k ++ s.glob.drop (k + 1) }).toArray 32 (0, 0))) := Lib.hid (HCB.out.blk P6.out fun e => by
    rcases e with (e | e) | e
    · have := OB3.out _ e; have := A36.out; omega
    · have := A67.out; omega
    · have := A56.out; omega)
  have HBB' : Hid (w14.heap[g7]? = some (.cells (stL { h3 with la := A8, lc := c8 } { s with glob := s.glob ++ [x] }).toArray 32 (0, 0))) := Lib.hid (HCC.out.blk Q7.out fun e => by have := A57.out; omega)
  have HBC' : Hid (w14.heap[g8]? = some (.cells (stL h5 { s with ps := { p with m := (s.ms.length : Int) + 1 } :: pr }).toArray 32 (0, 0))) := Lib.hid (by
    have := HCC.out.blk G8c.out fun e => by have := A58.out; omega
    have e : s.ps.length = ({ p with m := (s.ms.length : Int) + 1 } :: pr).length := by rw [HPS.out]; simp
    rw [this]
    unfold stL
    rw [e])
  have FA := Lib.hid (HF.out.withGlob (l := s.glob.take k ++ s.glob.drop (k + 1)) (by have := HSM.out; have := HKL.out; omega))
  have FB := Lib.hid (HF.out.withGlob (l := s.glob ++ [x]) (by have := HSM.out; simp; omega))
  have FC := Lib.hid (HF.out.withPs (l := { p with m := (s.ms.length : Int) + 1 } :: pr) (by have := HF.out.ps; rw [HPS.out] at this; simpa using this))
  have MA := Lib.hid (turned_a HM.out HXG.out)
  have MB := Lib.hid (turned_b HM.out HXG.out)
  have MC : Hid (({ s with ps := { p with m := (s.ms.length : Int) + 1 } :: pr } : St).may = false) := Lib.hid turned_c
  have HXF : Hid (Ext w w14) := Lib.hid (((HX1.out.trans HXW10.out).trans HX13.out).upd HU14.out (Nat.le_trans HX1.out.size (Nat.le_trans HX4.out.size (Nat.le_trans HS5.out HBQ.out.1))))
  clear p6 p7 p8 pbq p89 p35 hlen14 hT1 ht1 c1' hs1 hlow2 hT52
  obtain ⟨sa, hsa⟩ : ∃ sa : St, { s with glob := s.glob.take k ++ s.glob.drop (k + 1) } = sa := ⟨_, rfl⟩
  obtain ⟨sb, hsb⟩ : ∃ sb : St, { s with glob := s.glob ++ [x] } = sb := ⟨_, rfl⟩
  obtain ⟨sc, hsc⟩ : ∃ sc : St, { s with ps := { p with m := (s.ms.length : Int) + 1 } :: pr } = sc := ⟨_, rfl⟩
  obtain ⟨ha, hha⟩ : ∃ ha : StH, { h1 with la := A11, lc := c11 } = ha := ⟨_, rfl⟩
  obtain ⟨hb, hhb⟩ : ∃ hb : StH, { h3 with la := A8, lc := c8 } = hb := ⟨_, rfl⟩
  rw [hsa, hha] at HKA' HBA'
  rw [hsb, hhb] at HKB' HBB'
  rw [hsc] at HKC' HBC'
  rw [hsa] at FA MA
  rw [hsb] at FB MB
  rw [hsc] at FC MC
  clear hsa hsb hsc hha hhb
  go_wp2_with (refine wpList_load_rowW rfl 32 _ rfl g6 rfl (stL ha sa) (stV ha sa) rfl _ (range_row HBA'.out) Try.underlying32 rfl (by kernel_rfl) ?_)
  refine (sstmay_any ha sa false MA.out w14 HKA'.out FA.out).mono ?_
  rintro e w15 ⟨rfl, hx15⟩
  have HX15 := Lib.hid hx15
  have HBB2 := Lib.hid (hx15.blk HBB'.out)
  clear hx15
  go_wp2_with (refine wpList_load_rowW rfl 32 _ rfl g7 rfl (stL hb sb) (stV hb sb) rfl _ (range_row HBB2.out) Try.underlying32 rfl (by kernel_rfl) ?_)
  refine (sstmay_any hb sb false MB.out w15 (HKB'.out.ext HX15.out) FB.out).mono ?_
  rintro e w16 ⟨rfl, hx16⟩
  have HX16 := Lib.hid (HX15.out.trans hx16)
  have HBC2 := Lib.hid (HX16.out.blk HBC'.out)
  clear hx16
  go_wp2_with (refine wpList_load_rowW rfl 32 _ rfl g8 rfl (stL h5 sc) (stV h5 sc) rfl _ (range_row HBC2.out) Try.underlying32 rfl (by kernel_rfl) ?_)
  refine (sstmay_any h5 sc false MC.out w16 (HKC'.out.ext HX16.out) FC.out).mono ?_
  rintro e w17 ⟨rfl, hx17⟩
  have HX17 := Lib.hid (HX16.out.trans hx17)
  clear hx17
  go_wp2
  go_ret
  exact ⟨rfl, HXF.out.trans HX17.out⟩
end Go.Proofs.Ytogcfndhcphpaaa
