/-
  Several texts in one: Um, Un, Uo, Lr, Ld, Li.
-/
import Derived.Test.YtogcfndhcphpaaaA24
import Derived.Test.YtogcfndhcphpaaaA20
import Derived.Test.YtogcfndhcphpaaaA16
import Derived.Test.YtogcfndhcphpaaaA01
import Derived.Lib.SmallJoins
import Derived.Test.YtogcfndhcphpaaaA07
import Derived.Test.YtogcfndhcphpaaaA15
import Derived.SizedLaws
/-
  States moved about: which may still be. Plain mathematics.
-/
set_option linter.unusedVariables false
set_option linter.unusedSimpArgs false
namespace Go.Proofs.Ytogcfndhcphpaaa
open Go.RowKit

theorem flatMap_set_count {f : Pr → List Int} {n : Int} : ∀ {l : List Pr} {i : Nat} {x y : Pr}, l[i]? = some x → ((l.set i y).flatMap f).count n + (f x).count n = (l.flatMap f).count n + (f y).count n
  | [], i, x, y, h => by simp at h
  | a :: l, 0, x, y, h => by
    simp at h; subst h
    rw [List.set_cons_zero, List.flatMap_cons, List.flatMap_cons, List.count_append, List.count_append]
    omega
  | a :: l, i + 1, x, y, h => by
    have ih := flatMap_set_count (f := f) (n := n) (y := y) (show l[i]? = some x by simpa using h)
    rw [List.set_cons_succ, List.flatMap_cons, List.flatMap_cons, List.count_append, List.count_append]
    omega
theorem within_count {l m : List Int} {n : Int} (h : St.within l n = true) (hc : ∀ x, m.count x = l.count x) : St.within m n = true := by
  rw [St.within_iff] at h ⊢
  intro x hx
  refine h x ?_
  have := List.count_pos_iff.2 hx
  rw [hc x] at this
  exact List.count_pos_iff.1 this
theorem getD_set_m {l : List Pr} {i : Nat} {x y : Pr} (hi : l[i]? = some x) (hm : y.m = x.m) (k : Nat) : ((l.set i y).getD k St.nilP).m = (l.getD k St.nilP).m := by
  have hl := (List.getElem?_eq_some_iff.1 hi).1
  rw [List.getD, List.getD]
  by_cases hk : k = i
  · subst hk
    rw [List.getElem?_set_self hl, hi]
    exact hm
  · rw [List.getElem?_set_ne (Ne.symm hk)]
/-- A P's queue, and the global one, are others; each runnable G stands as often in them as before. -/
theorem St.may_moved {s : St} (h : s.may = true) {i : Nat} {x y : Pr} (hi : s.ps[i]? = some x) (hm : y.m = x.m) (hq : y.seq = x.seq) (hr : y.ring.may = true) (hn : s.procs ≤ (i : Int) → y.next = 0 ∧ y.ring.n = 0) {gl : List Int} (hc : ∀ n, (St.queueOf y).count n + gl.count n = (St.queueOf x).count n + s.glob.count n) :
    ({ s with ps := s.ps.set i y, glob := gl } : St).may = true := by
  have hl := (List.getElem?_eq_some_iff.1 hi).1
  obtain ⟨h1, h2, h3, h4, h5, h6⟩ := St.may_parts h
  have hcr : ∀ n, ({ s with ps := s.ps.set i y, glob := gl } : St).runs.count n = s.runs.count n := fun n => by
    unfold St.runs
    rw [List.count_append, List.count_append]
    have := flatMap_set_count (f := St.queueOf) (n := n) (y := y) hi
    have := hc n
    simp only
    omega
  unfold St.may
  rw [Bool.and_eq_true, Bool.and_eq_true, Bool.and_eq_true, Bool.and_eq_true, Bool.and_eq_true]
  refine ⟨⟨⟨⟨⟨?_, h2⟩, ?_⟩, h4⟩, ?_⟩, ?_⟩
  · unfold St.whole at h1 ⊢
    simp only [List.length_set]
    exact h1
  · unfold St.holds at h3 ⊢
    rw [Bool.and_eq_true] at h3 ⊢
    refine ⟨allIx_yes fun j p hj => ?_, allIx_yes fun j q hj => ?_⟩
    · by_cases hji : j = i
      · subst hji
        rw [List.getElem?_set_self hl] at hj
        obtain rfl : y = p := Option.some.inj hj
        have hx := St.may_holdP h hi
        unfold St.holdP at hx ⊢
        simp only [Bool.and_eq_true, decide_eq_true_eq, Bool.not_eq_true', Bool.and_eq_false_iff, Bool.or_eq_false_iff, decide_eq_false_iff_not] at hx ⊢
        rw [hm, hq]
        refine ⟨⟨⟨⟨hr, hx.1.1.1.2⟩, hx.1.1.2⟩, hx.1.2⟩, ?_⟩
        by_cases hp : s.procs ≤ (j : Int)
        · right
          obtain ⟨n1, n2⟩ := hn hp
          refine ⟨⟨?_, by rw [n1]; simp⟩, by rw [n2]; omega⟩
          rcases hx.2 with hx2 | hx2
          · exact absurd hp hx2
          · exact hx2.1.1
        · exact .inl hp
      · rw [List.getElem?_set_ne (Ne.symm hji)] at hj
        exact St.may_holdP h hj
    · have hh := allIx_iff.1 h3.2 j q hj
      rw [Nat.zero_add] at hh
      unfold St.holdM at hh ⊢
      simp only [List.length_set, getD_set_m hi hm]
      exact hh
  · unfold St.allIn at h5 ⊢
    simp only [Bool.and_eq_true] at h5 ⊢
    exact ⟨⟨⟨within_count h5.1.1.1 hcr, h5.1.1.2⟩, h5.1.2⟩, h5.2⟩
  · refine allIx_yes fun j g hj => ?_
    have hs := h6 j g hj
    unfold St.stands St.times at hs ⊢
    rw [hcr]
    exact hs
theorem Ri.zero_list : Ri.zero.list = [] := by decide +kernel
theorem Ri.zero_may : Ri.zero.may = true := by decide +kernel
/-- A P drained. -/
def St.dried (s : St) (i : Nat) (x : Pr) : St := { s with ps := s.ps.set i { x with next := 0, ring := Ri.zero }, glob := s.glob ++ St.queueOf x }
theorem queueOf_dry (x : Pr) : St.queueOf { x with next := 0, ring := Ri.zero } = [] := by
  unfold St.queueOf
  rw [if_neg (by simp)]
  exact Ri.zero_list
theorem St.dried_may {s : St} (h : s.may = true) {i : Nat} {x : Pr} (hi : s.ps[i]? = some x) : (s.dried i x).may = true :=
  St.may_moved h hi (y := { x with next := 0, ring := Ri.zero }) rfl rfl Ri.zero_may (fun _ => ⟨rfl, rfl⟩) (fun n => by rw [queueOf_dry, List.count_append]; simp; omega)
theorem St.dried_at {s : St} {i : Nat} {x : Pr} (hi : s.ps[i]? = some x) : (s.dried i x).ps[i]? = some { x with next := 0, ring := Ri.zero } := List.getElem?_set_self (List.getElem?_eq_some_iff.1 hi).1
theorem St.dried_twice {s : St} {i : Nat} {x : Pr} : (s.dried i x).dried i { x with next := 0, ring := Ri.zero } = s.dried i x := by
  unfold St.dried
  simp only [List.set_set]
  rw [queueOf_dry, List.append_nil]
theorem St.dried_runs {s : St} {i : Nat} {x : Pr} (hi : s.ps[i]? = some x) : (s.dried i x).runs.length = s.runs.length := by
  have key : ∀ {l : List Pr} {i : Nat} {x y : Pr}, l[i]? = some x → ((l.set i y).flatMap St.queueOf).length + (St.queueOf x).length = (l.flatMap St.queueOf).length + (St.queueOf y).length := by
    intro l
    induction l with
    | nil => intro i x y h; simp at h
    | cons a l ih =>
      intro i x y h
      match i with
      | 0 =>
        simp at h; subst h
        rw [List.set_cons_zero, List.flatMap_cons, List.flatMap_cons, List.length_append, List.length_append]
        omega
      | i + 1 =>
        have := ih (y := y) (show l[i]? = some x by simpa using h)
        rw [List.set_cons_succ, List.flatMap_cons, List.flatMap_cons, List.length_append, List.length_append]
        omega
  have := key (y := { x with next := 0, ring := Ri.zero }) hi
  rw [queueOf_dry] at this
  unfold St.runs St.dried
  simp only [List.length_append, List.length_nil] at this ⊢
  omega
theorem St.drain_dried {s : St} {i : Nat} {x : Pr} (hm : s.may = true) (hp : 1 ≤ (i : Int) + 1 ∧ (i : Int) + 1 ≤ s.procs) (hi : s.ps[i]? = some x) : s.drain ((i : Int) + 1) = (s.dried i x, 0) := St.drain_yes hm hp hi
theorem St.dried_few {s : St} (h : StFew s) (hg : s.glob.length ≤ 80) {i : Nat} {x : Pr} : StFew (s.dried i x) := by
  have := queueOf_len x
  exact ⟨h.prog, h.gs, by show (s.ps.set i _).length ≤ _; rw [List.length_set]; exact h.ps, h.ms, by show (s.glob ++ St.queueOf x).length ≤ _; rw [List.length_append]; omega, h.w, h.timers, h.tnum⟩
theorem St.dried_buf {s : St} (h : ∀ p ∈ s.ps, p.ring.buf.length = 8) {i : Nat} {x : Pr} : ∀ p ∈ (s.dried i x).ps, p.ring.buf.length = 8 := fun p hp => by
  rcases List.mem_or_eq_of_mem_set hp with hp | rfl
  · exact h p hp
  · rfl
end Go.Proofs.Ytogcfndhcphpaaa
/-
  The walk of the statement ReadyDrains.
-/
set_option linter.unusedVariables false
set_option linter.unusedSimpArgs false
namespace Go.Proofs.Ytogcfndhcphpaaa
open Go.RowKit
theorem St.small_glob {s : St} (h : s.small = true) : s.glob.length ≤ 80 := by
  unfold St.small St.many at h
  simp only [Bool.and_eq_true, decide_eq_true_eq] at h
  omega
theorem St.small_timers {s : St} (h : s.small = true) : s.timers.length ≤ 9000 := by
  unfold St.small St.many at h
  simp only [Bool.and_eq_true, decide_eq_true_eq] at h
  omega
set_option maxRecDepth 100000 in
set_option maxHeartbeats 32000000 in
theorem walk_ReadyDrains (h : StH) (s : St) (p : Int) (w : World) (hk : StOk w h s) (hi : StIn s) (_ : (Lit.int .i64 p).wf = true) : Calls Try.prog 8 #[stV h s, .int .i64 p] w fun e w' => e = .returned (.bool true) ∧ Ext w w' := by
  have HI := Lib.hid hi
  have HK := Lib.hid hk
  obtain ⟨w1, hw1⟩ : ∃ w1, w.alloc (.cells #[.slice h.pa s.prog.length h.pc, .slice h.ga s.gs.length h.gc, .slice h.qa s.ps.length h.qc, .slice h.ma s.ms.length h.mc, .slice h.la s.glob.length h.lc, .int .i64 s.c0, .int .i64 s.c1, .int .i64 s.c2, .int .i64 s.c3, .slice h.a0 s.w0.length h.k0, .slice h.a1 s.w1.length h.k1, .slice h.a2 s.w2.length h.k2, .slice h.a3 s.w3.length h.k3, .slice h.ta s.timers.length h.tc, .int .i64 s.clock, .int .i64 s.procs] 32) = w1 := ⟨_, rfl⟩
  have HX1 : Hid (Ext w w1) := Lib.hid (by rw [← hw1]; exact (Ext.refl w).alloc _)
  have HB1 : Hid (w1.heap[w.heap.size]? = some (.cells (stC h s) 32 (0, 0))) := Lib.hid (by rw [← hw1]; exact blk_new w _)
  have HK1 := Lib.hid (hk.ext HX1.out)
  have HW1 := Lib.hid hw1
  clear hw1 hk
  clear hi
  unfold stV
  go_enter Try.func8, Try.ntmps8
  go_upto_region 1 with fail
  rw [HW1.out]
  generalize Value.agg #[.slice h.pa s.prog.length h.pc, .slice h.ga s.gs.length h.gc, .slice h.qa s.ps.length h.qc, .slice h.ma s.ms.length h.mc, .slice h.la s.glob.length h.lc, .int .i64 s.c0, .int .i64 s.c1, .int .i64 s.c2, .int .i64 s.c3, .slice h.a0 s.w0.length h.k0, .slice h.a1 s.w1.length h.k1, .slice h.a2 s.w2.length h.k2, .slice h.a3 s.w3.length h.k3, .slice h.ta s.timers.length h.tc, .int .i64 s.clock, .int .i64 s.procs] = sv0
  obtain ⟨W0, hW0⟩ : ∃ W0, w.heap.size = W0 := ⟨_, rfl⟩
  rw [hW0] at HB1
  rw [hW0]
  have HW0 := Lib.hid hW0
  clear hW0
  go_wp2_with fail
  refine (rfixed_yes w1).mono ?_
  rintro e w2 ⟨rfl, hx2⟩
  have HX2 := Lib.hid hx2
  have HLD := Lib.hid (hx2.blk HB1.out)
  clear hx2
  go_wp2_with (refine wpList_load_rowW (by rfl) 32 _ rfl W0 (by go_simp) (stL h s) (stV h s) rfl _ (range_row HLD.out) Try.underlying32 rfl (by kernel_rfl) ?_)
  refine (rstsmall_any h s _ rfl w2 (HK1.out.ext HX2.out) HI.out).mono ?_
  rintro e w3 ⟨rfl, hx3⟩
  have HX4 := Lib.hid (HX2.out.trans hx3)
  clear hx3 HLD
  cases bs : s.small with
  | false =>
    go_wp2_with fail
    refine (rfixed_yes _).mono ?_
    rintro e w9 ⟨rfl, hx9⟩
    have HX9 := Lib.hid (HX1.out.trans (HX4.out.trans hx9))
    clear hx9
    go_wp2
    go_ret
    exact ⟨rfl, HX9.out⟩
  | true =>
  have HF := Lib.hid (St.small_few bs HI.out)
  have HSM := Lib.hid bs
  have HGL := Lib.hid (St.small_glob bs)
  have HLD := Lib.hid (HX4.out.blk HB1.out)
  clear bs
  go_wp2_with (refine wpList_load_rowW (by rfl) 32 _ rfl W0 (by go_simp) (stL h s) (stV h s) rfl _ (range_row HLD.out) Try.underlying32 rfl (by kernel_rfl) ?_)
  refine (rstmay_any h s _ rfl w3 (HK1.out.ext HX4.out) HF.out).mono ?_
  rintro e w4 ⟨rfl, hx4⟩
  have HX5 := Lib.hid (HX4.out.trans hx4)
  clear hx4 HLD HX4
  have HX4 := Lib.hid HX5.out
  clear HX5
  cases bm : s.may with
  | false =>
    go_wp2_with fail
    refine (rfixed_yes _).mono ?_
    rintro e w9 ⟨rfl, hx9⟩
    have HX9 := Lib.hid (HX1.out.trans (HX4.out.trans hx9))
    clear hx9
    go_wp2
    go_ret
    exact ⟨rfl, HX9.out⟩
  | true =>
  have HM := Lib.hid bm
  clear bm
  have q15 := st15 (HX4.out.blk HB1.out)
  by_cases a1 : p < 1
  · skip
    go_wp2_with fail
    refine (rfixed_yes _).mono ?_
    rintro e w9 ⟨rfl, hx9⟩
    have HX9 := Lib.hid (HX1.out.trans (HX4.out.trans hx9))
    clear hx9
    go_wp2
    go_ret
    exact ⟨rfl, HX9.out⟩
  by_cases a2 : s.procs < p
  · skip
    go_wp2_with fail
    refine (rfixed_yes _).mono ?_
    rintro e w9 ⟨rfl, hx9⟩
    have HX9 := Lib.hid (HX1.out.trans (HX4.out.trans hx9))
    clear hx9
    go_wp2
    go_ret
    exact ⟨rfl, HX9.out⟩
  have hps := St.may_procs HM.out
  obtain ⟨i, rfl⟩ : ∃ i : Nat, p = (i : Int) + 1 := ⟨(p - 1).toNat, by omega⟩
  obtain ⟨x, hp⟩ : ∃ x, s.ps[i]? = some x := ⟨_, List.getElem?_eq_getElem (by omega)⟩
  have HP := Lib.hid hp
  have HPP : Hid (1 ≤ (i : Int) + 1 ∧ (i : Int) + 1 ≤ s.procs) := Lib.hid (by omega)
  have HLD := Lib.hid (HX4.out.blk HB1.out)
  have HK4 := Lib.hid (HK1.out.ext HX4.out)
  have d1 : decide ((i : Int) + 1 < 1) = false := decide_eq_false (by omega)
  have d2 : decide (s.procs < (i : Int) + 1) = false := decide_eq_false (by omega)
  clear hp hps a1 a2
  go_upto_if 30 with fail
  clear q15
  go_wp2_with (refine wpList_load_rowW (by rfl) 32 _ rfl W0 (by go_simp) (stL h s) (stV h s) rfl _ (range_row HLD.out) Try.underlying32 rfl (by kernel_rfl) ?_)
  clear d1 d2
  refine (rdDrain_any h s _ _ (St.drain_dried HM.out HPP.out HP.out) w4 HK4.out HF.out).mono ?_
  rintro e w5 ⟨ha, rfl, ⟨I, hap⟩, hx5⟩
  obtain ⟨sa, hsa⟩ : ∃ sa, s.dried i x = sa := ⟨_, rfl⟩
  have hkb : ∀ p ∈ sa.ps, p.ring.buf.length = 8 := by rw [← hsa]; exact St.dried_buf HK4.out.buf
  simp only at hap ⊢
  rw [hsa] at hap ⊢
  have HMA : Hid (sa.may = true) := Lib.hid (by rw [← hsa]; exact St.dried_may HM.out HP.out)
  have HFA : Hid (StFew sa) := Lib.hid (by rw [← hsa]; exact St.dried_few HF.out HGL.out)
  have HPA : Hid (sa.ps[i]? = some { x with next := 0, ring := Ri.zero }) := Lib.hid (by rw [← hsa]; exact St.dried_at HP.out)
  have HPPA : Hid (1 ≤ (i : Int) + 1 ∧ (i : Int) + 1 ≤ sa.procs) := Lib.hid (by rw [← hsa]; exact HPP.out)
  have HTW : Hid (sa.dried i { x with next := 0, ring := Ri.zero } = sa) := Lib.hid (by rw [← hsa]; exact St.dried_twice)
  have HRL : Hid (sa.runs.length = s.runs.length) := Lib.hid (by rw [← hsa]; exact St.dried_runs HP.out)
  have HTA : Hid (sa.timers.length ≤ 9000) := Lib.hid (by rw [← hsa]; exact show s.timers.length ≤ 9000 from St.small_timers HSM.out)
  have HKA := Lib.hid (hap.ok hkb)
  have HX5 := Lib.hid (HX4.out.trans hx5)
  obtain ⟨wb5, wc5, hwb, hwc, hth, hbc, hxc⟩ := st_box w5 ha sa
  obtain ⟨B5, hB⟩ : ∃ B5, w5.heap.size = B5 := ⟨_, rfl⟩
  rw [hB] at hwc hth hbc
  have HWB5 := Lib.hid hwb
  have HB5 := Lib.hid hB
  have HWC5 := Lib.hid hwc
  have HTH5 := Lib.hid hth
  have HBS5 := Lib.hid hbc
  have HXC5 := Lib.hid hxc
  clear hwb hwc hth hbc hxc hB
  clear hap hx5 hkb hsa HLD
  go_upto_region 4 with (first | rw [HWB5.out, HB5.out] | (refine wpList_store_row rfl 32 _ _ rfl B5 (stL ha sa) (stV ha sa) (by go_simp) (by go_simp) rfl HTH5.out (by kernel_rfl) (stL_one _ _) HWC5.out ?_))
  go_wp2_with (refine wpList_load_rowW (by rfl) 32 _ rfl B5 (by go_simp) (stL ha sa) (stV ha sa) rfl _ (range_row HBS5.out) Try.underlying32 rfl (by kernel_rfl) ?_)
  refine (rdDrain_any ha sa _ _ (St.drain_dried HMA.out HPPA.out HPA.out) wc5 (HKA.out.ext HXC5.out) HFA.out).mono ?_
  rintro e w6 ⟨hb, rfl, ⟨I, hap⟩, hx6⟩
  rw [HTW.out] at hap ⊢
  simp only at hap ⊢
  have HKB := Lib.hid (hap.ok (HKA.out.buf))
  have HX6 := Lib.hid hx6
  obtain ⟨wb6, wc6, hwb, hwc, hth, hbc, hxc⟩ := st_box w6 hb sa
  obtain ⟨B6, hB⟩ : ∃ B6, w6.heap.size = B6 := ⟨_, rfl⟩
  rw [hB] at hwc hth hbc
  have HWB6 := Lib.hid hwb
  have HB6 := Lib.hid hB
  have HWC6 := Lib.hid hwc
  have HTH6 := Lib.hid hth
  have HBS6 := Lib.hid hbc
  have HXC6 := Lib.hid hxc
  clear hwb hwc hth hbc hxc hB
  clear hap hx6
  go_upto_region 5 with (first | rw [HWB6.out, HB6.out] | (refine wpList_store_row rfl 32 _ _ rfl B6 (stL hb sa) (stV hb sa) (by go_simp) (by go_simp) rfl HTH6.out (by kernel_rfl) (stL_one _ _) HWC6.out ?_))
  have X1 : Hid (Ext wc5 wc6) := Lib.hid (HX6.out.trans HXC6.out)
  have X0 : Hid (Ext w1 wc6) := Lib.hid (HX5.out.trans (HXC5.out.trans X1.out))
  have BA := Lib.hid (X1.out.blk HBS5.out)
  have BB := Lib.hid HBS6.out
  have BS := Lib.hid (X0.out.blk HB1.out)
  have KA := Lib.hid (HKA.out.ext (HXC5.out.trans X1.out))
  have KB := Lib.hid (HKB.out.ext HXC6.out)
  have KS := Lib.hid (HK1.out.ext X0.out)
  refine region_rgx ([(9, (fun u => u = .bool true : Value → Prop), (fun _ _ => True : (Nat → GV) → World → Prop)), (13, (fun u => ∃ A c, u = .slice A s.runs.length c : Value → Prop), (fun _ _ => True : (Nat → GV) → World → Prop)), (16, (fun u => ∃ A c, u = .slice A s.runs.length c : Value → Prop), (fun _ _ => True : (Nat → GV) → World → Prop)), (22, (fun u => u = .bool true : Value → Prop), (fun _ _ => True : (Nat → GV) → World → Prop))]) (wc6) (by kernel_rfl) (by kernel_rfl) ?_ ?_ ?_
  · exact List.forall_mem_cons.2 ⟨⟨⟨_, rfl⟩, fun _ _ _ _ _ => trivial, fun _ _ _ _ _ => trivial⟩, List.forall_mem_cons.2 ⟨⟨⟨_, none, 0, rfl⟩, fun _ _ _ _ _ => trivial, fun _ _ _ _ _ => trivial⟩, List.forall_mem_cons.2 ⟨⟨⟨_, none, 0, rfl⟩, fun _ _ _ _ _ => trivial, fun _ _ _ _ _ => trivial⟩, List.forall_mem_cons.2 ⟨⟨⟨_, rfl⟩, fun _ _ _ _ _ => trivial, fun _ _ _ _ _ => trivial⟩, List.forall_mem_nil _⟩⟩⟩⟩
  · first | assumption | exact Ext.refl _
  refine rg_pure (v := ?_) rfl (by kernel_rfl) (by kernel_rfl) (fun w hS hN => ?_) ?_
  rotate_left 1
  · clear hN
    go_simp
    refine givesP_mk ?_
    with_reducible rfl
  refine rg_pure (v := ?_) rfl (by kernel_rfl) (by kernel_rfl) (fun w hS hN => ?_) ?_
  rotate_left 1
  · clear hN
    go_simp
    refine givesP_mk ?_
    with_reducible rfl
  refine rg_pure (v := ?_) rfl (by kernel_rfl) (by kernel_rfl) (fun w hS hN => ?_) ?_
  rotate_left 1
  · clear hN
    go_simp
    refine givesP_mk ?_
    with_reducible rfl
  refine rg_pure (v := ?_) rfl (by kernel_rfl) (by kernel_rfl) (fun w hS hN => ?_) ?_
  rotate_left 1
  · clear hN
    go_simp
    refine givesP_mk ?_
    with_reducible rfl
  refine rg_pure (v := ?_) rfl (by kernel_rfl) (by kernel_rfl) (fun w hS hN => ?_) ?_
  rotate_left 1
  · clear hN
    go_simp
    refine givesP_mk ?_
    with_reducible rfl
  refine rg_pure (v := ?_) rfl (by kernel_rfl) (by kernel_rfl) (fun w hS hN => ?_) ?_
  rotate_left 1
  · clear hN
    go_simp
    refine givesP_mk ?_
    with_reducible rfl
  refine rg_pure (v := ?_) rfl (by kernel_rfl) (by kernel_rfl) (fun w hS hN => ?_) ?_
  rotate_left 1
  · clear hN
    go_simp
    refine givesP_mk ?_
    with_reducible rfl
  refine rg_pure (v := stV ha sa) rfl (by kernel_rfl) (by kernel_rfl) (fun w hS hN => ?_) ?_
  · clear hN
    exact givesP_load 32 _ rfl _ (by go_simp) (stL ha sa) _ rfl _ (range_row (hS.blk BA.out)) Try.underlying32 rfl (by kernel_rfl)
  refine rg_pure (v := stV hb sa) rfl (by kernel_rfl) (by kernel_rfl) (fun w hS hN => ?_) ?_
  · clear hN
    exact givesP_load 32 _ rfl _ (by go_simp) (stL hb sa) _ rfl _ (range_row (hS.blk BB.out)) Try.underlying32 rfl (by kernel_rfl)
  refine rg_mem (fun u => u = .bool true : Value → Prop) (fun _ _ => True : (Nat → GV) → World → Prop) (fun _ => Ext) rfl rfl rfl rfl (by kernel_rfl) (by kernel_rfl) (fun w hS hN R hR => ?_) ?_
  · have HR := Lib.hid hR
    clear hR
    (try clear hN)
    go_simp
    refine givesM_call ((rstsame_any ha hb sa sa true (by simp) w (KA.out.ext hS) (KB.out.ext hS) HFA.out HTA.out).mono ?_)
    rintro e w' ⟨rfl, hx⟩
    exact ⟨_, rfl, HR.out _ _ rfl trivial hx⟩
  rintro u9 s9 t9 rfl
  refine rg_pure (v := ?_) rfl (by kernel_rfl) (by kernel_rfl) (fun w hS hN => ?_) ?_
  rotate_left 1
  · clear hN
    go_simp
    refine givesP_mk ?_
    with_reducible rfl
  refine rg_pure (v := ?_) rfl (by kernel_rfl) (by kernel_rfl) (fun w hS hN => ?_) ?_
  rotate_left 1
  · clear hN
    go_simp
    refine givesP_mk ?_
    with_reducible rfl
  refine rg_pure (v := stV ha sa) rfl (by kernel_rfl) (by kernel_rfl) (fun w hS hN => ?_) ?_
  · clear hN
    exact givesP_load 32 _ rfl _ (by go_simp) (stL ha sa) _ rfl _ (range_row (hS.blk BA.out)) Try.underlying32 rfl (by kernel_rfl)
  refine rg_mem (fun u => ∃ A c, u = .slice A s.runs.length c : Value → Prop) (fun _ _ => True : (Nat → GV) → World → Prop) (fun _ => Ext) rfl rfl rfl rfl (by kernel_rfl) (by kernel_rfl) (fun w hS hN R hR => ?_) ?_
  · have HR := Lib.hid hR
    clear hR
    (try clear hN)
    go_simp
    refine givesM_call ((rruns_any ha sa w (KA.out.ext hS) HFA.out).mono ?_)
    rintro e w' ⟨A, c, rfl, -, hx⟩
    rw [HRL.out]
    exact ⟨_, rfl, HR.out _ _ ⟨A, c, rfl⟩ trivial hx⟩
  rintro u13 s13 t13 ⟨A13, c13, rfl⟩
  refine rg_pure (v := ?_) rfl (by kernel_rfl) (by kernel_rfl) (fun w hS hN => ?_) ?_
  rotate_left 1
  · clear hN
    go_simp
    refine givesP_mk ?_
    with_reducible rfl
  refine rg_pure (v := stV h s) rfl (by kernel_rfl) (by kernel_rfl) (fun w hS hN => ?_) ?_
  · clear hN
    exact givesP_load 32 _ rfl _ (by go_simp) (stL h s) _ rfl _ (range_row (hS.blk BS.out)) Try.underlying32 rfl (by kernel_rfl)
  refine rg_mem (fun u => ∃ A c, u = .slice A s.runs.length c : Value → Prop) (fun _ _ => True : (Nat → GV) → World → Prop) (fun _ => Ext) rfl rfl rfl rfl (by kernel_rfl) (by kernel_rfl) (fun w hS hN R hR => ?_) ?_
  · have HR := Lib.hid hR
    clear hR
    (try clear hN)
    go_simp
    refine givesM_call ((rruns_any h s w (KS.out.ext hS) HF.out).mono ?_)
    rintro e w' ⟨A, c, rfl, -, hx⟩
    exact ⟨_, rfl, HR.out _ _ ⟨A, c, rfl⟩ trivial hx⟩
  rintro u16 s16 t16 ⟨A16, c16, rfl⟩
  refine rg_pure (v := ?_) rfl (by kernel_rfl) (by kernel_rfl) (fun w hS hN => ?_) ?_
  rotate_left 1
  · clear hN
    go_simp
    refine givesP_mk ?_
    with_reducible rfl
  refine rg_pure (v := ?_) rfl (by kernel_rfl) (by kernel_rfl) (fun w hS hN => ?_) ?_
  rotate_left 1
  · clear hN
    go_simp
    refine givesP_mk ?_
    with_reducible rfl
  refine rg_pure (v := ?_) rfl (by kernel_rfl) (by kernel_rfl) (fun w hS hN => ?_) ?_
  rotate_left 1
  · clear hN
    go_simp
    refine givesP_mk ?_
    with_reducible rfl
  refine rg_pure (v := ?_) rfl (by kernel_rfl) (by kernel_rfl) (fun w hS hN => ?_) ?_
  rotate_left 1
  · clear hN
    go_simp
    refine givesP_mk ?_
    with_reducible rfl
  refine rg_pure (v := stV ha sa) rfl (by kernel_rfl) (by kernel_rfl) (fun w hS hN => ?_) ?_
  · clear hN
    exact givesP_load 32 _ rfl _ (by go_simp) (stL ha sa) _ rfl _ (range_row (hS.blk BA.out)) Try.underlying32 rfl (by kernel_rfl)
  refine rg_mem (fun u => u = .bool true : Value → Prop) (fun _ _ => True : (Nat → GV) → World → Prop) (fun _ => Ext) rfl rfl rfl rfl (by kernel_rfl) (by kernel_rfl) (fun w hS hN R hR => ?_) ?_
  · have HR := Lib.hid hR
    clear hR
    (try clear hN)
    go_simp
    refine givesM_call ((rstmay_any ha sa true HMA.out w (KA.out.ext hS) HFA.out).mono ?_)
    rintro e w' ⟨rfl, hx⟩
    exact ⟨_, rfl, HR.out _ _ rfl trivial hx⟩
  rintro u22 s22 t22 rfl
  refine rg_pure (v := ?_) rfl (by kernel_rfl) (by kernel_rfl) (fun w hS hN => ?_) ?_
  rotate_left 1
  · clear hN
    go_simp
    refine givesP_mk ?_
    with_reducible rfl
  refine rg_pure (v := ?_) rfl (by kernel_rfl) (by kernel_rfl) (fun w hS hN => ?_) ?_
  rotate_left 1
  · clear hN
    go_simp
    refine givesP_mk ?_
    with_reducible rfl
  refine rg_done rfl (Nat.le_of_ble_eq_true (by kernel_rfl)) ?_
  intro w8 hS hT
  have HS := Lib.hid (HX1.out.trans (X0.out.trans hS))
  clear hT hS
  go_simp
  go_wp2
  go_ret
  exact ⟨rfl, HS.out⟩
end Go.Proofs.Ytogcfndhcphpaaa
/-
  What Wake, Yield, Drain answer: plain mathematics.
-/
set_option linter.unusedVariables false
set_option linter.unusedSimpArgs false
namespace Go.Proofs.Ytogcfndhcphpaaa
open Go.RowKit
theorem St.tail_keeps (s : St) (p g : Int) : (s.tail p g).gs = s.gs ∧ (s.tail p g).ps.length = s.ps.length ∧ ∀ (j : Nat) x, s.ps[j]? = some x → ∃ x', (s.tail p g).ps[j]? = some x' ∧ x'.next = x.next ∧ x'.m = x.m ∧ x'.seq = x.seq := by
  have key : ∀ (r : Ri) (gl : List Int), 1 ≤ p ∧ p ≤ s.ps.length → ∀ (j : Nat) x, s.ps[j]? = some x → ∃ x', (s.ps.set (p - 1).toNat { s.pAt p with ring := r })[j]? = some x' ∧ x'.next = x.next ∧ x'.m = x.m ∧ x'.seq = x.seq := fun r gl hp j x hj => by
    by_cases h : j = (p - 1).toNat
    · subst h
      have hl := (List.getElem?_eq_some_iff.1 hj).1
      rw [List.getElem?_set_self hl]
      refine ⟨_, rfl, ?_⟩
      have : s.pAt p = x := by unfold St.pAt; rw [List.getD, hj]; rfl
      rw [this]
      exact ⟨rfl, rfl, rfl⟩
    · rw [List.getElem?_set_ne (Ne.symm h)]
      exact ⟨x, hj, rfl, rfl, rfl⟩
  unfold St.tail
  split
  · rename_i h
    split
    · exact ⟨rfl, List.length_set, key _ [] ⟨h.1, h.2.1⟩⟩
    · exact ⟨rfl, List.length_set, key _ [] ⟨h.1, h.2.1⟩⟩
  · exact ⟨rfl, rfl, fun j x hj => ⟨x, hj, rfl, rfl, rfl⟩⟩
theorem St.wake_cases (s : St) (p n : Int) : s.wake p n = (St.nil, 1) ∨ ∃ (i k : Nat) (x x' : Pr) (y : Gr) (sa : St), p = (i : Int) + 1 ∧ n = (k : Int) + 1 ∧ s.ps[i]? = some x ∧ s.gs[k]? = some y ∧ s.wake p n = (sa, 0) ∧ sa.ps.length = s.ps.length ∧ sa.gs.length = s.gs.length ∧ sa.ps[i]? = some x' ∧ x'.next = n ∧ sa.gs[k]? = some { y with st := 1, m := 0, seq := y.seq + 1 } := by
  by_cases h : s.may = true ∧ (1 ≤ p ∧ p ≤ s.procs) ∧ (1 ≤ n ∧ n ≤ s.gs.length) ∧ (s.gAt n).st = 3
  · right
    obtain ⟨hm, hp, hn, h3⟩ := h
    have hps := St.may_procs hm
    obtain ⟨i, rfl⟩ : ∃ i : Nat, p = (i : Int) + 1 := ⟨(p - 1).toNat, by omega⟩
    obtain ⟨k, rfl⟩ : ∃ k : Nat, n = (k : Int) + 1 := ⟨(n - 1).toNat, by omega⟩
    obtain ⟨x, hx⟩ : ∃ x, s.ps[i]? = some x := ⟨_, List.getElem?_eq_getElem (by omega)⟩
    obtain ⟨y, hy⟩ : ∃ y, s.gs[k]? = some y := ⟨_, List.getElem?_eq_getElem (by omega)⟩
    rw [St.gAt_of hy] at h3
    have hil := (List.getElem?_eq_some_iff.1 hx).1
    have hkl := (List.getElem?_eq_some_iff.1 hy).1
    obtain ⟨t1, t2, t3⟩ := St.tail_keeps { s.out ((k : Int) + 1) with gs := s.gs.set k { y with st := 1, m := 0, seq := y.seq + 1 }, ps := s.ps.set i { x with next := (k : Int) + 1 } } ((i : Int) + 1) x.next
    obtain ⟨x', hx', hnx, _, _⟩ := t3 i _ (List.getElem?_set_self hil)
    exact ⟨i, k, x, x', y, _, rfl, rfl, hx, hy, St.wake_yes hm hp hx hy h3, t2.trans List.length_set, (congrArg List.length t1).trans List.length_set, hx', hnx, by rw [t1]; exact List.getElem?_set_self hkl⟩
  · exact .inl (St.wake_no h)
theorem St.yield_cases (s : St) (m : Int) : s.yield m = (St.nil, 1) ∨ ∃ (j k : Nat) (mp : Int) (y : Gr) (sb : St), m = (j : Int) + 1 ∧ s.ms[j]? = some (mp, (k : Int) + 1) ∧ s.gs[k]? = some y ∧ s.yield m = (sb, 0) ∧ sb.glob = s.glob ++ [(k : Int) + 1] ∧ sb.ms[j]? = some (mp, 0) ∧ sb.ms.length = s.ms.length := by
  by_cases h : s.may = true ∧ (1 ≤ m ∧ m ≤ s.ms.length) ∧ (s.mAt m).1 ≠ 0 ∧ (s.mAt m).2 ≠ 0
  · right
    obtain ⟨hm, hj, h1, h2⟩ := h
    obtain ⟨j, rfl⟩ : ∃ j : Nat, m = (j : Int) + 1 := ⟨(m - 1).toNat, by omega⟩
    obtain ⟨⟨mp, mg⟩, hx⟩ : ∃ x, s.ms[j]? = some x := ⟨_, List.getElem?_eq_getElem (by omega)⟩
    rw [St.mAt_of hx] at h1 h2
    obtain ⟨k, y, rfl, hy⟩ := St.may_onM hm hx h1 h2
    have hjl := (List.getElem?_eq_some_iff.1 hx).1
    exact ⟨j, k, mp, y, _, rfl, hx, hy, St.yield_yes hm hx h1 hy, rfl, List.getElem?_set_self hjl, List.length_set⟩
  · exact .inl (St.yield_no h)
theorem St.drain_cases (s : St) (p : Int) : s.drain p = (St.nil, 1) ∨ ∃ (i : Nat) (x : Pr), p = (i : Int) + 1 ∧ s.may = true ∧ (1 ≤ (i : Int) + 1 ∧ (i : Int) + 1 ≤ s.procs) ∧ s.ps[i]? = some x ∧ s.drain p = (s.dried i x, 0) := by
  by_cases h : s.may = true ∧ (1 ≤ p ∧ p ≤ s.procs)
  · right
    obtain ⟨hm, hp⟩ := h
    have hps := St.may_procs hm
    obtain ⟨i, rfl⟩ : ∃ i : Nat, p = (i : Int) + 1 := ⟨(p - 1).toNat, by omega⟩
    obtain ⟨x, hx⟩ : ∃ x, s.ps[i]? = some x := ⟨_, List.getElem?_eq_getElem (by omega)⟩
    exact ⟨i, x, rfl, hm, hp, hx, St.drain_dried hm hp hx⟩
  · exact .inl (St.drain_no h)
theorem queue_dry {s : St} (hm : s.may = true) {i : Nat} {x : Pr} (hp : 1 ≤ (i : Int) + 1 ∧ (i : Int) + 1 ≤ s.procs) (hx : s.ps[i]? = some x) : (s.dried i x).queue ((i : Int) + 1) = [] := by
  rw [St.queue_yes (show (i : Int) + 1 ≤ (s.dried i x).procs from hp.2) (St.dried_may hm hx) (St.dried_at hx)]
  exact queueOf_dry x
end Go.Proofs.Ytogcfndhcphpaaa
/-
  Arguments that are slices of anything that is read cell by cell, opened: by how one element is read.
-/
set_option linter.unusedVariables false
set_option linter.unusedSimpArgs false
namespace Go.Proofs.Ytogcfndhcphpaaa
open Go.ChangeShapes Go.WideShapes Go.Deep Go.RowKit

/-- A slice of elements of m cells, each read by R. -/
def RecsAt {α : Type} (m : Nat) (R : World → List Value → α → Prop) (w : World) (v : Value) (xs : List α) : Prop :=
  ∃ A c, v = .slice A xs.length c ∧ xs.length ≤ c ∧ (0 < xs.length → ∃ b o, A = some ⟨b, o, none⟩ ∧ b < w.heap.size ∧ ∀ j x, xs[j]? = some x → ∃ cs : List Value, cs.length = m ∧ R w cs x ∧ ∀ i u, cs[i]? = some u → w.cell? ⟨b, o + j * m + i, none⟩ = some u)
theorem RecsAt.ext {α : Type} {m : Nat} {R : World → List Value → α → Prop} {w w' : World} {v : Value} {xs : List α} (h : RecsAt m R w v xs) (hx : Ext w w') (hR : ∀ cs x, R w cs x → R w' cs x) : RecsAt m R w' v xs := by
  obtain ⟨A, c, rfl, hc, hA⟩ := h
  refine ⟨A, c, rfl, hc, fun h0 => ?_⟩
  obtain ⟨b, o, hb, hlt, hk⟩ := hA h0
  refine ⟨b, o, hb, Nat.lt_of_lt_of_le hlt hx.size, fun j x hj => ?_⟩
  obtain ⟨cs, h1, h2, h3⟩ := hk j x hj
  exact ⟨cs, h1, hR _ _ h2, fun i u hu => by rw [Below.cell hx hlt]; exact h3 i u hu⟩
theorem RecsAt.rows {α : Type} {m : Nat} {f : α → List Value} {w : World} {v : Value} {xs : List α} (h : RecsAt m (fun _ cs x => cs = f x) w v xs) : RowsAt m f w v xs := by
  obtain ⟨A, c, rfl, hc, hA⟩ := h
  refine ⟨A, c, rfl, hc, fun h0 => ?_⟩
  obtain ⟨b, o, hb, hlt, hk⟩ := hA h0
  refine ⟨b, o, hb, hlt, fun j x hj i u hu => ?_⟩
  obtain ⟨cs, _, rfl, h3⟩ := hk j x hj
  exact h3 i u hu
section
variable {H : Type} {enc : TypeId × Value → H} {P : Program} {w : World} {base : Nat} {held : Bool}
theorem open_recs {α : Type} {R : World → List Value → α → Prop} {G : α → Prop} {m : Nat} (x0 : α) {t e : TypeId} {fuel len cap : Nat} {A : Option Addr} {x : DataW H × List MemPlace} (ht : P.underlying t = some (.slice e)) (hC : P.cellsOf e = m) (hm0 : 0 < m)
    (elem : ∀ (n : Nat) (cs : List Value) (y : DataW H × List MemPlace), DataW.trod enc P w base (fun _ => true) held n e cs = some y → ∃ x : α, R w cs x ∧ G x)
    (h : DataW.trod enc P w base (fun _ => true) held fuel t [.slice A len cap] = some x) :
    len ≤ maxLen ∧ ∃ l : List α, l.length = len ∧ RecsAt m R w (.slice A len cap) l ∧ ∀ x ∈ l, G x := by
  rcases open_slice ht h with ⟨h0, _⟩ | ⟨a, l, c, mm, n, D, Pl, hcs, _, hl, hm, hmm, _, hi⟩
  · simp at h0
    obtain ⟨rfl, rfl, rfl⟩ := h0
    exact ⟨by simp [maxLen], [], rfl, ⟨none, 0, rfl, Nat.le_refl _, fun h => by simp at h⟩, by simp⟩
  · simp at hcs
    obtain ⟨rfl, rfl, rfl⟩ := hcs
    have hmc : mm = cap := by simpa using hmm
    subst hmc
    have key : ∀ i, i < len → ∃ x : α, G x ∧ ∃ cs : List Value, cs.length = m ∧ R w cs x ∧ ∀ j u, cs[j]? = some u → w.cell? (a.add (i * m + j)) = some u := fun i hi' => by
      obtain ⟨cs', hc, ht'⟩ := hi i (by omega)
      rw [hC] at hc
      obtain ⟨x, hx, hg⟩ := elem _ _ _ ht'
      obtain ⟨_, hcl, hat⟩ := World.cells?_some hc
      refine ⟨x, hg, cs', hcl, hx, fun j u hj => ?_⟩
      have hjl : j < m := by rw [← hcl]; exact (List.getElem?_eq_some_iff.1 hj).1
      rw [← Go.Deep.add_add, hat j hjl, hj]
    refine ⟨by omega, (List.range len).map fun i => if h : i < len then (key i h).choose else x0, by simp, ⟨some a, mm, by simp, by simpa using hl, fun hpos => ?_⟩, ?_⟩
    · obtain ⟨b, o, spot⟩ := a
      have hl0 : 0 < len := by simpa using hpos
      have h00 : ∃ u, w.cell? ((⟨b, o, spot⟩ : Addr).add 0) = some u := by
        obtain ⟨_, _, cs, hcl, _, hat⟩ := key 0 hl0
        refine ⟨cs[0]'(by omega), ?_⟩
        have := hat 0 _ (List.getElem?_eq_getElem (by omega))
        simpa using this
      have hspot : spot = none := by
        obtain ⟨u, hu⟩ := h00
        simpa [Addr.add] using World.cell?_spot hu
      subst hspot
      refine ⟨b, o, rfl, ?_, fun j p hj => ?_⟩
      · obtain ⟨u, hu⟩ := h00
        rw [Addr.add_lit] at hu
        exact block_lt_of_cell hu
      · rw [List.getElem?_map] at hj
        have hjl : j < len := by
          rcases Nat.lt_or_ge j len with h | h
          · exact h
          · rw [List.getElem?_eq_none (by simpa using h)] at hj; simp at hj
        rw [List.getElem?_range hjl] at hj
        simp only [Option.map_some, Option.some.injEq, hjl, dif_pos] at hj
        obtain ⟨_, cs, k0, k1, k2⟩ := (key j hjl).choose_spec
        rw [hj] at k1
        refine ⟨cs, k0, k1, fun i u hu => ?_⟩
        have := k2 i u hu
        rw [Addr.add_lit] at this
        rw [Nat.add_assoc]
        exact this
    · intro x hx
      obtain ⟨i, hi', rfl⟩ := List.mem_map.1 hx
      have hil := List.mem_range.1 hi'
      rw [dif_pos hil]
      exact (key i hil).choose_spec.1
/-- The cells of a struct whose fields are of one cell. -/
theorem cells_fields {e : TypeId} {fs : Array Field} {n : Nat} {cs : List Value} {y : DataW H × List MemPlace} (he : P.underlying e = some (.struct fs)) (hone : oneCellFields P fs = true) (hC : P.cellsOf e = fs.size)
    (h : DataW.trod enc P w base (fun _ => true) held n e cs = some y) :
    cs.length = fs.size ∧ ∀ (j : Nat) (f : Field), fs[j]? = some f → ∃ (v : Value) (z : DataW H × List MemPlace) (k : Nat), cs[j]? = some v ∧ DataW.trod enc P w base (fun _ => true) held k f.type [v] = some z := by
  obtain ⟨ys, n', hn', hy, hlen, hyl, hf⟩ := DataW.trod_struct he h
  refine ⟨by rw [hlen, hC], fun j f hj => ?_⟩
  obtain ⟨ho, hk⟩ := hone_of hone j f hj
  have hjl : j < fs.size := (Array.getElem?_eq_some_iff.1 hj).1
  have h1 := hf j f hj
  rw [ho, hk] at h1
  have hone' : (cs.drop j).take 1 = [cs[j]'(by omega)] := by
    rw [List.drop_eq_getElem_cons (by omega)]
    rfl
  rw [hone'] at h1
  have hys : ys[j]? = some (ys[j]'(by omega)) := List.getElem?_eq_getElem (by omega)
  exact ⟨_, _, _, List.getElem?_eq_getElem (by omega), h1.trans hys⟩
theorem cells_int {t : TypeId} {n : Nat} {v : Value} {y : DataW H × List MemPlace} (t0 : P.underlying t = some (.int .i64)) (h : DataW.trod enc P w base (fun _ => true) held n t [v] = some y) : ∃ a : Int, v = .int .i64 a ∧ (Lit.int .i64 a).wf = true := by
  obtain ⟨a, e0, _, w0⟩ := DataW.trod_int t0 h
  simp at e0
  exact ⟨a, e0, w0⟩
theorem cells_pair {e : TypeId} {f0 f1 : Field} {n : Nat} {cs : List Value} {y : DataW H × List MemPlace} (he : P.underlying e = some (.struct #[f0, f1])) (hone : oneCellFields P #[f0, f1] = true) (hC : P.cellsOf e = 2)
    (t0 : P.underlying f0.type = some (.int .i64)) (t1 : P.underlying f1.type = some (.int .i64)) (h : DataW.trod enc P w base (fun _ => true) held n e cs = some y) :
    ∃ p : Int × Int, cs = [.int .i64 p.1, .int .i64 p.2] ∧ (Lit.int .i64 p.1).wf = true ∧ (Lit.int .i64 p.2).wf = true := by
  obtain ⟨hl, hf⟩ := cells_fields he hone hC h
  obtain ⟨v0, _, _, c0, h0⟩ := hf 0 f0 rfl
  obtain ⟨v1, _, _, c1, h1⟩ := hf 1 f1 rfl
  obtain ⟨a, rfl, wa⟩ := cells_int t0 h0
  obtain ⟨b, rfl, wb⟩ := cells_int t1 h1
  match cs, hl, c0, c1 with
  | [u0, u1], _, c0, c1 =>
    simp only [List.getElem?_cons_zero, List.getElem?_cons_succ, Option.some.injEq] at c0 c1
    subst c0 c1
    exact ⟨(a, b), rfl, wa, wb⟩
/-- A field of one cell that is a slice. -/
theorem cells_slice {t e : TypeId} {n : Nat} {v : Value} {y : DataW H × List MemPlace} (ht : P.underlying t = some (.slice e)) (h : DataW.trod enc P w base (fun _ => true) held n t [v] = some y) : ∃ A len cap, v = .slice A len cap := by
  rcases open_slice ht h with ⟨h0, _⟩ | ⟨a, l, c, mm, n, D, Pl, hcs, _⟩
  · simp at h0; exact ⟨_, _, _, h0⟩
  · simp at hcs; exact ⟨_, _, _, hcs⟩
end
end Go.Proofs.Ytogcfndhcphpaaa
/-
  Arguments that are structs of a row of eight numbers and two numbers, opened.
-/
set_option linter.unusedVariables false
set_option linter.unusedSimpArgs false
namespace Go.Proofs.Ytogcfndhcphpaaa
open Go.ChangeShapes Go.WideShapes Go.Deep Go.RowKit
section
variable {H : Type} {enc : TypeId × Value → H} {P : Program} {w : World} {base : Nat} {held : Bool}
theorem okWide_struct {fs : Array Field} {r : Reach} {b0 : Nat} {t : TypeId} {v : Value} (ht : P.underlying t = some (.struct fs)) (h : Value.okWide P w r b0 t v) : ∃ cs, v = .agg cs ∧ cs.size = P.cellsOf t := by
  simp only [Value.okWide, ht] at h
  obtain ⟨cs, h1, h2, _⟩ := h
  exact ⟨cs, h1, h2⟩
theorem ring_cells {t e : TypeId} {f0 f1 f2 : Field} {n : Nat} {c0 c1 c2 c3 c4 c5 c6 c7 c8 c9 : Value} {x : DataW H × List MemPlace} (hs : P.underlying t = some (.struct #[f0, f1, f2]))
    (o : f0.offset = 0 ∧ f1.offset = 8 ∧ f2.offset = 9) (hc : P.cellsOf f0.type = 8 ∧ P.cellsOf f1.type = 1 ∧ P.cellsOf f2.type = 1) (ta : P.underlying f0.type = some (.array 8 e)) (te : P.underlying e = some (.int .i64)) (hce : P.cellsOf e = 1)
    (t1 : P.underlying f1.type = some (.int .i64)) (t2 : P.underlying f2.type = some (.int .i64)) (h : DataW.trod enc P w base (fun _ => true) held n t [c0, c1, c2, c3, c4, c5, c6, c7, c8, c9] = some x) :
    ∃ b0 b1 b2 b3 b4 b5 b6 b7 hd nn : Int, [c0, c1, c2, c3, c4, c5, c6, c7, c8, c9] = [b0, b1, b2, b3, b4, b5, b6, b7, hd, nn].map (Value.int .i64) ∧ ∀ z ∈ [b0, b1, b2, b3, b4, b5, b6, b7, hd, nn], (Lit.int .i64 z).wf = true := by
  obtain ⟨xs, m, _, _, _, hl, hf⟩ := DataW.trod_struct hs h
  match xs, hl with
  | [y0, y1, y2], _ =>
    have h0 := hf 0 f0 rfl
    have h1 := hf 1 f1 rfl
    have h2 := hf 2 f2 rfl
    rw [o.1, hc.1] at h0
    rw [o.2.1, hc.2.1] at h1
    rw [o.2.2, hc.2.2] at h2
    obtain ⟨x8, e8, _, w8⟩ := DataW.trod_int t1 h1
    obtain ⟨x9, e9, _, w9⟩ := DataW.trod_int t2 h2
    obtain ⟨ys, m', _, _, _, hl', hel⟩ := DataW.trod_array ta h0
    have at8 : ∀ i (hi : i < 8), ∃ z : Int, ([c0, c1, c2, c3, c4, c5, c6, c7, c8, c9] : List Value)[i]? = some (.int .i64 z) ∧ (Lit.int .i64 z).wf = true := fun i hi => by
      have hi1 := hel i hi
      rw [hce, Nat.mul_one] at hi1
      have hy : ys[i]? = some (ys[i]'(by omega)) := List.getElem?_eq_getElem (by omega)
      rw [hy] at hi1
      obtain ⟨z, ez, _, wz⟩ := DataW.trod_int te hi1
      refine ⟨z, ?_, wz⟩
      have e2 := congrArg (·[0]?) ez
      simp only [List.getElem?_take, List.getElem?_drop, List.getElem?_cons_zero] at e2
      have e3 : i < 8 ∧ [c0, c1, c2, c3, c4, c5, c6, c7, c8, c9][i]? = some (Value.int IntKind.i64 z) := by simpa using e2
      exact e3.2
    obtain ⟨z0, e0, w0⟩ := at8 0 (by omega)
    obtain ⟨z1, e1, w1⟩ := at8 1 (by omega)
    obtain ⟨z2, e2, w2⟩ := at8 2 (by omega)
    obtain ⟨z3, e3, w3⟩ := at8 3 (by omega)
    obtain ⟨z4, e4, w4⟩ := at8 4 (by omega)
    obtain ⟨z5, e5, w5⟩ := at8 5 (by omega)
    obtain ⟨z6, e6, w6⟩ := at8 6 (by omega)
    obtain ⟨z7, e7, w7⟩ := at8 7 (by omega)
    simp at e0 e1 e2 e3 e4 e5 e6 e7 e8 e9
    subst e0 e1 e2 e3 e4 e5 e6 e7 e8 e9
    refine ⟨z0, z1, z2, z3, z4, z5, z6, z7, x8, x9, rfl, fun z hz => ?_⟩
    simp only [List.mem_cons, List.not_mem_nil, or_false] at hz
    rcases hz with rfl | rfl | rfl | rfl | rfl | rfl | rfl | rfl | rfl | rfl <;> assumption
end
end Go.Proofs.Ytogcfndhcphpaaa
/-
  Arguments that are programs and states, opened.
-/
set_option linter.unusedVariables false
set_option linter.unusedSimpArgs false
namespace Go.Proofs.Ytogcfndhcphpaaa
open Go.ChangeShapes Go.WideShapes Go.Deep Go.RowKit

section
variable {H : Type} {enc : TypeId × Value → H} {P : Program} {w : World} {base : Nat} {held : Bool}
theorem RecsAt.nest {α : Type} {m : Nat} {f : α → List Value} {v : Value} {ks : List (List α)} (hks : RecsAt 1 (fun w cs x => ∃ u, cs = [u] ∧ RowsAt m f w u x) w v ks) : NestAt m f w v ks := by
  obtain ⟨A', c', hv', hc', hA'⟩ := hks
  have key : ∀ i, i < ks.length → ∃ u, (∃ b o, A' = some ⟨b, o, none⟩ ∧ b < w.heap.size ∧ w.cell? ⟨b, o + i, none⟩ = some u) ∧ ∀ l, ks[i]? = some l → RowsAt m f w u l := fun i hi => by
    obtain ⟨b, o, hb, hlt, hcell⟩ := hA' (by omega)
    obtain ⟨cs, h1, ⟨u, rfl, hr⟩, h3⟩ := hcell i _ (List.getElem?_eq_getElem hi)
    refine ⟨u, ⟨b, o, hb, hlt, by have := h3 0 u rfl; rwa [Nat.mul_one, Nat.add_zero] at this⟩, fun l hl => ?_⟩
    rw [List.getElem?_eq_getElem hi] at hl
    rw [← Option.some.inj hl]
    exact hr
  have hlen : ((List.range ks.length).map fun i => if h : i < ks.length then (key i h).choose else Value.nilIface).length = ks.length := by simp
  refine ⟨(List.range ks.length).map fun i => if h : i < ks.length then (key i h).choose else Value.nilIface, hlen, ⟨A', c', by rw [hlen]; exact hv', by rw [hlen]; exact hc', fun h0 => ?_⟩, fun i u xs hu hxs => ?_⟩
  · rw [hlen] at h0
    obtain ⟨b, o, hb, hlt, hcell⟩ := hA' h0
    refine ⟨b, o, hb, hlt, fun j x hj i u hu => ?_⟩
    have hjl : j < ks.length := by have := (List.getElem?_eq_some_iff.1 hj).1; simpa using this
    have hi0 : i = 0 := by have := (List.getElem?_eq_some_iff.1 hu).1; simp [oneL] at this; exact this
    subst hi0
    simp only [oneL, List.getElem?_cons_zero, Option.some.injEq] at hu
    subst hu
    rw [List.getElem?_map, List.getElem?_range hjl] at hj
    simp only [Option.map_some, Option.some.injEq, hjl, dif_pos] at hj
    obtain ⟨⟨b', o', hb', _, hc⟩, _⟩ := (key j hjl).choose_spec
    rw [hb] at hb'
    simp only [Option.some.injEq, Addr.mk.injEq, and_true] at hb'
    obtain ⟨rfl, rfl⟩ := hb'
    rw [← hj, Nat.mul_one, Nat.add_zero]
    exact hc
  · have hil : i < ks.length := (List.getElem?_eq_some_iff.1 hxs).1
    rw [List.getElem?_map, List.getElem?_range hil] at hu
    simp only [Option.map_some, Option.some.injEq, hil, dif_pos] at hu
    rw [← hu]
    exact (key i hil).choose_spec.2 xs hxs
/-- How long a slice of a sized argument is. -/
theorem slice_weight {t e : TypeId} {fuel len cap : Nat} {A : Option Addr} {y : DataW H × List MemPlace} (ht : P.underlying t = some (.slice e)) (h : DataW.trod enc P w base (fun _ => true) held fuel t [.slice A len cap] = some y) (hw : (DataW.weights P t y.1).all (· ≤ reachBytes) = true) (hb : 8 ≤ P.bytesOf e) : len ≤ 140737488355328 := by
  rcases open_slice ht h with ⟨h0, _⟩ | ⟨a, l, c, mm, n, D, Pl, hcs, _, hl, hm, hmm, hx, hi⟩
  · simp at h0
    omega
  · simp at hcs
    obtain ⟨rfl, rfl, rfl⟩ := hcs
    rw [hx] at hw
    simp only [DataW.weights, ht, List.all_cons, Bool.and_eq_true, decide_eq_true_eq, List.length_map, List.length_range] at hw
    have h1 := hw.1
    unfold reachBytes at h1
    have h2 : len * 8 ≤ (len + (mm - len)) * P.bytesOf e := Nat.mul_le_mul (by omega) hb
    omega
end
section
variable {H : Type} {enc : TypeId × Value → H} {w : World} {base : Nat} {held : Bool}
theorem cells_code {n : Nat} {cs : List Value} {y : DataW H × List MemPlace} (h : DataW.trod enc Try.prog w base (fun _ => true) held n 69 cs = some y) :
    ∃ l : List (Int × Int), (∃ u, cs = [u] ∧ RowsAt 2 pairL w u l) ∧ l.length ≤ maxLen := by
  obtain ⟨u, rfl⟩ : ∃ u, cs = [u] := by
    rcases open_slice Try.underlying69 h with ⟨h0, _⟩ | ⟨a, l, c, mm, n, D, Pl, hcs, _⟩
    · exact ⟨_, h0⟩
    · exact ⟨_, hcs⟩
  obtain ⟨A, len, cap, rfl⟩ := cells_slice Try.underlying69 h
  obtain ⟨hlen, l, rfl, hr, _⟩ := open_recs (m := 2) (R := fun _ cs x => cs = pairL x) (G := fun _ => True) (0, 0) Try.underlying69 (by kernel_rfl) (by decide) (fun n cs y hy => by
    obtain ⟨p, e, _⟩ := cells_pair Try.underlying68 (by kernel_rfl) (by kernel_rfl) Try.underlying3 Try.underlying3 hy
    exact ⟨p, e, trivial⟩) h
  exact ⟨l, ⟨_, rfl, hr.rows⟩, hlen⟩
theorem prog_of_trod {n : Nat} {v : Value} {y : DataW H × List MemPlace} (h : DataW.trod enc Try.prog w base (fun _ => true) held n 23 [v] = some y) :
    ∃ p, NestAt 2 pairL w v p ∧ p.length ≤ maxLen ∧ ∀ l ∈ p, l.length ≤ maxLen := by
  obtain ⟨A, len, cap, rfl⟩ := cells_slice Try.underlying23 h
  obtain ⟨hlen, p, rfl, hr, hg⟩ := open_recs (m := 1) (R := fun w cs x => ∃ u, cs = [u] ∧ RowsAt 2 pairL w u x) (G := fun l => l.length ≤ maxLen) [] Try.underlying23 (by kernel_rfl) (by decide) (fun n cs y hy => cells_code hy) h
  exact ⟨p, hr.nest, hlen, hg⟩
theorem cells_g {n : Nat} {cs : List Value} {y : DataW H × List MemPlace} (h : DataW.trod enc Try.prog w base (fun _ => true) held n 55 cs = some y) : ∃ g : Gr, cs = gL g ∧ True := by
  obtain ⟨hl, hf⟩ := cells_fields Try.underlying55 (by kernel_rfl) (by kernel_rfl) h
  obtain ⟨v0, _, _, c0, h0⟩ := hf 0 _ rfl
  obtain ⟨v1, _, _, c1, h1⟩ := hf 1 _ rfl
  obtain ⟨v2, _, _, c2, h2⟩ := hf 2 _ rfl
  obtain ⟨v3, _, _, c3, h3⟩ := hf 3 _ rfl
  obtain ⟨v4, _, _, c4, h4⟩ := hf 4 _ rfl
  obtain ⟨a0, rfl, _⟩ := cells_int Try.underlying3 h0
  obtain ⟨a1, rfl, _⟩ := cells_int Try.underlying3 h1
  obtain ⟨a2, rfl, _⟩ := cells_int Try.underlying3 h2
  obtain ⟨a3, rfl, _⟩ := cells_int Try.underlying3 h3
  obtain ⟨a4, rfl, _⟩ := cells_int Try.underlying3 h4
  match cs, hl, c0, c1, c2, c3, c4 with
  | [u0, u1, u2, u3, u4], _, c0, c1, c2, c3, c4 =>
    simp only [List.getElem?_cons_zero, List.getElem?_cons_succ, Option.some.injEq] at c0 c1 c2 c3 c4
    subst c0 c1 c2 c3 c4
    exact ⟨⟨a0, a1, a2, a3, a4⟩, rfl, trivial⟩
set_option maxRecDepth 100000 in
theorem cells_p {n : Nat} {cs : List Value} {y : DataW H × List MemPlace} (h : DataW.trod enc Try.prog w base (fun _ => true) held n 40 cs = some y) : ∃ p : Pr, cs = pL p ∧ p.ring.buf.length = 8 := by
  obtain ⟨xs, m, _, _, hl, hxl, hf⟩ := DataW.trod_struct Try.underlying40 h
  have hl13 : cs.length = 13 := hl.trans (by kernel_rfl)
  match xs, hxl with
  | [y0, y1, y2, y3], _ =>
    have h0 := hf 0 _ rfl
    have h1 := hf 1 _ rfl
    have h2 := hf 2 _ rfl
    have h3 := hf 3 _ rfl
    match cs, hl13 with
    | [c0, c1, c2, c3, c4, c5, c6, c7, c8, c9, c10, c11, c12], _ =>
      obtain ⟨a0, e0, _⟩ := DataW.trod_int Try.underlying3 (show DataW.trod enc Try.prog w base (fun _ => true) held m 3 [c0] = some y0 from h0)
      obtain ⟨a1, e1, _⟩ := DataW.trod_int Try.underlying3 (show DataW.trod enc Try.prog w base (fun _ => true) held m 3 [c1] = some y1 from h1)
      obtain ⟨a3, e3, _⟩ := DataW.trod_int Try.underlying3 (show DataW.trod enc Try.prog w base (fun _ => true) held m 3 [c12] = some y3 from h3)
      obtain ⟨b0, b1, b2, b3, b4, b5, b6, b7, hd, nn, he, _⟩ := ring_cells Try.underlying38 ⟨rfl, rfl, rfl⟩ ⟨by kernel_rfl, by kernel_rfl, by kernel_rfl⟩ Try.underlying36 Try.underlying3 (by kernel_rfl) Try.underlying3 Try.underlying3 (show DataW.trod enc Try.prog w base (fun _ => true) held m 38 [c2, c3, c4, c5, c6, c7, c8, c9, c10, c11] = some y2 from h2)
      simp at e0 e1 e3
      simp only [List.map_cons, List.map_nil, List.cons.injEq, and_true] at he
      obtain ⟨rfl, rfl, rfl, rfl, rfl, rfl, rfl, rfl, rfl, rfl⟩ := he
      subst e0 e1 e3
      exact ⟨⟨a0, a1, ⟨[b0, b1, b2, b3, b4, b5, b6, b7], hd, nn⟩, a3⟩, rfl, rfl⟩
set_option maxRecDepth 100000 in
theorem ints_sized {n : Nat} {v : Value} {y : DataW H × List MemPlace} (h : DataW.trod enc Try.prog w base (fun _ => true) held n 27 [v] = some y) (hw : (DataW.weights Try.prog 27 y.1).all (· ≤ reachBytes) = true) :
    ∃ A c l, v = .slice A l.length c ∧ IntsAt w (.slice A l.length c) l ∧ l.length ≤ 140737488355328 := by
  obtain ⟨A, len, cap, rfl⟩ := cells_slice Try.underlying27 h
  obtain ⟨hlen, l, rfl, hr, hg⟩ := open_recs (m := 1) (R := fun _ cs x => cs = numL x) (G := fun _ => True) 0 Try.underlying27 (by kernel_rfl) (by decide) (fun n cs y hy => by
    obtain ⟨a, e, _⟩ := DataW.trod_int Try.underlying3 hy
    exact ⟨a, e, trivial⟩) h
  refine ⟨A, cap, l, rfl, ?_, slice_weight Try.underlying27 h hw (Nat.le_of_ble_eq_true (by kernel_rfl))⟩
  obtain ⟨A', c', hv, _, hA⟩ := hr.rows
  refine ⟨A', c', hv, fun h0 => ?_⟩
  obtain ⟨b, o, hb, hlt, hc⟩ := hA h0
  exact ⟨b, o, hb, hlt, fun j x hj => by have := hc j x hj 0 _ rfl; rwa [Nat.mul_one, Nat.add_zero] at this⟩
theorem wf_i64ok {a : Int} (h : (Lit.int .i64 a).wf = true) : i64ok a := by
  simp [Lit.wf, IntKind.min, IntKind.max, IntKind.signed, IntKind.bits] at h
  unfold i64ok
  omega
theorem array16 {α : Type} {cs : Array α} (h : cs.size = 16) : ∃ c0 c1 c2 c3 c4 c5 c6 c7 c8 c9 c10 c11 c12 c13 c14 c15, cs = #[c0, c1, c2, c3, c4, c5, c6, c7, c8, c9, c10, c11, c12, c13, c14, c15] := by
  obtain ⟨l⟩ := cs
  match l, h with
  | [c0, c1, c2, c3, c4, c5, c6, c7, c8, c9, c10, c11, c12, c13, c14, c15], _ => exact ⟨c0, c1, c2, c3, c4, c5, c6, c7, c8, c9, c10, c11, c12, c13, c14, c15, rfl⟩
set_option maxRecDepth 100000 in
theorem open_state {r : Reach} {b : Nat} {v : Value} {d : DataW H} {p : List MemPlace} (hv : Value.okWide Try.prog w r b 32 v) (h : DataW.Trod enc Try.prog w base (fun _ => true) held 32 v d p)
    (hw : (DataW.weights Try.prog 32 d).all (· ≤ reachBytes) = true) : ∃ hh s, v = stV hh s ∧ StOk w hh s ∧ StIn s := by
  obtain ⟨cs, rfl, hsz⟩ := okWide_struct Try.underlying32 hv
  obtain ⟨c0, c1, c2, c3, c4, c5, c6, c7, c8, c9, c10, c11, c12, c13, c14, c15, rfl⟩ := array16 (hsz.trans (by kernel_rfl))
  obtain ⟨fuel, hf⟩ := h
  obtain ⟨xs, m, _, hd, _, hxl, hfd⟩ := DataW.trod_struct Try.underlying32 hf
  match xs, hxl with
  | [y0, y1, y2, y3, y4, y5, y6, y7, y8, y9], _ =>
    have h0 : DataW.trod enc Try.prog w base (fun _ => true) held m 23 [c0] = some y0 := hfd 0 _ rfl
    have h1 : DataW.trod enc Try.prog w base (fun _ => true) held m 24 [c1] = some y1 := hfd 1 _ rfl
    have h2 : DataW.trod enc Try.prog w base (fun _ => true) held m 25 [c2] = some y2 := hfd 2 _ rfl
    have h3 : DataW.trod enc Try.prog w base (fun _ => true) held m 26 [c3] = some y3 := hfd 3 _ rfl
    have h4 : DataW.trod enc Try.prog w base (fun _ => true) held m 27 [c4] = some y4 := hfd 4 _ rfl
    have h5 : DataW.trod enc Try.prog w base (fun _ => true) held m 28 [c5, c6, c7, c8] = some y5 := hfd 5 _ rfl
    have h6 : DataW.trod enc Try.prog w base (fun _ => true) held m 29 [c9, c10, c11, c12] = some y6 := hfd 6 _ rfl
    have h7 : DataW.trod enc Try.prog w base (fun _ => true) held m 30 [c13] = some y7 := hfd 7 _ rfl
    have h8 : DataW.trod enc Try.prog w base (fun _ => true) held m 3 [c14] = some y8 := hfd 8 _ rfl
    have h9 : DataW.trod enc Try.prog w base (fun _ => true) held m 3 [c15] = some y9 := hfd 9 _ rfl
    simp only [Prod.mk.injEq] at hd
    rw [hd.1] at hw
    simp only [DataW.weights, Try.underlying32, DataW.weightsEach, List.map_cons, List.map_nil, List.all_append, Bool.and_eq_true] at hw
    obtain ⟨w0, w1, w2, w3, w4, w5, w6, w7, w8, w9, _⟩ := hw
    obtain ⟨pr, hp, hp1, hp2⟩ := prog_of_trod h0
    obtain ⟨A1, n1, k1, rfl⟩ := cells_slice Try.underlying24 h1
    have g1 := slice_weight Try.underlying24 h1 w1 (Nat.le_of_ble_eq_true (by kernel_rfl))
    obtain ⟨_, gs, rfl, hg, _⟩ := open_recs (m := 5) (R := fun _ cs x => cs = gL x) (G := fun _ => True) St.nilG Try.underlying24 (by kernel_rfl) (by decide) (fun n cs y hy => cells_g hy) h1
    obtain ⟨A2, n2, k2, rfl⟩ := cells_slice Try.underlying25 h2
    have g2 := slice_weight Try.underlying25 h2 w2 (Nat.le_of_ble_eq_true (by kernel_rfl))
    obtain ⟨_, ps, rfl, hps, hpb⟩ := open_recs (m := 13) (R := fun _ cs x => cs = pL x) (G := fun p => p.ring.buf.length = 8) St.nilP Try.underlying25 (by kernel_rfl) (by decide) (fun n cs y hy => cells_p hy) h2
    obtain ⟨A3, n3, k3, rfl⟩ := cells_slice Try.underlying26 h3
    have g3 := slice_weight Try.underlying26 h3 w3 (Nat.le_of_ble_eq_true (by kernel_rfl))
    obtain ⟨_, ms, rfl, hms, _⟩ := open_recs (m := 2) (R := fun _ cs x => cs = pairL x) (G := fun _ => True) (0, 0) Try.underlying26 (by kernel_rfl) (by decide) (fun n cs y hy => by
      obtain ⟨p, e, _⟩ := cells_pair Try.underlying57 (by kernel_rfl) (by kernel_rfl) Try.underlying3 Try.underlying3 hy
      exact ⟨p, e, trivial⟩) h3
    obtain ⟨A4, k4, gl, rfl, hgl, g4⟩ := ints_sized h4 w4
    obtain ⟨zs, m5, _, hz5, _, hzl, hz⟩ := DataW.trod_array Try.underlying28 h5
    have ci : Try.prog.cellsOf 3 = 1 := by kernel_rfl
    have cn : Try.prog.cellsOf 27 = 1 := by kernel_rfl
    match zs, hzl with
    | [z0, z1, z2, z3], _ =>
      have i0 := hz 0 (by omega)
      have i1 := hz 1 (by omega)
      have i2 := hz 2 (by omega)
      have i3 := hz 3 (by omega)
      simp only [ci] at i0 i1 i2 i3
      obtain ⟨a0, e0, _⟩ := DataW.trod_int Try.underlying3 (show DataW.trod enc Try.prog w base (fun _ => true) held m5 3 [c5] = some z0 from i0)
      obtain ⟨a1, e1, _⟩ := DataW.trod_int Try.underlying3 (show DataW.trod enc Try.prog w base (fun _ => true) held m5 3 [c6] = some z1 from i1)
      obtain ⟨a2, e2, _⟩ := DataW.trod_int Try.underlying3 (show DataW.trod enc Try.prog w base (fun _ => true) held m5 3 [c7] = some z2 from i2)
      obtain ⟨a3, e3, _⟩ := DataW.trod_int Try.underlying3 (show DataW.trod enc Try.prog w base (fun _ => true) held m5 3 [c8] = some z3 from i3)
      simp only [List.cons.injEq, and_true] at e0 e1 e2 e3
      subst e0 e1 e2 e3
      obtain ⟨qs, m6, _, hq6, _, hql, hq⟩ := DataW.trod_array Try.underlying29 h6
      match qs, hql with
      | [q0, q1, q2, q3], _ =>
        have j0 := hq 0 (by omega)
        have j1 := hq 1 (by omega)
        have j2 := hq 2 (by omega)
        have j3 := hq 3 (by omega)
        simp only [cn] at j0 j1 j2 j3
        rw [hq6] at w6
        simp only [DataW.weights, Try.underlying29, DataW.weightsAll, List.map_cons, List.map_nil, List.all_append, Bool.and_eq_true] at w6
        obtain ⟨v0, v1, v2, v3, _⟩ := w6
        obtain ⟨B0, l0, x0, rfl, hx0, b0⟩ := ints_sized (show DataW.trod enc Try.prog w base (fun _ => true) held m6 27 [c9] = some q0 from j0) v0
        obtain ⟨B1, l1, x1, rfl, hx1, b1⟩ := ints_sized (show DataW.trod enc Try.prog w base (fun _ => true) held m6 27 [c10] = some q1 from j1) v1
        obtain ⟨B2, l2, x2, rfl, hx2, b2⟩ := ints_sized (show DataW.trod enc Try.prog w base (fun _ => true) held m6 27 [c11] = some q2 from j2) v2
        obtain ⟨B3, l3, x3, rfl, hx3, b3⟩ := ints_sized (show DataW.trod enc Try.prog w base (fun _ => true) held m6 27 [c12] = some q3 from j3) v3
        obtain ⟨A7, n7, k7, rfl⟩ := cells_slice Try.underlying30 h7
        have g7 := slice_weight Try.underlying30 h7 w7 (Nat.le_of_ble_eq_true (by kernel_rfl))
        obtain ⟨_, ts, rfl, hts, htn⟩ := open_recs (m := 2) (R := fun _ cs x => cs = pairL x) (G := fun p => i64ok p.1 ∧ i64ok p.2) (0, 0) Try.underlying30 (by kernel_rfl) (by decide) (fun n cs y hy => by
          obtain ⟨p, e, wa, wb⟩ := cells_pair Try.underlying76 (by kernel_rfl) (by kernel_rfl) Try.underlying3 Try.underlying3 hy
          exact ⟨p, e, wf_i64ok wa, wf_i64ok wb⟩) h7
        obtain ⟨ck, e8, _⟩ := DataW.trod_int Try.underlying3 h8
        obtain ⟨pc, e9, _⟩ := DataW.trod_int Try.underlying3 h9
        simp only [List.cons.injEq, and_true] at e8 e9
        subst e8 e9
        obtain ⟨A0, k0, rfl, _⟩ := hp.form
        exact ⟨⟨A0, k0, A1, k1, A2, k2, A3, k3, A4, k4, B0, l0, B1, l1, B2, l2, B3, l3, A7, k7⟩, ⟨pr, gs, ps, ms, gl, a0, a1, a2, a3, x0, x1, x2, x3, ts, ck, pc⟩, rfl, ⟨hp, hg.rows, hps.rows, hms.rows, hgl, hx0, hx1, hx2, hx3, hts.rows.pairs, hpb⟩, ⟨⟨by unfold maxLen at hp1; omega, fun l hl => by have := hp2 l hl; unfold maxLen at this; omega⟩, g1, g2, g3, g4, ⟨b0, b1, b2, b3⟩, g7, htn⟩⟩
set_option maxRecDepth 100000 in
theorem open_prog {r : Reach} {b : Nat} {v : Value} {d : DataW H} {p : List MemPlace} (hv : Value.okWide Try.prog w r b 23 v) (h : DataW.Trod enc Try.prog w base (fun _ => true) held 23 v d p) :
    ∃ q, NestAt 2 pairL w v q ∧ q.length ≤ maxLen ∧ ∀ l ∈ q, l.length ≤ maxLen := by
  obtain ⟨a, n, c, rfl⟩ := okWide_slice Try.underlying23 hv
  obtain ⟨fuel, hf⟩ := h
  exact prog_of_trod (n := fuel) (by simpa [Value.cells] using hf)
end
end Go.Proofs.Ytogcfndhcphpaaa
