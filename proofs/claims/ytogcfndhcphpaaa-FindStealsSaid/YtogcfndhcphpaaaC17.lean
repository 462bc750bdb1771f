/-
  Several texts in one: Yo, Yp, Ukc, Yq, Yr, Ys.
-/
import Derived.Test.YtogcfndhcphpaaaC16
import Derived.Test.YtogcfndhcphpaaaC13
import Derived.Test.YtogcfndhcphpaaaC14
import Derived.Test.YtogcfndhcphpaaaC12
import Derived.Great.Walk
import Derived.Test.YtogcfndhcphpaaaC09
set_option linter.unusedVariables false
set_option linter.unusedSimpArgs false
namespace Go.Proofs.Ytogcfndhcphpaaa
open Go.RowKit
namespace St
def LikePs (s : St) (l : List Pr) : Prop := ∀ (a : Nat) (p' : Pr), l[a]? = some p' → ∃ p, s.ps[a]? = some p ∧ p'.m = p.m ∧ p'.seq = p.seq ∧ p'.ring.may = true ∧ (s.procs ≤ (a : Int) → p'.next = 0 ∧ p'.ring.n ≤ 0)
theorem LikePs.self {s : St} (h : s.may = true) : LikePs s s.ps := fun _ p' ha => ⟨p', ha, rfl, rfl, may_ring h ha, fun hu => out_use h ha hu⟩
theorem LikePs.set {s : St} {l : List Pr} (h : LikePs s l) {i : Nat} {x x' : Pr} (hi : (i : Int) + 1 ≤ s.procs) (hx : s.ps[i]? = some x) (h1 : x'.m = x.m) (h2 : x'.seq = x.seq) (h3 : x'.ring.may = true) : LikePs s (l.set i x') := fun a p' ha => by
  by_cases hai : a = i
  · subst hai
    have hl : a < l.length := by have := (List.getElem?_eq_some_iff.1 ha).1; rwa [List.length_set] at this
    rw [List.getElem?_set_self hl] at ha
    obtain rfl := Option.some.inj ha
    exact ⟨x, hx, h1, h2, h3, fun hu => by omega⟩
  · rw [List.getElem?_set_ne (Ne.symm hai)] at ha
    exact h a p' ha
theorem PickC.likePs {s t : St} {i j : Nat} {x : Pr} {vc g : Int} (h : PickC s i x vc t g) (hi : Idle s i j x) : LikePs s t.ps := by
  have h0 := LikePs.self hi.may
  cases h with
  | next h => exact h0.set (x' := { x with next := 0 }) hi.use hi.at_ rfl rfl (show x.ring.may = true from may_ring hi.may hi.at_)
  | @ring g l r h hl hr => exact h0.set (x' := { x with ring := r }) hi.use hi.at_ rfl rfl (Ri.may_of hr)
  | glob h hg => exact h0
  | @half vi v g l r1 r2 h hg hv hne hu hvx hl hr1 hr2 => exact (h0.set (x' := { v with ring := r1 }) hu hvx rfl rfl (Ri.may_of hr1)).set (x' := { x with ring := r2 }) hi.use hi.at_ rfl rfl (Ri.may_of hr2)
  | @vnext vi v h hg hv hne hu hvx hl => exact h0.set (x' := { v with next := 0 }) hu hvx rfl rfl (show v.ring.may = true from may_ring hi.may hvx)
  | none h hg hv => exact h0
theorem PickC.whole {s t : St} {i : Nat} {x : Pr} {vc g : Int} (h : PickC s i x vc t g) : t = { s with ps := t.ps, glob := t.glob } := by
  cases h <;> rfl
theorem PickC.count {s t : St} {i : Nat} {x : Pr} {vc g : Int} (h : PickC s i x vc t g) (hx : s.ps[i]? = some x) (h0 : g ≠ 0) (n : Int) : t.runs.count n + [g].count n = s.runs.count n := by
  cases h with
  | next h =>
    have hs := flatMap_set_count (f := queueOf) (n := n) (y := { x with next := 0 }) hx
    have e1 : (queueOf x).count n = [x.next].count n + x.ring.list.count n := by unfold queueOf; rw [if_pos h, List.count_append]
    have e2 : (queueOf { x with next := 0 }).count n = x.ring.list.count n := by unfold queueOf; simp
    unfold St.runs
    rw [List.count_append, List.count_append]
    simp only
    omega
  | @ring g l r h hl hr =>
    have hs := flatMap_set_count (f := queueOf) (n := n) (y := { x with ring := r }) hx
    have e1 : (queueOf x).count n = [g].count n + l.count n := by unfold queueOf; rw [hl, if_neg (by simpa using h), List.nil_append, ← List.count_append]; rfl
    have e2 : (queueOf { x with ring := r }).count n = l.count n := by unfold queueOf; simp only; rw [Ri.list_of hr, if_neg (by simpa using h), List.nil_append]
    unfold St.runs
    rw [List.count_append, List.count_append]
    simp only
    omega
  | @glob g l h hg =>
    unfold St.runs
    rw [List.count_append, List.count_append, hg, show g :: l = [g] ++ l from rfl, List.count_append]
    simp only
    omega
  | @half vi v g l r1 r2 h hg hv hne hu hvx hl hr1 hr2 =>
    have hq := queue_of_nil h
    have hxi : (s.ps.set vi { v with ring := r1 })[i]? = some x := by rw [List.getElem?_set_ne hne]; exact hx
    have hs1 := flatMap_set_count (f := queueOf) (n := n) (y := { v with ring := r1 }) hvx
    have hs2 := flatMap_set_count (f := queueOf) (n := n) (y := { x with ring := r2 }) hxi
    have e0 : (queueOf x).count n = 0 := by rw [h]; rfl
    have e1 : (queueOf { x with ring := r2 }).count n = l.count n := by unfold queueOf; simp only; rw [Ri.list_of hr2, if_neg (by simpa using hq.1), List.nil_append]
    have e2 : v.ring.list.count n = [g].count n + l.count n + r1.list.count n := by
      rw [Ri.list_of hr1, ← List.count_append, ← List.count_append]
      have e : [g] ++ l ++ v.ring.list.drop ((v.ring.list.length + 1) / 2) = v.ring.list := by
        rw [show [g] ++ l = g :: l from rfl, ← hl, List.take_append_drop]
      rw [e]
    have e3 : (queueOf v).count n = (if v.next ≠ 0 then [v.next] else []).count n + v.ring.list.count n := by unfold queueOf; rw [List.count_append]
    have e4 : (queueOf { v with ring := r1 }).count n = (if v.next ≠ 0 then [v.next] else []).count n + r1.list.count n := by unfold queueOf; rw [List.count_append]
    unfold St.runs
    rw [List.count_append, List.count_append]
    simp only
    omega
  | @vnext vi v h hg hv hne hu hvx hl =>
    have hs1 := flatMap_set_count (f := queueOf) (n := n) (y := { v with next := 0 }) hvx
    have e1 : (queueOf v).count n = [v.next].count n := by unfold queueOf; rw [if_pos h0, hl, List.append_nil]
    have e2 : (queueOf { v with next := 0 }).count n = 0 := by unfold queueOf; simp [hl]
    unfold St.runs
    rw [List.count_append, List.count_append]
    simp only
    omega
  | none h hg hv => exact absurd rfl h0
theorem runs_pos {s : St} (h : s.may = true) {n : Int} (hn : n ∈ s.runs) : 1 ≤ n ∧ n ≤ (s.gs.length : Int) := by
  have h5 := (may_parts h).2.2.2.2.1
  unfold allIn at h5
  simp only [Bool.and_eq_true] at h5
  exact within_iff.1 h5.1.1.1 n hn
theorem PickC.runnable {s t : St} {i : Nat} {x : Pr} {vc g : Int} (h : PickC s i x vc t g) (hx : s.ps[i]? = some x) (hm : s.may = true) (h0 : g ≠ 0) : ∃ (k : Nat) (y : Gr), g = (k : Int) + 1 ∧ s.gs[k]? = some y ∧ y.st = 1 ∧ s.runs.count g = 1 := by
  have hr := (h.runs hx).resolve_left h0
  obtain ⟨p1, p2⟩ := runs_pos hm hr
  obtain ⟨k, rfl⟩ : ∃ k : Nat, g = (k : Int) + 1 := ⟨(g - 1).toNat, by omega⟩
  have hk : k < s.gs.length := by omega
  have hs := stands_times ((may_parts hm).2.2.2.2.2 k _ (List.getElem?_eq_getElem hk))
  have hc := List.count_pos_iff.2 hr
  unfold times want at hs
  have h1 := hs.1
  by_cases hst : (s.gs[k]).st = 1
  · rw [if_pos hst] at h1
    exact ⟨k, _, rfl, List.getElem?_eq_getElem hk, hst, h1⟩
  · rw [if_neg hst] at h1
    omega
theorem PickC.zero {s t : St} {i : Nat} {x : Pr} {vc : Int} (h : PickC s i x vc t 0) (hx : s.ps[i]? = some x) (hm : s.may = true) (hb : ∀ p ∈ s.ps, p.ring.buf.length = 8) : t = s := by
  have pos : ∀ n ∈ s.runs, n ≠ 0 := fun n hn => by have := runs_pos hm hn; omega
  generalize hg0 : (0 : Int) = g at h
  cases h with
  | next h => exact absurd hg0.symm h
  | ring h hl hr => exact absurd hg0.symm (pos _ (queue_runs hx (mem_queue_ring (by rw [hl]; simp))))
  | glob h hg => exact absurd hg0.symm (pos _ (List.mem_append_right _ (by rw [hg]; simp)))
  | half h hg hv hne hu hvx hl hr1 hr2 => exact absurd hg0.symm (pos _ (queue_runs hvx (mem_queue_ring (List.mem_of_mem_take (by rw [hl]; simp)))))
  | @vnext vi v h hg hv hne hu hvx hl =>
    have e : ({ v with next := 0 } : Pr) = v := by rw [hg0]
    rw [e]
    have e2 : s.ps.set vi v = s.ps := by
      apply List.ext_getElem?
      intro a
      by_cases ha : a = vi
      · subst ha
        rw [List.getElem?_set_self (List.getElem?_eq_some_iff.1 hvx).1, hvx]
      · rw [List.getElem?_set_ne (Ne.symm ha)]
    rw [e2]
  | none h hg hv => rfl
theorem pick_eq {s t : St} {i j k : Nat} {x : Pr} {y : Gr} {vc : Int} (hi : Idle s i j x) (h : PickC s i x vc t ((k : Int) + 1)) (hy : s.gs[k]? = some y) :
    t.after ((i : Int) + 1) ((k : Int) + 1) = { s with ps := t.ps, glob := t.glob, gs := s.gs.set k { y with st := 2, m := (j : Int) + 1, seq := y.seq + 1 }, ms := s.ms.set j ((i : Int) + 1, (k : Int) + 1) } := by
  obtain ⟨e1, e2, _, ⟨x', hx', hm⟩, _⟩ := h.like hi.at_
  unfold after
  rw [if_neg (by omega), runG_eq hx' (hm.trans hi.m) (by rw [e2]; exact hi.hm) (by rw [e1]; exact hy)]
  rw [e1, e2]
  conv => lhs; rw [h.whole]
theorem pick_may {s t : St} {i j : Nat} {x : Pr} {vc g : Int} (hi : Idle s i j x) (hb : ∀ p ∈ s.ps, p.ring.buf.length = 8) (hq : ∀ y ∈ s.gs, y.seq < 2305843009213693951) (h : PickC s i x vc t g) : (t.after ((i : Int) + 1) g).may = true := by
  by_cases h0 : g = 0
  · subst h0
    obtain rfl := h.zero hi.at_ hi.may hb
    unfold after
    rw [if_pos rfl]
    exact hi.may
  · obtain ⟨k, y, rfl, hy, h1, hc1⟩ := h.runnable hi.at_ hi.may h0
    have hc := h.count hi.at_ h0
    rw [pick_eq hi h hy]
    refine run_may hi hy h1 (hq y (List.mem_of_getElem? hy)) (h.like hi.at_).2.2.1 (h.likePs hi) (fun n hn => ?_) ?_
    · have := hc n
      rw [List.count_eq_zero.2 (show n ∉ [(k : Int) + 1] by simpa using hn), Nat.add_zero] at this
      exact this
    · have := hc ((k : Int) + 1)
      rw [List.count_singleton_self, hc1] at this
      have h2 : t.runs.count ((k : Int) + 1) = 0 := by omega
      exact h2
end St
namespace St
theorem placeAt_drop {n g : Int} (hn : n ≠ 0) (hg : n ≠ g) : ∀ {l : List Pr} {i : Nat}, (∀ p ∈ l, p.ring.buf.length = 8 ∧ p.ring.may = true) → placeAt n (l.map (dropP g)) i = placeAt n l i
  | [], _, _ => rfl
  | p :: l, i, h => by
    have hp := h p List.mem_cons_self
    have e : (dropP g p).ring.list = p.ring.list.filter (· != g) := Ri.list_of (dropP_ring hp.1 hp.2).1
    have e1 : (dropP g p).next = n ↔ p.next = n := by
      show (if p.next = g then 0 else p.next) = n ↔ p.next = n
      by_cases hpg : p.next = g
      · rw [if_pos hpg]; constructor <;> intro h2 <;> omega
      · rw [if_neg hpg]
    have e2 : n ∈ (dropP g p).ring.list ↔ n ∈ p.ring.list := by
      rw [e, List.mem_filter]
      simp [hg]
    rw [List.map_cons]
    unfold placeAt
    rw [placeAt_drop hn hg fun q hq => h q (List.mem_cons_of_mem _ hq)]
    simp only [e1, e2]
theorem start_place {s : St} {i j k : Nat} {x : Pr} {y : Gr} (hi : Idle s i j x) (hb : ∀ p ∈ s.ps, p.ring.buf.length = 8) (hy : s.gs[k]? = some y) (h1 : y.st = 1) (hq : y.seq < 2305843009213693951) {a : Nat} (ha : a < s.gs.length) (hak : a ≠ k) :
    ((s.drop1 ((k : Int) + 1)).runG ((i : Int) + 1) ((k : Int) + 1)).place ((a : Int) + 1) = s.place ((a : Int) + 1) := by
  have hm := start_may hi hb hy h1 hq
  have e := start_eq hi hy
  obtain ⟨t, ht⟩ : ∃ t, (s.drop1 ((k : Int) + 1)).runG ((i : Int) + 1) ((k : Int) + 1) = t := ⟨_, rfl⟩
  rw [ht] at hm e ⊢
  have hga : s.gs[a]? = some s.gs[a] := List.getElem?_eq_getElem ha
  have hta : t.gs[a]? = some s.gs[a] := by rw [e]; simp only; rw [List.getElem?_set_ne (Ne.symm hak)]; exact hga
  rw [place_yes hm hta, place_yes hi.may hga]
  have hr : ∀ p ∈ s.ps, p.ring.buf.length = 8 ∧ p.ring.may = true := fun p hp => by
    obtain ⟨b, hb2⟩ := List.mem_iff_getElem?.1 hp
    exact ⟨hb p hp, may_ring hi.may hb2⟩
  unfold placeOf
  rw [show t.ps = s.ps.map (dropP ((k : Int) + 1)) by rw [e], placeAt_drop (by omega) (by omega) hr, show t.wts = s.wts by rw [e]; rfl]
theorem start_place_it {s : St} {i j k : Nat} {x : Pr} {y : Gr} (hi : Idle s i j x) (hb : ∀ p ∈ s.ps, p.ring.buf.length = 8) (hy : s.gs[k]? = some y) (h1 : y.st = 1) (hq : y.seq < 2305843009213693951) :
    ((s.drop1 ((k : Int) + 1)).runG ((i : Int) + 1) ((k : Int) + 1)).place ((k : Int) + 1) = (4, (j : Int) + 1) := by
  have hm := start_may hi hb hy h1 hq
  have e := start_eq hi hy
  obtain ⟨t, ht⟩ : ∃ t, (s.drop1 ((k : Int) + 1)).runG ((i : Int) + 1) ((k : Int) + 1) = t := ⟨_, rfl⟩
  rw [ht] at hm e ⊢
  have hta : t.gs[k]? = some { y with st := 2, m := (j : Int) + 1, seq := y.seq + 1 } := by rw [e]; simp only; rw [List.getElem?_set_self (List.getElem?_eq_some_iff.1 hy).1]
  rw [place_yes hm hta]
  rfl
end St
theorem St.small_seqs {s : St} (h : s.small = true) : ∀ g ∈ s.gs, g.seq < 2305843009213693951 := by
  unfold St.small at h
  simp only [Bool.and_eq_true, decide_eq_true_eq, List.all_eq_true] at h
  intro g hg
  have := h.1.1.1 g hg
  omega
theorem runG_good {s : St} (h : StGood s) (p g : Int) : StGood (s.runG p g) := by
  obtain ⟨⟨a1, a2, a3, a4, a5, a6, a7, a8⟩, b, c⟩ := h
  refine ⟨⟨?_, ?_, ?_, ?_, ?_, ?_, ?_, ?_⟩, ?_, ?_⟩
  all_goals first | assumption | (simp only [St.runG, List.length_set]; assumption) | (simp only [St.runG]; assumption)
theorem start_looks {w w' : World} {s : St} {p : Int} {k : Nat} {y : Gr} {e : Ending} (hl : s.looks p = true) (hy : s.gs[k]? = some y) (h : StartR w s p ((k : Int) + 1) e w') :
    (y.st ≠ 1 ∧ e = .returned (.tuple #[stV StH.nil St.nil, .int .i64 1]) ∧ Ext w w') ∨
    ∃ (i j : Nat) (x : Pr) (h' : StH), p = (i : Int) + 1 ∧ St.Idle s i j x ∧ y.st = 1 ∧ e = .returned (.tuple #[stV h' ((s.drop1 ((k : Int) + 1)).runG p ((k : Int) + 1)), .int .i64 0]) ∧ StOk w' h' ((s.drop1 ((k : Int) + 1)).runG p ((k : Int) + 1)) ∧ Ext w w' := by
  have hk := (List.getElem?_eq_some_iff.1 hy).1
  rcases h with ⟨h, he, hx⟩ | ⟨i, j, k', x, y', h', hp, hg, hi, hy', hs, he, hk, hx⟩
  · rcases h with h | h | h | ⟨k', y', hk', hy', hs⟩
    · rw [hl] at h; cases h
    · omega
    · omega
    · obtain rfl : k' = k := by omega
      obtain rfl := Option.some.inj (hy.symm.trans hy')
      exact .inl ⟨hs, he, hx⟩
  · obtain rfl : k' = k := by omega
    obtain rfl := Option.some.inj (hy.symm.trans hy')
    exact .inr ⟨i, j, x, h', hp, hi, hs, he, hk, hx⟩
set_option maxRecDepth 100000 in
set_option maxHeartbeats 32000000 in
theorem walk_FindStarts (h : StH) (s : St) (p n : Int) (w : World) (hk : StOk w h s) (hi : StIn s) (_ : (Lit.int .i64 p).wf = true) (_ : (Lit.int .i64 n).wf = true) : Calls Try.prog 12 #[stV h s, .int .i64 p, .int .i64 n] w fun e w' => e = .returned (.bool true) ∧ Ext w w' := by
  have HI := Lib.hid hi
  have HK := Lib.hid hk
  obtain ⟨w1, hw1⟩ : ∃ w1, w.alloc (.cells #[.slice h.pa s.prog.length h.pc, .slice h.ga s.gs.length h.gc, .slice h.qa s.ps.length h.qc, .slice h.ma s.ms.length h.mc, .slice h.la s.glob.length h.lc, .int .i64 s.c0, .int .i64 s.c1, .int .i64 s.c2, .int .i64 s.c3, .slice h.a0 s.w0.length h.k0, .slice h.a1 s.w1.length h.k1, .slice h.a2 s.w2.length h.k2, .slice h.a3 s.w3.length h.k3, .slice h.ta s.timers.length h.tc, .int .i64 s.clock, .int .i64 s.procs] 32) = w1 := ⟨_, rfl⟩
  have HX1 : Hid (Ext w w1) := Lib.hid (by rw [← hw1]; exact (Ext.refl w).alloc _)
  have HB1 : Hid (w1.heap[w.heap.size]? = some (.cells (stC h s) 32 (0, 0))) := Lib.hid (by rw [← hw1]; exact blk_new w _)
  have HK1 := Lib.hid (hk.ext HX1.out)
  have HW1 := Lib.hid hw1
  clear hw1 hk
  clear hi
  unfold stV
  go_enter Try.func12, Try.ntmps12
  go_upto_region 1 with fail
  rw [HW1.out]
  generalize Value.agg #[.slice h.pa s.prog.length h.pc, .slice h.ga s.gs.length h.gc, .slice h.qa s.ps.length h.qc, .slice h.ma s.ms.length h.mc, .slice h.la s.glob.length h.lc, .int .i64 s.c0, .int .i64 s.c1, .int .i64 s.c2, .int .i64 s.c3, .slice h.a0 s.w0.length h.k0, .slice h.a1 s.w1.length h.k1, .slice h.a2 s.w2.length h.k2, .slice h.a3 s.w3.length h.k3, .slice h.ta s.timers.length h.tc, .int .i64 s.clock, .int .i64 s.procs] = sv0
  obtain ⟨W0, hW0⟩ : ∃ W0, w.heap.size = W0 := ⟨_, rfl⟩
  rw [hW0] at HB1
  rw [hW0]
  have HW0 := Lib.hid hW0
  clear hW0
  go_wp2_with fail
  refine (r14fixed_yes w1).mono ?_
  rintro e w2 ⟨rfl, hx2⟩
  have HX2 := Lib.hid hx2
  have HLD := Lib.hid (hx2.blk HB1.out)
  clear hx2
  go_wp2_with (refine wpList_load_rowW (by rfl) 32 _ rfl W0 (by go_simp) (stL h s) (stV h s) rfl _ (range_row HLD.out) Try.underlying32 rfl (by kernel_rfl) ?_)
  refine (rstsmall_any h s _ rfl w2 (HK1.out.ext HX2.out) HI.out).mono ?_
  rintro e w3 ⟨rfl, hx3⟩
  have HX4 := Lib.hid (HX2.out.trans hx3)
  clear hx3 HLD
  cases bs : s.small with
  | false =>
    go_wp2_with fail
    refine (r14fixed_yes _).mono ?_
    rintro e w9 ⟨rfl, hx9⟩
    have HX9 := Lib.hid (HX1.out.trans (HX4.out.trans hx9))
    clear hx9
    go_wp2
    go_ret
    exact ⟨rfl, HX9.out⟩
  | true =>
  have HF := Lib.hid (St.small_few bs HI.out)
  have HSM := Lib.hid bs
  have HGL := Lib.hid (St.small_glob bs)
  have HSG : Hid (StGood s) := Lib.hid ⟨HF.out, HK1.out.buf, St.small_timers HSM.out⟩
  have HLD := Lib.hid (HX4.out.blk HB1.out)
  clear bs
  go_wp2_with (refine wpList_load_rowW (by rfl) 32 _ rfl W0 (by go_simp) (stL h s) (stV h s) rfl _ (range_row HLD.out) Try.underlying32 rfl (by kernel_rfl) ?_)
  refine (r14looks_any h s p _ rfl w3 (HK1.out.ext HX4.out) HF.out).mono ?_
  rintro e w4 ⟨rfl, hx4⟩
  have HX5 := Lib.hid (HX4.out.trans hx4)
  clear hx4 HLD HX4
  have HX4 := Lib.hid HX5.out
  clear HX5
  cases bm : s.looks p with
  | false =>
    go_wp2_with fail
    refine (r14fixed_yes _).mono ?_
    rintro e w9 ⟨rfl, hx9⟩
    have HX9 := Lib.hid (HX1.out.trans (HX4.out.trans hx9))
    clear hx9
    go_wp2
    go_ret
    exact ⟨rfl, HX9.out⟩
  | true =>
  have HLK := Lib.hid bm
  clear bm
  have q1 := st1 (HX4.out.blk HB1.out)
  by_cases a1 : n < 1
  · skip
    go_wp2_with fail
    refine (r14fixed_yes _).mono ?_
    rintro e w9 ⟨rfl, hx9⟩
    have HX9 := Lib.hid (HX1.out.trans (HX4.out.trans hx9))
    clear hx9
    go_wp2
    go_ret
    exact ⟨rfl, HX9.out⟩
  by_cases a2 : (s.gs.length : Int) < n
  · skip
    go_wp2_with fail
    refine (r14fixed_yes _).mono ?_
    rintro e w9 ⟨rfl, hx9⟩
    have HX9 := Lib.hid (HX1.out.trans (HX4.out.trans hx9))
    clear hx9
    go_wp2
    go_ret
    exact ⟨rfl, HX9.out⟩
  obtain ⟨k, rfl⟩ : ∃ k : Nat, n = (k : Int) + 1 := ⟨(n - 1).toNat, by omega⟩
  obtain ⟨y, hy⟩ : ∃ y, s.gs[k]? = some y := ⟨_, List.getElem?_eq_getElem (by omega)⟩
  have HY := Lib.hid hy
  have HLD := Lib.hid (HX4.out.blk HB1.out)
  have HK4 := Lib.hid (HK1.out.ext HX4.out)
  have HKL : Hid (k < s.gs.length ∧ s.gs.length ≤ 100000) := Lib.hid ⟨by omega, HF.out.gs⟩
  have d1 : decide ((k : Int) + 1 < 1) = false := decide_eq_false (by omega)
  have d2 : decide ((s.gs.length : Int) < (k : Int) + 1) = false := decide_eq_false (by omega)
  clear hy a1 a2
  go_upto_region 3 with fail
  clear q1
  go_wp2_with (refine wpList_load_rowW (by rfl) 32 _ rfl W0 (by go_simp) (stL h s) (stV h s) rfl _ (range_row HLD.out) Try.underlying32 rfl (by kernel_rfl) ?_)
  refine (fStart_any h s p ((k : Int) + 1) w4 HK4.out HSG.out).mono ?_
  rintro e w5 hsr
  obtain ⟨bg, og, hga, hgb, e0, e1, e2, e3, e4⟩ := gs_get HK4.out.gs HY.out
  have HGA := Lib.hid hga
  have HGB := Lib.hid hgb
  have HE2 := Lib.hid e2
  clear d1 d2 hga hgb e0 e1 e2 e3 e4
  have f1 : (k : Int) + 1 - 1 = (k : Int) := by omega
  have f2 : (k : Int) < (s.gs.length : Int) := by have := HKL.out; omega
  have f3 : (k : Int) < 100000 := by have := HKL.out; omega
  rcases start_looks HLK.out HY.out hsr with ⟨hst, rfl, hx5⟩ | ⟨i, j, x, h5, hpi, hid, hst, rfl, hk5, hx5⟩
  · have HX5 := Lib.hid hx5
    clear hsr hx5
    obtain ⟨h5, hh5⟩ : ∃ z, StH.nil = z := ⟨_, rfl⟩
    obtain ⟨tS, htS⟩ : ∃ z, St.nil = z := ⟨_, rfl⟩
    rw [hh5, htS]
    clear hh5 htS
    obtain ⟨wb5, wc5, hwb, hwc, hth, hbc, hxc⟩ := st_box w5 h5 tS
    obtain ⟨B5, hB⟩ : ∃ B5, w5.heap.size = B5 := ⟨_, rfl⟩
    rw [hB] at hwc hth hbc
    have HWB5 := Lib.hid hwb
    have HB5 := Lib.hid hB
    have HWC5 := Lib.hid hwc
    have HTH5 := Lib.hid hth
    have HBS5 := Lib.hid hbc
    have HXC5 := Lib.hid hxc
    clear hwb hwc hth hbc hxc hB
    have X5 : Hid (Ext w4 wc5) := Lib.hid (HX5.out.trans HXC5.out)
    have HX9 := Lib.hid (HX1.out.trans (HX4.out.trans X5.out))
    have q1 : wc5.cell? ⟨W0, 1, none⟩ = some (.slice (some ⟨bg, og, none⟩) s.gs.length h.gc) := by have := st1 (X5.out.blk HLD.out); rw [HGA.out] at this; exact this
    have q3 : wc5.cell? ⟨bg, og + k * 5 + 2, none⟩ = some (.int .i64 y.st) := (bcell X5.out _ _ HGB.out).trans HE2.out
    obtain ⟨ys, hys⟩ : ∃ ys, y.st = ys := ⟨_, rfl⟩
    rw [hys] at q3 hst
    have dd0 : (ys == 1) = false := by simpa using hst
    have dd : (ys != 1) = true := by simp only [bne, dd0]; rfl
    clear dd0
    clear hst hys
    go_upto_region 4 with (first | rw [HWB5.out, HB5.out] | (refine wpList_store_row rfl 32 _ _ rfl B5 (stL h5 tS) (stV h5 tS) (by go_simp) (by go_simp) rfl HTH5.out (by kernel_rfl) (stL_one _ _) HWC5.out ?_))
    go_wp2
    go_ret
    exact ⟨rfl, HX9.out⟩
  · subst hpi
    have HX5 := Lib.hid hx5
    have HID := Lib.hid hid
    have HST := Lib.hid hst
    have HK5 := Lib.hid hk5
    have hsq := St.small_seqs HSM.out y (List.mem_of_getElem? HY.out)
    have hm5 := St.start_may hid HK1.out.buf HY.out hst hsq
    have hpl := fun (a : Nat) (ha : a < s.gs.length) (hak : a ≠ k) => St.start_place hid HK1.out.buf HY.out hst hsq ha hak
    have hpt := St.start_place_it hid HK1.out.buf HY.out hst hsq
    have hgl5 : ((s.drop1 ((k : Int) + 1)).runG ((i : Int) + 1) ((k : Int) + 1)).gs.length = s.gs.length := by rw [St.start_eq hid HY.out]; exact List.length_set
    have hgd := St.drop1_good HSG.out (fun p hp => by obtain ⟨a, ha⟩ := List.mem_iff_getElem?.1 hp; exact St.may_ring hid.may ha) ((k : Int) + 1)
    have hgd5 : StGood ((s.drop1 ((k : Int) + 1)).runG ((i : Int) + 1) ((k : Int) + 1)) := runG_good hgd _ _
    obtain ⟨tS, htS⟩ : ∃ tS, (s.drop1 ((k : Int) + 1)).runG ((i : Int) + 1) ((k : Int) + 1) = tS := ⟨_, rfl⟩
    rw [htS] at hm5 hpl hpt hgl5 hgd5 HK5 ⊢
    have HM5 := Lib.hid hm5
    have HPL := Lib.hid hpl
    have HPT := Lib.hid hpt
    have HGL5 := Lib.hid hgl5
    have HGD5 := Lib.hid hgd5
    clear hsr hx5 hid hk5 hsq hm5 hpl hpt hgl5 hgd hgd5 htS
    obtain ⟨wb5, wc5, hwb, hwc, hth, hbc, hxc⟩ := st_box w5 h5 tS
    obtain ⟨B5, hB⟩ : ∃ B5, w5.heap.size = B5 := ⟨_, rfl⟩
    rw [hB] at hwc hth hbc
    have HWB5 := Lib.hid hwb
    have HB5 := Lib.hid hB
    have HWC5 := Lib.hid hwc
    have HTH5 := Lib.hid hth
    have HBS5 := Lib.hid hbc
    have HXC5 := Lib.hid hxc
    clear hwb hwc hth hbc hxc hB
    have X5 : Hid (Ext w4 wc5) := Lib.hid (HX5.out.trans HXC5.out)
    have q1 : wc5.cell? ⟨W0, 1, none⟩ = some (.slice (some ⟨bg, og, none⟩) s.gs.length h.gc) := by have := st1 (X5.out.blk HLD.out); rw [HGA.out] at this; exact this
    have q3 : wc5.cell? ⟨bg, og + k * 5 + 2, none⟩ = some (.int .i64 1) := by have := (bcell X5.out _ _ HGB.out).trans HE2.out; rw [HST.out] at this; exact this
    clear hst
    go_wp2_with (first | rw [HWB5.out, HB5.out] | (refine wpList_store_row rfl 32 _ _ rfl B5 (stL h5 tS) (stV h5 tS) (by go_simp) (by go_simp) rfl HTH5.out (by kernel_rfl) (stL_one _ _) HWC5.out ?_) | (refine wpList_load_rowW (by rfl) 32 _ rfl B5 (by go_simp) (stL h5 tS) (stV h5 tS) rfl _ (range_row HBS5.out) Try.underlying32 rfl (by kernel_rfl) ?_))
    refine (rstmay_any h5 tS true HM5.out wc5 (HK5.out.ext HXC5.out) HGD5.out.few).mono ?_
    rintro e w6 ⟨rfl, hx6⟩
    have X6 : Hid (Ext w4 w6) := Lib.hid (X5.out.trans hx6)
    have BT6 := Lib.hid (hx6.blk HBS5.out)
    have KT6 := Lib.hid (HK5.out.ext (HXC5.out.trans hx6))
    have HLD6 := Lib.hid (X6.out.blk HLD.out)
    have KS6 := Lib.hid (HK4.out.ext X6.out)
    clear hx6 q1 q3
    have q1 := st1 HLD6.out
    have q2 : w6.cell? ⟨B5, 1, none⟩ = some (.slice h5.ga s.gs.length h5.gc) := by have := st1 BT6.out; rw [HGL5.out] at this; exact this
    go_upto_region 9 with fail
    clear q1 q2
    go_wp2_with fail
    go_loopw [9] (fun xv wq => ∃ a : Nat, a ≤ s.gs.length ∧ xv = .int .i64 ((a : Int) + 1) ∧ Ext w6 wq) (fun xv _ => s.gs.length + 1 - (intOf xv).toNat)
    case atStart => exact ⟨0, by omega, rfl, Ext.refl _⟩
    case round =>
      obtain ⟨a, ha, rfl, hxq⟩ := hrel
      have HXQ := Lib.hid hxq
      have BSQ := Lib.hid (hxq.blk HLD6.out)
      have BTQ := Lib.hid (hxq.blk BT6.out)
      have KSQ := Lib.hid (KS6.out.ext hxq)
      have KTQ := Lib.hid (KT6.out.ext hxq)
      have q1 := st1 BSQ.out
      clear hxq
      by_cases hal : a < s.gs.length
      · have e2 : (a : Int) + 1 ≤ (s.gs.length : Int) := by omega
        have hab : (a : Int) < 100000 := by have := HKL.out; omega
        go_upto_region 11 with fail
        clear q1
        by_cases hak : a = k
        · subst hak
          refine region_rgx ([]) (wr) (by kernel_rfl) (by kernel_rfl) ?_ ?_ ?_
          · exact List.forall_mem_nil _
          · first | assumption | exact Ext.refl _
          refine rg_pure (v := ?_) rfl (by kernel_rfl) (by kernel_rfl) (fun w hS hN => ?_) ?_
          rotate_left 1
          · clear hN
            go_simp
            refine givesP_mk ?_
            with_reducible rfl
          refine rg_pure (v := ?_) rfl (by kernel_rfl) (by kernel_rfl) (fun w hS hN => ?_) ?_
          rotate_left 1
          · clear hN
            go_simp
            refine givesP_mk ?_
            with_reducible rfl
          refine rg_pure (v := ?_) rfl (by kernel_rfl) (by kernel_rfl) (fun w hS hN => ?_) ?_
          rotate_left 1
          · clear hN
            go_simp
            refine givesP_mk ?_
            with_reducible rfl
          refine rg_pure (v := ?_) rfl (by kernel_rfl) (by kernel_rfl) (fun w hS hN => ?_) ?_
          rotate_left 1
          · clear hN
            go_simp
            refine givesP_mk ?_
            with_reducible rfl
          refine rg_no rfl (by kernel_rfl) (by kernel_rfl) ?_
          refine rg_no rfl (by kernel_rfl) (by kernel_rfl) ?_
          refine rg_no rfl (by kernel_rfl) (by kernel_rfl) ?_
          refine rg_no rfl (by kernel_rfl) (by kernel_rfl) ?_
          refine rg_no rfl (by kernel_rfl) (by kernel_rfl) ?_
          refine rg_no rfl (by kernel_rfl) (by kernel_rfl) ?_
          refine rg_no rfl (by kernel_rfl) (by kernel_rfl) ?_
          refine rg_pure (v := ?_) rfl (by kernel_rfl) (by kernel_rfl) (fun w hS hN => ?_) ?_
          rotate_left 1
          · clear hN
            go_simp
            refine givesP_mk ?_
            with_reducible rfl
          refine rg_done rfl (Nat.le_of_ble_eq_true (by kernel_rfl)) ?_
          intro w8 hS hT
          have HX8 := Lib.hid (HXQ.out.trans hS)
          clear hT hS
          go_simp
          go_wp2
          go_roundw
          case rel => exact ⟨a + 1, by omega, by go_num, HX8.out⟩
          case measure => simp [intOf]; omega
        · have dk : (((a : Int) + 1) == ((k : Int) + 1)) = false := by simp; omega
          have dk1 : (((a : Int) + 1) != ((k : Int) + 1)) = true := by simp; omega
          have dk2 : decide (((a : Int) + 1) = ((k : Int) + 1)) = false := decide_eq_false (by omega)
          obtain ⟨⟨xk, xn⟩, hpx⟩ : ∃ q, s.place ((a : Int) + 1) = q := ⟨_, rfl⟩
          have HPY := Lib.hid ((HPL.out a hal hak).trans hpx)
          have HPX := Lib.hid hpx
          have hq : ∀ w, (Op.equalIn 10000 52 (.agg #[.int .i64 xk, .int .i64 xn]) (.agg #[.int .i64 xk, .int .i64 xn])).run Try.prog w = .ok true w := fun w => by rw [run_eqPlace, decide_eq_true rfl]
          clear hpx
          refine region_rgx ([(6, (fun u => u = .agg #[.int .i64 xk, .int .i64 xn] : Value → Prop), (fun _ _ => True : (Nat → GV) → World → Prop)), (9, (fun u => u = .agg #[.int .i64 xk, .int .i64 xn] : Value → Prop), (fun _ _ => True : (Nat → GV) → World → Prop))]) (wr) (by kernel_rfl) (by kernel_rfl) ?_ ?_ ?_
          · exact List.forall_mem_cons.2 ⟨⟨⟨_, rfl⟩, fun _ _ _ _ _ => trivial, fun _ _ _ _ _ => trivial⟩, List.forall_mem_cons.2 ⟨⟨⟨_, rfl⟩, fun _ _ _ _ _ => trivial, fun _ _ _ _ _ => trivial⟩, List.forall_mem_nil _⟩⟩
          · first | assumption | exact Ext.refl _
          refine rg_pure (v := ?_) rfl (by kernel_rfl) (by kernel_rfl) (fun w hS hN => ?_) ?_
          rotate_left 1
          · clear hN
            go_simp
            try simp only [hq, dk, dk1, dk2, Bool.not_false, bne]
            refine givesP_mk ?_
            with_reducible rfl
          refine rg_pure (v := ?_) rfl (by kernel_rfl) (by kernel_rfl) (fun w hS hN => ?_) ?_
          rotate_left 1
          · clear hN
            go_simp
            try simp only [hq, dk, dk1, dk2, Bool.not_false, bne]
            refine givesP_mk ?_
            with_reducible rfl
          refine rg_pure (v := ?_) rfl (by kernel_rfl) (by kernel_rfl) (fun w hS hN => ?_) ?_
          rotate_left 1
          · clear hN
            go_simp
            try simp only [hq, dk, dk1, dk2, Bool.not_false, bne]
            refine givesP_mk ?_
            with_reducible rfl
          refine rg_pure (v := ?_) rfl (by kernel_rfl) (by kernel_rfl) (fun w hS hN => ?_) ?_
          rotate_left 1
          · clear hN
            go_simp
            try simp only [hq, dk, dk1, dk2, Bool.not_false, bne]
            refine givesP_mk ?_
            with_reducible rfl
          refine rg_pure (v := stV h s) rfl (by kernel_rfl) (by kernel_rfl) (fun w hS hN => ?_) ?_
          · clear hN
            exact givesP_load 32 _ rfl _ (by go_simp) (stL h s) _ rfl _ (range_row (hS.blk BSQ.out)) Try.underlying32 rfl (by kernel_rfl)
          refine rg_pure (v := ?_) rfl (by kernel_rfl) (by kernel_rfl) (fun w hS hN => ?_) ?_
          rotate_left 1
          · clear hN
            go_simp
            try simp only [hq, dk, dk1, dk2, Bool.not_false, bne]
            refine givesP_mk ?_
            with_reducible rfl
          refine rg_mem (fun u => u = .agg #[.int .i64 xk, .int .i64 xn] : Value → Prop) (fun _ _ => True : (Nat → GV) → World → Prop) (fun _ => Ext) rfl rfl rfl rfl (by kernel_rfl) (by kernel_rfl) (fun w hS hN R hR => ?_) ?_
          · have HR := Lib.hid hR
            clear hR
            (try clear hN)
            go_simp
            refine givesM_call ((rPlace_any h s _ _ HPX.out w (KSQ.out.ext hS) HF.out).mono ?_)
            rintro e w' ⟨rfl, hx⟩
            exact ⟨_, rfl, HR.out _ _ rfl trivial hx⟩
          rintro u2 s2 t2 rfl
          refine rg_pure (v := stV h5 tS) rfl (by kernel_rfl) (by kernel_rfl) (fun w hS hN => ?_) ?_
          · clear hN
            exact givesP_load 32 _ rfl _ (by go_simp) (stL h5 tS) _ rfl _ (range_row (hS.blk BTQ.out)) Try.underlying32 rfl (by kernel_rfl)
          refine rg_pure (v := ?_) rfl (by kernel_rfl) (by kernel_rfl) (fun w hS hN => ?_) ?_
          rotate_left 1
          · clear hN
            go_simp
            try simp only [hq, dk, dk1, dk2, Bool.not_false, bne]
            refine givesP_mk ?_
            with_reducible rfl
          refine rg_mem (fun u => u = .agg #[.int .i64 xk, .int .i64 xn] : Value → Prop) (fun _ _ => True : (Nat → GV) → World → Prop) (fun _ => Ext) rfl rfl rfl rfl (by kernel_rfl) (by kernel_rfl) (fun w hS hN R hR => ?_) ?_
          · have HR := Lib.hid hR
            clear hR
            (try clear hN)
            go_simp
            refine givesM_call ((rPlace_any h5 tS _ _ HPY.out w (KTQ.out.ext hS) HGD5.out.few).mono ?_)
            rintro e w' ⟨rfl, hx⟩
            exact ⟨_, rfl, HR.out _ _ rfl trivial hx⟩
          rintro u5 s5 t5 rfl
          refine rg_pure (v := ?_) rfl (by kernel_rfl) (by kernel_rfl) (fun w hS hN => ?_) ?_
          rotate_left 1
          · clear hN
            go_simp
            try simp only [hq, dk, dk1, dk2, Bool.not_false, bne]
            refine givesP_mk ?_
            with_reducible rfl
          refine rg_pure (v := ?_) rfl (by kernel_rfl) (by kernel_rfl) (fun w hS hN => ?_) ?_
          rotate_left 1
          · clear hN
            go_simp
            try simp only [hq, dk, dk1, dk2, Bool.not_false, bne]
            refine givesP_mk ?_
            with_reducible rfl
          refine rg_done rfl (Nat.le_of_ble_eq_true (by kernel_rfl)) ?_
          intro w8 hS hT
          have HX8 := Lib.hid (HXQ.out.trans hS)
          clear hT hS hq
          go_simp
          go_wp2
          go_roundw
          case rel => exact ⟨a + 1, by omega, by go_num, HX8.out⟩
          case measure => simp [intOf]; omega
      · have e2 : ¬ ((a : Int) + 1 ≤ (s.gs.length : Int)) := by omega
        obtain ⟨bq, oq, hqa, hqb, hqc⟩ := KSQ.out.ps.get HID.out.at_
        have hq0 := hqc 0 _ rfl
        rw [Nat.add_zero] at hq0
        have K91 : Hid (∀ v, Ext wr v → v.cell? ⟨bq, oq + i * 13, none⟩ = some (.int .i64 ((j : Int) + 1))) := Lib.hid fun v hv => by rw [Below.cell (p := ⟨bq, oq + i * 13, none⟩) hv hqb, hq0, HID.out.m]
        have K90 : Hid (∀ v, Ext wr v → v.cell? ⟨W0, 2, none⟩ = some (.slice (some ⟨bq, oq, none⟩) s.ps.length h.qc)) := Lib.hid fun v hv => by have := st2 (hv.blk BSQ.out); rw [hqa] at this; exact this
        have i4 : (i : Int) < (s.ps.length : Int) := by have := (List.getElem?_eq_some_iff.1 HID.out.at_).1; omega
        have i5 : (i : Int) < 100000 := by have := HF.out.ps; omega
        have i6 : (i : Int) + 1 - 1 = (i : Int) := by omega
        have i7 : IntKind.i64.wrap (i : Int) = (i : Int) := IntWalk.i64_in _ (by omega)
        have hq : ∀ w, (Op.equalIn 10000 52 (.agg #[.int .i64 4, .int .i64 ((j : Int) + 1)]) (.agg #[.int .i64 4, .int .i64 ((j : Int) + 1)])).run Try.prog w = .ok true w := fun w => by rw [run_eqPlace, decide_eq_true rfl]
        clear hqa hqb hqc hq0
        go_upto_region 13 with fail
        clear q1
        refine region_rgx ([(2, (fun u => u = .agg #[.int .i64 4, .int .i64 ((j : Int) + 1)] : Value → Prop), (fun _ _ => True : (Nat → GV) → World → Prop))]) (wr) (by kernel_rfl) (by kernel_rfl) ?_ ?_ ?_
        · exact List.forall_mem_cons.2 ⟨⟨⟨_, rfl⟩, fun _ _ _ _ _ => trivial, fun _ _ _ _ _ => trivial⟩, List.forall_mem_nil _⟩
        · first | assumption | exact Ext.refl _
        refine rg_pure (v := stV h5 tS) rfl (by kernel_rfl) (by kernel_rfl) (fun w hS hN => ?_) ?_
        · clear hN
          exact givesP_load 32 _ rfl _ (by go_simp) (stL h5 tS) _ rfl _ (range_row (hS.blk BTQ.out)) Try.underlying32 rfl (by kernel_rfl)
        refine rg_pure (v := ?_) rfl (by kernel_rfl) (by kernel_rfl) (fun w hS hN => ?_) ?_
        rotate_left 1
        · clear hN
          go_simp
          try simp only [hq, i6, i7]
          refine givesP_mk ?_
          with_reducible rfl
        refine rg_mem (fun u => u = .agg #[.int .i64 4, .int .i64 ((j : Int) + 1)] : Value → Prop) (fun _ _ => True : (Nat → GV) → World → Prop) (fun _ => Ext) rfl rfl rfl rfl (by kernel_rfl) (by kernel_rfl) (fun w hS hN R hR => ?_) ?_
        · have HR := Lib.hid hR
          clear hR
          (try clear hN)
          go_simp
          refine givesM_call ((rPlace_any h5 tS _ _ HPT.out w (KTQ.out.ext hS) HGD5.out.few).mono ?_)
          rintro e w' ⟨rfl, hx⟩
          exact ⟨_, rfl, HR.out _ _ rfl trivial hx⟩
        rintro u2 s2 t2 rfl
        refine rg_pure (v := ?_) rfl (by kernel_rfl) (by kernel_rfl) (fun w hS hN => ?_) ?_
        rotate_left 1
        · clear hN
          go_simp
          try simp only [hq, i6, i7]
          refine givesP_mk ?_
          with_reducible rfl
        refine rg_pure (v := ?_) rfl (by kernel_rfl) (by kernel_rfl) (fun w hS hN => ?_) ?_
        rotate_left 1
        · have k1 := K90.out w hS
          clear hN
          go_simp
          try simp only [hq, i6, i7]
          refine givesP_mk ?_
          with_reducible rfl
        refine rg_pure (v := ?_) rfl (by kernel_rfl) (by kernel_rfl) (fun w hS hN => ?_) ?_
        rotate_left 1
        · clear hN
          go_simp
          try simp only [hq, i6, i7]
          refine givesP_mk ?_
          with_reducible rfl
        refine rg_pure (v := ?_) rfl (by kernel_rfl) (by kernel_rfl) (fun w hS hN => ?_) ?_
        rotate_left 1
        · clear hN
          go_simp
          try simp only [hq, i6, i7]
          refine givesP_mk ?_
          with_reducible rfl
        refine rg_pure (v := ?_) rfl (by kernel_rfl) (by kernel_rfl) (fun w hS hN => ?_) ?_
        rotate_left 1
        · clear hN
          go_simp
          try simp only [hq, i6, i7]
          refine givesP_mk ?_
          with_reducible rfl
        refine rg_pure (v := ?_) rfl (by kernel_rfl) (by kernel_rfl) (fun w hS hN => ?_) ?_
        rotate_left 1
        · clear hN
          go_simp
          try simp only [hq, i6, i7]
          refine givesP_mk ?_
          with_reducible rfl
        refine rg_pure (v := ?_) rfl (by kernel_rfl) (by kernel_rfl) (fun w hS hN => ?_) ?_
        rotate_left 1
        · have k1 := K91.out w hS
          clear hN
          go_simp
          try simp only [hq, i6, i7]
          refine givesP_mk ?_
          with_reducible rfl
        refine rg_pure (v := ?_) rfl (by kernel_rfl) (by kernel_rfl) (fun w hS hN => ?_) ?_
        rotate_left 1
        · clear hN
          go_simp
          try simp only [hq, i6, i7]
          refine givesP_mk ?_
          with_reducible rfl
        refine rg_pure (v := ?_) rfl (by kernel_rfl) (by kernel_rfl) (fun w hS hN => ?_) ?_
        rotate_left 1
        · clear hN
          go_simp
          try simp only [hq, i6, i7]
          refine givesP_mk ?_
          with_reducible rfl
        refine rg_pure (v := ?_) rfl (by kernel_rfl) (by kernel_rfl) (fun w hS hN => ?_) ?_
        rotate_left 1
        · clear hN
          go_simp
          try simp only [hq, i6, i7]
          refine givesP_mk ?_
          with_reducible rfl
        refine rg_done rfl (Nat.le_of_ble_eq_true (by kernel_rfl)) ?_
        intro w8 hS hT
        have HX8 := Lib.hid (HX1.out.trans (HX4.out.trans (X6.out.trans (HXQ.out.trans hS))))
        clear hT hS hq
        go_simp
        go_wp2
        go_ret
        exact ⟨rfl, HX8.out⟩
namespace St
theorem pos_of_runs {s : St} (h : s.may = true) {n : Int} (hn : n ∈ s.runs) : n ≠ 0 := by have := (runs_pos h hn).1; omega
theorem queue_len0 {x : Pr} {g : Int} {l : List Int} (hl : x.ring.list = g :: l) : 0 < (queueOf x).length := by unfold queueOf; rw [hl]; simp only [List.length_append, List.length_cons]; omega
theorem queue_lenN {x : Pr} (h : x.next ≠ 0) : 0 < (queueOf x).length := by unfold queueOf; rw [if_pos h]; simp only [List.length_append, List.length_cons]; omega
theorem pick_there {s t : St} {i j : Nat} {x : Pr} {vc g : Int} (hi : Idle s i j x) (h : PickC s i x vc t g) :
    (g ≠ 0) ↔ 0 < (queueOf x).length + s.glob.length + (if vc ≠ (i : Int) + 1 then (s.queue vc).length else 0) := by
  have hm := hi.may
  have hr := h.runs hi.at_
  cases h with
  | next h => exact ⟨fun _ => by have := queue_lenN h; omega, fun _ => h⟩
  | @ring g l r h hl hr1 =>
    refine ⟨fun _ => by have := queue_len0 hl; omega, fun _ => ?_⟩
    exact pos_of_runs hm (queue_runs hi.at_ (mem_queue_ring (by rw [hl]; simp)))
  | @glob g l h hg =>
    refine ⟨fun _ => by rw [hg, List.length_cons]; omega, fun _ => ?_⟩
    exact pos_of_runs hm (List.mem_append_right _ (by rw [hg]; simp))
  | @half vi v g l r1 r2 h hg hv hne hu hvx hl hr1 hr2 =>
    have h1 : v.ring.list ≠ [] := fun e => by rw [e] at hl; simp at hl
    refine ⟨fun _ => ?_, fun _ => pos_of_runs hm (queue_runs hvx (mem_queue_ring (List.mem_of_mem_take (by rw [hl]; simp))))⟩
    rw [hv, if_pos (by omega), queue_yes hu hm hvx]
    obtain ⟨a, b, hab⟩ := List.exists_cons_of_ne_nil h1
    have := queue_len0 hab
    omega
  | @vnext vi v h hg hv hne hu hvx hl =>
    rw [hv, if_pos (by omega), queue_yes hu hm hvx, h, hg]
    unfold queueOf
    rw [hl, List.append_nil]
    by_cases h0 : v.next = 0
    · simp [h0]
    · simp [h0]
  | none h hg hv =>
    have : (if vc ≠ (i : Int) + 1 then (s.queue vc).length else 0) = 0 := by
      by_cases hc : vc = (i : Int) + 1
      · rw [if_neg (by omega)]
      · rw [if_pos hc, queue_no (by intro hh; exact hv ⟨hc, hh.1, hh.2.1⟩)]; rfl
    rw [this, h, hg]
    simp
theorem queue_few {x : Pr} (h : x.ring.list.length ≤ 8) : (queueOf x).length ≤ 9 := by
  unfold queueOf
  rw [List.length_append]
  by_cases h0 : x.next = 0 <;> simp [h0] <;> omega
theorem ring_few {s : St} (hm : s.may = true) (hb : ∀ p ∈ s.ps, p.ring.buf.length = 8) {i : Nat} {x : Pr} (hx : s.ps[i]? = some x) : x.ring.list.length ≤ 8 := by
  have hh := Ri.holds_may (hb x (List.mem_of_getElem? hx)) (may_ring hm hx)
  exact (Ri.holds_n hh).2
theorem squeue_few {s : St} (hb : ∀ p ∈ s.ps, p.ring.buf.length = 8) (p : Int) : (s.queue p).length ≤ 9 := by
  by_cases h : 1 ≤ p ∧ p ≤ s.procs ∧ s.may = true
  · have hps := may_procs h.2.2
    obtain ⟨i, rfl⟩ : ∃ i : Nat, p = (i : Int) + 1 := ⟨(p - 1).toNat, by omega⟩
    obtain ⟨x, hx⟩ : ∃ x, s.ps[i]? = some x := ⟨_, List.getElem?_eq_getElem (by omega)⟩
    rw [queue_yes h.2.1 h.2.2 hx]
    exact queue_few (ring_few h.2.2 hb hx)
  · rw [queue_no h]
    exact Nat.zero_le _
theorem pick_ran {s t : St} {i j : Nat} {x : Pr} {vc g : Int} (hi : Idle s i j x) (hb : ∀ p ∈ s.ps, p.ring.buf.length = 8) (hq : ∀ y ∈ s.gs, y.seq < 2305843009213693951) (h : PickC s i x vc t g) (h0 : g ≠ 0) :
    ∃ (k : Nat) (y : Gr), g = (k : Int) + 1 ∧ s.gs[k]? = some y ∧ y.st = 1 ∧ (t.after ((i : Int) + 1) g).may = true ∧ (t.after ((i : Int) + 1) g).gs.length = s.gs.length ∧ (t.after ((i : Int) + 1) g).gs[k]? = some { y with st := 2, m := (j : Int) + 1, seq := y.seq + 1 } ∧ (t.after ((i : Int) + 1) g).place g = (4, (j : Int) + 1) := by
  obtain ⟨k, y, rfl, hy, h1, -⟩ := h.runnable hi.at_ hi.may h0
  have hm := pick_may hi hb hq h
  have e := pick_eq hi h hy
  obtain ⟨t', ht'⟩ : ∃ t', t.after ((i : Int) + 1) ((k : Int) + 1) = t' := ⟨_, rfl⟩
  rw [ht'] at hm e ⊢
  have hk := (List.getElem?_eq_some_iff.1 hy).1
  have hta : t'.gs[k]? = some { y with st := 2, m := (j : Int) + 1, seq := y.seq + 1 } := by rw [e]; simp only; rw [List.getElem?_set_self hk]
  refine ⟨k, y, rfl, hy, h1, hm, by rw [e]; exact List.length_set, hta, ?_⟩
  rw [place_yes hm hta]
  rfl
theorem runG_good {s : St} (h : StGood s) (p g : Int) : StGood (s.runG p g) := by
  obtain ⟨⟨a1, a2, a3, a4, a5, a6, a7, a8⟩, b, c⟩ := h
  refine ⟨⟨?_, ?_, ?_, ?_, ?_, ?_, ?_, ?_⟩, ?_, ?_⟩
  all_goals first | assumption | (simp only [St.runG, List.length_set]; assumption) | (simp only [St.runG]; assumption)
theorem after_good {t : St} (h : StGood t) (p g : Int) : StGood (t.after p g) := by
  unfold after
  split
  · exact h
  · exact runG_good h _ _
theorem after_ps {t : St} (p g : Int) : (t.after p g).ps = t.ps := by
  unfold after
  split <;> rfl
theorem pick_steals {s t : St} {i j vi : Nat} {x v : Pr} {g : Int} (hi : Idle s i j x) (hq : queueOf x = []) (hg : s.glob = []) (hne : vi ≠ i) (hu : (vi : Int) + 1 ≤ s.procs) (hv : s.ps[vi]? = some v) (h : PickC s i x ((vi : Int) + 1) t g) :
    (v.ring.list = [] ∧ g = v.next) ∨ (v.ring.list ≠ [] ∧ t.ps.length = s.ps.length ∧ ∃ (r1 r2 : Ri), t.ps[i]? = some { x with ring := r2 } ∧ t.ps[vi]? = some { v with ring := r1 } ∧ g :: (r2.list ++ r1.list) = v.ring.list ∧ r1.list.length = v.ring.list.length / 2 ∧ r1.buf.length = 8 ∧ r2.buf.length = 8) := by
  have hil := (List.getElem?_eq_some_iff.1 hi.at_).1
  have hvl := (List.getElem?_eq_some_iff.1 hv).1
  generalize hvc : (vi : Int) + 1 = vc at h
  cases h with
  | next h => exact absurd (queue_of_nil hq).1 h
  | ring h hl hr => rw [(queue_of_nil hq).2] at hl; cases hl
  | glob h hg2 => rw [hg] at hg2; cases hg2
  | @half vi' v' g l r1 r2 h hg2 hv2 hne2 hu2 hvx hl hr1 hr2 =>
    obtain rfl : vi' = vi := by omega
    obtain rfl := Option.some.inj (hv.symm.trans hvx)
    right
    have h1 : v.ring.list ≠ [] := fun e => by rw [e] at hl; simp at hl
    refine ⟨h1, by simp only [List.length_set], r1, r2, List.getElem?_set_self (by rw [List.length_set]; exact hil), ?_, ?_, ?_, Ri.holds_len hr1, Ri.holds_len hr2⟩
    · show ((s.ps.set vi' _).set i _)[vi']? = _
      rw [List.getElem?_set_ne (Ne.symm hne2), List.getElem?_set_self hvl]
    · rw [Ri.list_of hr2, Ri.list_of hr1, ← List.cons_append, ← hl, List.take_append_drop]
    · rw [Ri.list_of hr1, List.length_drop]
      omega
  | @vnext vi' v' h hg2 hv2 hne2 hu2 hvx hl =>
    obtain rfl : vi' = vi := by omega
    obtain rfl := Option.some.inj (hv.symm.trans hvx)
    exact .inl ⟨hl, rfl⟩
  | none h hg2 hv2 => exact absurd ⟨by omega, by omega, by omega⟩ hv2
end St
set_option maxRecDepth 100000 in
set_option maxHeartbeats 32000000 in
theorem walk_FindRuns (h : StH) (s : St) (p vc : Int) (w : World) (hk : StOk w h s) (hi : StIn s) (_ : (Lit.int .i64 p).wf = true) (_ : (Lit.int .i64 vc).wf = true) : Calls Try.prog 9 #[stV h s, .int .i64 p, .int .i64 vc] w fun e w' => e = .returned (.bool true) ∧ Ext w w' := by
  have HI := Lib.hid hi
  have HK := Lib.hid hk
  obtain ⟨w1, hw1⟩ : ∃ w1, w.alloc (.cells #[.slice h.pa s.prog.length h.pc, .slice h.ga s.gs.length h.gc, .slice h.qa s.ps.length h.qc, .slice h.ma s.ms.length h.mc, .slice h.la s.glob.length h.lc, .int .i64 s.c0, .int .i64 s.c1, .int .i64 s.c2, .int .i64 s.c3, .slice h.a0 s.w0.length h.k0, .slice h.a1 s.w1.length h.k1, .slice h.a2 s.w2.length h.k2, .slice h.a3 s.w3.length h.k3, .slice h.ta s.timers.length h.tc, .int .i64 s.clock, .int .i64 s.procs] 32) = w1 := ⟨_, rfl⟩
  have HX1 : Hid (Ext w w1) := Lib.hid (by rw [← hw1]; exact (Ext.refl w).alloc _)
  have HB1 : Hid (w1.heap[w.heap.size]? = some (.cells (stC h s) 32 (0, 0))) := Lib.hid (by rw [← hw1]; exact blk_new w _)
  have HK1 := Lib.hid (hk.ext HX1.out)
  have HW1 := Lib.hid hw1
  clear hw1 hk
  clear hi
  unfold stV
  go_enter Try.func9, Try.ntmps9
  go_upto_region 1 with fail
  rw [HW1.out]
  generalize Value.agg #[.slice h.pa s.prog.length h.pc, .slice h.ga s.gs.length h.gc, .slice h.qa s.ps.length h.qc, .slice h.ma s.ms.length h.mc, .slice h.la s.glob.length h.lc, .int .i64 s.c0, .int .i64 s.c1, .int .i64 s.c2, .int .i64 s.c3, .slice h.a0 s.w0.length h.k0, .slice h.a1 s.w1.length h.k1, .slice h.a2 s.w2.length h.k2, .slice h.a3 s.w3.length h.k3, .slice h.ta s.timers.length h.tc, .int .i64 s.clock, .int .i64 s.procs] = sv0
  obtain ⟨W0, hW0⟩ : ∃ W0, w.heap.size = W0 := ⟨_, rfl⟩
  rw [hW0] at HB1
  rw [hW0]
  have HW0 := Lib.hid hW0
  clear hW0
  go_wp2_with fail
  refine (r14fixed_yes w1).mono ?_
  rintro e w2 ⟨rfl, hx2⟩
  have HX2 := Lib.hid hx2
  have HLD := Lib.hid (hx2.blk HB1.out)
  clear hx2
  go_wp2_with (refine wpList_load_rowW (by rfl) 32 _ rfl W0 (by go_simp) (stL h s) (stV h s) rfl _ (range_row HLD.out) Try.underlying32 rfl (by kernel_rfl) ?_)
  refine (rstsmall_any h s _ rfl w2 (HK1.out.ext HX2.out) HI.out).mono ?_
  rintro e w3 ⟨rfl, hx3⟩
  have HX4 := Lib.hid (HX2.out.trans hx3)
  clear hx3 HLD
  cases bs : s.small with
  | false =>
    go_wp2_with fail
    refine (r14fixed_yes _).mono ?_
    rintro e w9 ⟨rfl, hx9⟩
    have HX9 := Lib.hid (HX1.out.trans (HX4.out.trans hx9))
    clear hx9
    go_wp2
    go_ret
    exact ⟨rfl, HX9.out⟩
  | true =>
  have HF := Lib.hid (St.small_few bs HI.out)
  have HSM := Lib.hid bs
  have HGL := Lib.hid (St.small_glob bs)
  have HSG : Hid (StGood s) := Lib.hid ⟨HF.out, HK1.out.buf, St.small_timers HSM.out⟩
  have HLD := Lib.hid (HX4.out.blk HB1.out)
  clear bs
  go_wp2_with (refine wpList_load_rowW (by rfl) 32 _ rfl W0 (by go_simp) (stL h s) (stV h s) rfl _ (range_row HLD.out) Try.underlying32 rfl (by kernel_rfl) ?_)
  refine (r14looks_any h s p _ rfl w3 (HK1.out.ext HX4.out) HF.out).mono ?_
  rintro e w4 ⟨rfl, hx4⟩
  have HX5 := Lib.hid (HX4.out.trans hx4)
  clear hx4 HLD HX4
  have HX4 := Lib.hid HX5.out
  clear HX5
  cases bm : s.looks p with
  | false =>
    go_wp2_with fail
    refine (r14fixed_yes _).mono ?_
    rintro e w9 ⟨rfl, hx9⟩
    have HX9 := Lib.hid (HX1.out.trans (HX4.out.trans hx9))
    clear hx9
    go_wp2
    go_ret
    exact ⟨rfl, HX9.out⟩
  | true =>
  have HLK := Lib.hid bm
  clear bm
  have HLD := Lib.hid (HX4.out.blk HB1.out)
  have HK4 := Lib.hid (HK1.out.ext HX4.out)
  go_wp2_with (refine wpList_load_rowW (by rfl) 32 _ rfl W0 (by go_simp) (stL h s) (stV h s) rfl _ (range_row HLD.out) Try.underlying32 rfl (by kernel_rfl) ?_)
  refine (fPick_any h s p vc w4 HK4.out HSG.out HGL.out).mono ?_
  rintro e w5 hpr
  obtain ⟨i, j, x, t, g, h5, hpi, hid, hpc, rfl, hk5, hx5⟩ := pick_looks HLK.out hpr
  subst hpi
  have HID := Lib.hid hid
  have hth := St.pick_there hid hpc
  rw [← St.queue_yes hid.use hid.may hid.at_] at hth
  have hran := fun h0 => St.pick_ran hid HK1.out.buf (St.small_seqs HSM.out) hpc h0
  have hz : g = 0 → t.after ((i : Int) + 1) g = s := fun h0 => by
    subst h0
    show (if (0 : Int) = 0 then t else _) = s
    rw [if_pos rfl]
    exact hpc.zero hid.at_ hid.may HK1.out.buf
  have hgd5 := St.after_good (hpc.good hid.at_ HSG.out) ((i : Int) + 1) g
  obtain ⟨Q, hQ⟩ : ∃ Q, s.queue ((i : Int) + 1) = Q := ⟨_, rfl⟩
  obtain ⟨QV, hQV⟩ : ∃ QV, s.queue vc = QV := ⟨_, rfl⟩
  obtain ⟨tS, htS⟩ : ∃ tS, t.after ((i : Int) + 1) g = tS := ⟨_, rfl⟩
  rw [htS] at hran hz hgd5 hk5 ⊢
  rw [hQ, hQV] at hth
  have HQ := Lib.hid hQ
  have HQV := Lib.hid hQV
  have HQL : Hid (Q.length ≤ 9 ∧ QV.length ≤ 9 ∧ s.glob.length ≤ 80) := Lib.hid ⟨by rw [← hQ]; exact St.squeue_few HK1.out.buf _, by rw [← hQV]; exact St.squeue_few HK1.out.buf _, HGL.out⟩
  have HTH := Lib.hid hth
  have HRAN := Lib.hid hran
  have HZ := Lib.hid hz
  have HGD5 := Lib.hid hgd5
  have HX5 := Lib.hid hx5
  have HK5 := Lib.hid hk5
  clear hpr hid hpc hk5 hx5 htS hth hran hz hgd5 hQ hQV
  obtain ⟨wb5, wc5, hwb, hwc, hth, hbc, hxc⟩ := st_box w5 h5 tS
  obtain ⟨B5, hB⟩ : ∃ B5, w5.heap.size = B5 := ⟨_, rfl⟩
  rw [hB] at hwc hth hbc
  have HWB5 := Lib.hid hwb
  have HB5 := Lib.hid hB
  have HWC5 := Lib.hid hwc
  have HTH5 := Lib.hid hth
  have HBS5 := Lib.hid hbc
  have HXC5 := Lib.hid hxc
  clear hwb hwc hth hbc hxc hB
  go_upto_region 4 with (first | rw [HWB5.out, HB5.out] | (refine wpList_store_row rfl 32 _ _ rfl B5 (stL h5 tS) (stV h5 tS) (by go_simp) (by go_simp) rfl HTH5.out (by kernel_rfl) (stL_one _ _) HWC5.out ?_))
  have X5 : Hid (Ext w4 wc5) := Lib.hid (HX5.out.trans HXC5.out)
  have HLD5 := Lib.hid (X5.out.blk HLD.out)
  have KS5 := Lib.hid (HK4.out.ext X5.out)
  have f1 : IntKind.i64.wrap ((Q.length : Int) + (s.glob.length : Int)) = (Q.length : Int) + (s.glob.length : Int) := IntWalk.i64_in _ (by have := HQL.out; omega)
  refine region_rgx ([(2, (fun u => ∃ A c, u = .slice A Q.length c : Value → Prop), (fun _ _ => True : (Nat → GV) → World → Prop))]) (wc5) (by kernel_rfl) (by kernel_rfl) ?_ ?_ ?_
  · exact List.forall_mem_cons.2 ⟨⟨⟨_, none, 0, rfl⟩, fun _ _ _ _ _ => trivial, fun _ _ _ _ _ => trivial⟩, List.forall_mem_nil _⟩
  · first | assumption | exact Ext.refl _
  refine rg_pure (v := stV h s) rfl (by kernel_rfl) (by kernel_rfl) (fun w hS hN => ?_) ?_
  · clear hN
    exact givesP_load 32 _ rfl _ (by go_simp) (stL h s) _ rfl _ (range_row (hS.blk HLD5.out)) Try.underlying32 rfl (by kernel_rfl)
  refine rg_pure (v := ?_) rfl (by kernel_rfl) (by kernel_rfl) (fun w hS hN => ?_) ?_
  rotate_left 1
  · clear hN
    go_simp
    try simp only [f1]
    refine givesP_mk ?_
    with_reducible rfl
  refine rg_mem (fun u => ∃ A c, u = .slice A Q.length c : Value → Prop) (fun _ _ => True : (Nat → GV) → World → Prop) (fun _ => Ext) rfl rfl rfl rfl (by kernel_rfl) (by kernel_rfl) (fun w hS hN R hR => ?_) ?_
  · have HR := Lib.hid hR
    clear hR
    (try clear hN)
    go_simp
    refine givesM_call ((rQueue_any h s _ _ HQ.out w (KS5.out.ext hS) HF.out).mono ?_)
    rintro e w' ⟨A, c, rfl, -, hx⟩
    exact ⟨_, rfl, HR.out _ _ ⟨A, c, rfl⟩ trivial hx⟩
  rintro u2 s2 t2 ⟨A2, c2, rfl⟩
  refine rg_pure (v := ?_) rfl (by kernel_rfl) (by kernel_rfl) (fun w hS hN => ?_) ?_
  rotate_left 1
  · clear hN
    go_simp
    try simp only [f1]
    refine givesP_mk ?_
    with_reducible rfl
  refine rg_pure (v := ?_) rfl (by kernel_rfl) (by kernel_rfl) (fun w hS hN => ?_) ?_
  rotate_left 1
  · clear hN
    go_simp
    try simp only [f1]
    refine givesP_mk ?_
    with_reducible rfl
  refine rg_pure (v := ?_) rfl (by kernel_rfl) (by kernel_rfl) (fun w hS hN => ?_) ?_
  rotate_left 1
  · have k1 := st4 (hS.blk HLD5.out)
    clear hN
    go_simp
    try simp only [f1]
    refine givesP_mk ?_
    with_reducible rfl
  refine rg_pure (v := ?_) rfl (by kernel_rfl) (by kernel_rfl) (fun w hS hN => ?_) ?_
  rotate_left 1
  · clear hN
    go_simp
    try simp only [f1]
    refine givesP_mk ?_
    with_reducible rfl
  refine rg_pure (v := ?_) rfl (by kernel_rfl) (by kernel_rfl) (fun w hS hN => ?_) ?_
  rotate_left 1
  · clear hN
    go_simp
    try simp only [f1]
    refine givesP_mk ?_
    with_reducible rfl
  refine rg_pure (v := ?_) rfl (by kernel_rfl) (by kernel_rfl) (fun w hS hN => ?_) ?_
  rotate_left 1
  · clear hN
    go_simp
    try simp only [f1]
    refine givesP_mk ?_
    with_reducible rfl
  refine rg_done rfl (Nat.le_of_ble_eq_true (by kernel_rfl)) ?_
  intro w6 hS hT
  have X6 : Hid (Ext w4 w6) := Lib.hid (X5.out.trans hS)
  have BT6 := Lib.hid (hS.blk HBS5.out)
  have KT6 := Lib.hid (HK5.out.ext (HXC5.out.trans hS))
  clear hT hS f1
  go_simp
  by_cases hvp : vc = (i : Int) + 1
  · have n0 : (vc != (i : Int) + 1) = false := by simp [hvp]
    have HVP := Lib.hid hvp
    clear hvp
    go_upto_region 7 with fail
    clear n0
    have HLD9 := Lib.hid (X6.out.blk HLD.out)
    have X9 := X6
    have BT9 := BT6
    have KT9 := KT6
    have K9 := Lib.hid (HK4.out.ext X6.out)
    obtain ⟨N, hN⟩ : ∃ N, (Q.length : Int) + (s.glob.length : Int) = N := ⟨_, rfl⟩
    rw [hN]
    have HNN : Hid (decide ((0 : Int) < N) = decide (g ≠ 0)) := Lib.hid (by have := HTH.out; rw [if_neg (by have := HVP.out; omega), Nat.add_zero] at this; exact Bool.eq_iff_iff.2 (by simp only [decide_eq_true_eq]; constructor <;> intro hh <;> first | (rw [this]; omega) | (have := this.1 hh; omega)))
    clear hN
    by_cases h0 : g = 0
    · have n1 : decide ((0 : Int) < N) = false := by rw [HNN.out]; simp [h0]
      have HTS : Hid (s = tS) := Lib.hid (HZ.out h0).symm
      rw [h0]
      clear h0
      go_upto_region 9 with fail
      go_upto_region 10 with fail
      clear n1
      go_wp2_with (first | (refine wpList_load_rowW (by rfl) 32 _ rfl W0 ?hx (stL h s) (stV h s) rfl _ (range_row HLD9.out) Try.underlying32 rfl (by kernel_rfl) ?_; case hx => go_simp) | (refine wpList_load_rowW (by rfl) 32 _ rfl B5 ?hx (stL h5 tS) (stV h5 tS) rfl _ (range_row BT9.out) Try.underlying32 rfl (by kernel_rfl) ?_; case hx => go_simp))
      refine (rstsame_any h h5 s tS true (by rw [← HTS.out]; simp) w6 K9.out KT9.out HF.out (St.small_timers HSM.out)).mono ?_
      rintro e w10 ⟨rfl, hx10⟩
      have HX10 := Lib.hid (HX1.out.trans (HX4.out.trans (X9.out.trans hx10)))
      clear hx10
      go_wp2
      go_ret
      exact ⟨rfl, HX10.out⟩
    · have n1 : decide ((0 : Int) < N) = true := by rw [HNN.out]; simp [h0]
      obtain ⟨k, y, hgk, hy, hst, hmay, hgl, hta, hpl⟩ := HRAN.out h0
      subst hgk
      have HMY := Lib.hid hmay
      have HPL := Lib.hid hpl
      have HGL5 := Lib.hid hgl
      have HKL : Hid (k < s.gs.length ∧ s.gs.length ≤ 100000) := Lib.hid ⟨(List.getElem?_eq_some_iff.1 hy).1, HF.out.gs⟩
      have HSQ : Hid (0 ≤ y.seq ∧ y.seq < 2305843009213693951) := Lib.hid ⟨(St.may_seq HID.out.may hy).1, St.small_seqs HSM.out y (List.mem_of_getElem? hy)⟩
      obtain ⟨bg, og, hga, hgb, e0, e1, e2, e3, e4⟩ := gs_get K9.out.gs hy
      obtain ⟨bt, ot, hta1, htb, d0, d1, d2, d3, d4⟩ := gs_get KT9.out.gs hta
      obtain ⟨bq, oq, hqa, hqb, hqc⟩ := K9.out.ps.get HID.out.at_
      have hq0 := hqc 0 _ rfl
      rw [Nat.add_zero] at hq0
      have KS6 : Hid (∀ v, Ext w6 v → v.cell? ⟨bg, og + k * 5 + 2, none⟩ = some (.int .i64 1)) := Lib.hid fun v hv => by rw [Below.cell (p := ⟨bg, og + k * 5 + 2, none⟩) hv hgb, e2, hst]
      have KS36 : Hid (∀ v, Ext w6 v → v.cell? ⟨bg, og + k * 5 + 4, none⟩ = some (.int .i64 y.seq)) := Lib.hid fun v hv => by rw [Below.cell (p := ⟨bg, og + k * 5 + 4, none⟩) hv hgb, e4]
      have KT29 : Hid (∀ v, Ext w6 v → v.cell? ⟨bt, ot + k * 5 + 4, none⟩ = some (.int .i64 (y.seq + 1))) := Lib.hid fun v hv => by rw [Below.cell (p := ⟨bt, ot + k * 5 + 4, none⟩) hv htb]; exact d4
      have KS18 : Hid (∀ v, Ext w6 v → v.cell? ⟨bq, oq + i * 13, none⟩ = some (.int .i64 ((j : Int) + 1))) := Lib.hid fun v hv => by rw [Below.cell (p := ⟨bq, oq + i * 13, none⟩) hv hqb, hq0, HID.out.m]
      have KS1 : Hid (∀ v, Ext w6 v → v.cell? ⟨W0, 1, none⟩ = some (.slice (some ⟨bg, og, none⟩) s.gs.length h.gc)) := Lib.hid fun v hv => by have := st1 (hv.blk HLD9.out); rw [hga] at this; exact this
      have KS2 : Hid (∀ v, Ext w6 v → v.cell? ⟨W0, 2, none⟩ = some (.slice (some ⟨bq, oq, none⟩) s.ps.length h.qc)) := Lib.hid fun v hv => by have := st2 (hv.blk HLD9.out); rw [hqa] at this; exact this
      have KT1 : Hid (∀ v, Ext w6 v → v.cell? ⟨B5, 1, none⟩ = some (.slice (some ⟨bt, ot, none⟩) s.gs.length h5.gc)) := Lib.hid fun v hv => by have := st1 (hv.blk BT9.out); rw [hta1, hgl] at this; exact this
      clear hga hgb e0 e1 e2 e3 e4 hta1 htb d0 d1 d2 d3 d4 hqa hqb hqc hq0 hy hst hmay hgl hta hpl
      have g0 : ((k : Int) + 1 == 0) = false := by simp; omega
      have g1 : ((k : Int) + 1 != 0) = true := by simp; omega
      have g2 : decide ((k : Int) + 1 < 1) = false := decide_eq_false (by omega)
      have g3 : decide ((s.gs.length : Int) < (k : Int) + 1) = false := decide_eq_false (by have := HKL.out; omega)
      have q1 := KS1.out w6 (Ext.refl _)
      clear h0
      go_upto_region 9 with fail
      go_upto_region 11 with fail
      clear n1 g0 g1
      go_wp2_with (refine wpList_load_rowW (by rfl) 32 _ rfl B5 (by go_simp) (stL h5 tS) (stV h5 tS) rfl _ (range_row BT9.out) Try.underlying32 rfl (by kernel_rfl) ?_)
      refine (rstmay_any h5 tS true HMY.out w6 KT9.out HGD5.out.few).mono ?_
      rintro e wz ⟨rfl, hxz⟩
      have HXZ := Lib.hid hxz
      clear hxz q1
      have q1 := KS1.out wz HXZ.out
      have q2 := KT1.out wz HXZ.out
      go_upto_region 13 with fail
      clear q1 q2 g2 g3
      have HLDZ := Lib.hid (HXZ.out.blk HLD9.out)
      have BTZ := Lib.hid (HXZ.out.blk BT9.out)
      have KTZ := Lib.hid (KT9.out.ext HXZ.out)
      have f1 : (k : Int) + 1 - 1 = (k : Int) := by omega
      have f2 : (k : Int) < (s.gs.length : Int) := by have := HKL.out; omega
      have f3 : (k : Int) < 100000 := by have := HKL.out; omega
      have f4 : IntKind.i64.wrap (k : Int) = (k : Int) := IntWalk.i64_in _ (by omega)
      have f5 : IntKind.i64.wrap (y.seq + 1) = y.seq + 1 := IntWalk.i64_in _ (by have := HSQ.out; omega)
      have i4 : (i : Int) < (s.ps.length : Int) := by have := (List.getElem?_eq_some_iff.1 HID.out.at_).1; omega
      have i5 : (i : Int) < 100000 := by have := HF.out.ps; omega
      have i6 : (i : Int) + 1 - 1 = (i : Int) := by omega
      have i7 : IntKind.i64.wrap (i : Int) = (i : Int) := IntWalk.i64_in _ (by omega)
      have hq : ∀ w, (Op.equalIn 10000 52 (.agg #[.int .i64 4, .int .i64 ((j : Int) + 1)]) (.agg #[.int .i64 4, .int .i64 ((j : Int) + 1)])).run Try.prog w = .ok true w := fun w => by rw [run_eqPlace, decide_eq_true rfl]
      refine region_rgx ([(11, (fun u => u = .agg #[.int .i64 4, .int .i64 ((j : Int) + 1)] : Value → Prop), (fun _ _ => True : (Nat → GV) → World → Prop))]) (wz) (by kernel_rfl) (by kernel_rfl) ?_ ?_ ?_
      · exact List.forall_mem_cons.2 ⟨⟨⟨_, rfl⟩, fun _ _ _ _ _ => trivial, fun _ _ _ _ _ => trivial⟩, List.forall_mem_nil _⟩
      · first | assumption | exact Ext.refl _
      refine rg_pure (v := ?_) rfl (by kernel_rfl) (by kernel_rfl) (fun w hS hN => ?_) ?_
      rotate_left 1
      · clear hN
        go_simp
        try simp only [hq, i6, i7, f1, f4, f5]
        refine givesP_mk ?_
        with_reducible rfl
      refine rg_pure (v := ?_) rfl (by kernel_rfl) (by kernel_rfl) (fun w hS hN => ?_) ?_
      rotate_left 1
      · have k1 := KS1.out w (HXZ.out.trans hS)
        clear hN
        go_simp
        try simp only [hq, i6, i7, f1, f4, f5]
        refine givesP_mk ?_
        with_reducible rfl
      refine rg_pure (v := ?_) rfl (by kernel_rfl) (by kernel_rfl) (fun w hS hN => ?_) ?_
      rotate_left 1
      · clear hN
        go_simp
        try simp only [hq, i6, i7, f1, f4, f5]
        refine givesP_mk ?_
        with_reducible rfl
      refine rg_pure (v := ?_) rfl (by kernel_rfl) (by kernel_rfl) (fun w hS hN => ?_) ?_
      rotate_left 1
      · clear hN
        go_simp
        try simp only [hq, i6, i7, f1, f4, f5]
        refine givesP_mk ?_
        with_reducible rfl
      refine rg_pure (v := ?_) rfl (by kernel_rfl) (by kernel_rfl) (fun w hS hN => ?_) ?_
      rotate_left 1
      · clear hN
        go_simp
        try simp only [hq, i6, i7, f1, f4, f5]
        refine givesP_mk ?_
        with_reducible rfl
      refine rg_pure (v := ?_) rfl (by kernel_rfl) (by kernel_rfl) (fun w hS hN => ?_) ?_
      rotate_left 1
      · clear hN
        go_simp
        try simp only [hq, i6, i7, f1, f4, f5]
        refine givesP_mk ?_
        with_reducible rfl
      refine rg_pure (v := ?_) rfl (by kernel_rfl) (by kernel_rfl) (fun w hS hN => ?_) ?_
      rotate_left 1
      · have k1 := KS6.out w (HXZ.out.trans hS)
        clear hN
        go_simp
        try simp only [hq, i6, i7, f1, f4, f5]
        refine givesP_mk ?_
        with_reducible rfl
      refine rg_pure (v := ?_) rfl (by kernel_rfl) (by kernel_rfl) (fun w hS hN => ?_) ?_
      rotate_left 1
      · clear hN
        go_simp
        try simp only [hq, i6, i7, f1, f4, f5]
        refine givesP_mk ?_
        with_reducible rfl
      refine rg_pure (v := ?_) rfl (by kernel_rfl) (by kernel_rfl) (fun w hS hN => ?_) ?_
      rotate_left 1
      · clear hN
        go_simp
        try simp only [hq, i6, i7, f1, f4, f5]
        refine givesP_mk ?_
        with_reducible rfl
      refine rg_pure (v := stV h5 tS) rfl (by kernel_rfl) (by kernel_rfl) (fun w hS hN => ?_) ?_
      · clear hN
        exact givesP_load 32 _ rfl _ (by go_simp) (stL h5 tS) _ rfl _ (range_row (hS.blk BTZ.out)) Try.underlying32 rfl (by kernel_rfl)
      refine rg_pure (v := ?_) rfl (by kernel_rfl) (by kernel_rfl) (fun w hS hN => ?_) ?_
      rotate_left 1
      · clear hN
        go_simp
        try simp only [hq, i6, i7, f1, f4, f5]
        refine givesP_mk ?_
        with_reducible rfl
      refine rg_mem (fun u => u = .agg #[.int .i64 4, .int .i64 ((j : Int) + 1)] : Value → Prop) (fun _ _ => True : (Nat → GV) → World → Prop) (fun _ => Ext) rfl rfl rfl rfl (by kernel_rfl) (by kernel_rfl) (fun w hS hN R hR => ?_) ?_
      · have HR := Lib.hid hR
        clear hR
        (try clear hN)
        go_simp
        refine givesM_call ((rPlace_any h5 tS _ _ HPL.out w (KTZ.out.ext hS) HGD5.out.few).mono ?_)
        rintro e w' ⟨rfl, hx⟩
        exact ⟨_, rfl, HR.out _ _ rfl trivial hx⟩
      rintro u2 s2 t2 rfl
      refine rg_pure (v := ?_) rfl (by kernel_rfl) (by kernel_rfl) (fun w hS hN => ?_) ?_
      rotate_left 1
      · clear hN
        go_simp
        try simp only [hq, i6, i7, f1, f4, f5]
        refine givesP_mk ?_
        with_reducible rfl
      refine rg_pure (v := ?_) rfl (by kernel_rfl) (by kernel_rfl) (fun w hS hN => ?_) ?_
      rotate_left 1
      · have k1 := KS2.out w (HXZ.out.trans hS)
        clear hN
        go_simp
        try simp only [hq, i6, i7, f1, f4, f5]
        refine givesP_mk ?_
        with_reducible rfl
      refine rg_pure (v := ?_) rfl (by kernel_rfl) (by kernel_rfl) (fun w hS hN => ?_) ?_
      rotate_left 1
      · clear hN
        go_simp
        try simp only [hq, i6, i7, f1, f4, f5]
        refine givesP_mk ?_
        with_reducible rfl
      refine rg_pure (v := ?_) rfl (by kernel_rfl) (by kernel_rfl) (fun w hS hN => ?_) ?_
      rotate_left 1
      · clear hN
        go_simp
        try simp only [hq, i6, i7, f1, f4, f5]
        refine givesP_mk ?_
        with_reducible rfl
      refine rg_pure (v := ?_) rfl (by kernel_rfl) (by kernel_rfl) (fun w hS hN => ?_) ?_
      rotate_left 1
      · clear hN
        go_simp
        try simp only [hq, i6, i7, f1, f4, f5]
        refine givesP_mk ?_
        with_reducible rfl
      refine rg_pure (v := ?_) rfl (by kernel_rfl) (by kernel_rfl) (fun w hS hN => ?_) ?_
      rotate_left 1
      · clear hN
        go_simp
        try simp only [hq, i6, i7, f1, f4, f5]
        refine givesP_mk ?_
        with_reducible rfl
      refine rg_pure (v := ?_) rfl (by kernel_rfl) (by kernel_rfl) (fun w hS hN => ?_) ?_
      rotate_left 1
      · have k1 := KS18.out w (HXZ.out.trans hS)
        clear hN
        go_simp
        try simp only [hq, i6, i7, f1, f4, f5]
        refine givesP_mk ?_
        with_reducible rfl
      refine rg_pure (v := ?_) rfl (by kernel_rfl) (by kernel_rfl) (fun w hS hN => ?_) ?_
      rotate_left 1
      · clear hN
        go_simp
        try simp only [hq, i6, i7, f1, f4, f5]
        refine givesP_mk ?_
        with_reducible rfl
      refine rg_pure (v := ?_) rfl (by kernel_rfl) (by kernel_rfl) (fun w hS hN => ?_) ?_
      rotate_left 1
      · clear hN
        go_simp
        try simp only [hq, i6, i7, f1, f4, f5]
        refine givesP_mk ?_
        with_reducible rfl
      refine rg_pure (v := ?_) rfl (by kernel_rfl) (by kernel_rfl) (fun w hS hN => ?_) ?_
      rotate_left 1
      · clear hN
        go_simp
        try simp only [hq, i6, i7, f1, f4, f5]
        refine givesP_mk ?_
        with_reducible rfl
      refine rg_pure (v := ?_) rfl (by kernel_rfl) (by kernel_rfl) (fun w hS hN => ?_) ?_
      rotate_left 1
      · clear hN
        go_simp
        try simp only [hq, i6, i7, f1, f4, f5]
        refine givesP_mk ?_
        with_reducible rfl
      refine rg_pure (v := ?_) rfl (by kernel_rfl) (by kernel_rfl) (fun w hS hN => ?_) ?_
      rotate_left 1
      · clear hN
        go_simp
        try simp only [hq, i6, i7, f1, f4, f5]
        refine givesP_mk ?_
        with_reducible rfl
      refine rg_pure (v := ?_) rfl (by kernel_rfl) (by kernel_rfl) (fun w hS hN => ?_) ?_
      rotate_left 1
      · have k1 := KT1.out w (HXZ.out.trans hS)
        clear hN
        go_simp
        try simp only [hq, i6, i7, f1, f4, f5]
        refine givesP_mk ?_
        with_reducible rfl
      refine rg_pure (v := ?_) rfl (by kernel_rfl) (by kernel_rfl) (fun w hS hN => ?_) ?_
      rotate_left 1
      · clear hN
        go_simp
        try simp only [hq, i6, i7, f1, f4, f5]
        refine givesP_mk ?_
        with_reducible rfl
      refine rg_pure (v := ?_) rfl (by kernel_rfl) (by kernel_rfl) (fun w hS hN => ?_) ?_
      rotate_left 1
      · clear hN
        go_simp
        try simp only [hq, i6, i7, f1, f4, f5]
        refine givesP_mk ?_
        with_reducible rfl
      refine rg_pure (v := ?_) rfl (by kernel_rfl) (by kernel_rfl) (fun w hS hN => ?_) ?_
      rotate_left 1
      · clear hN
        go_simp
        try simp only [hq, i6, i7, f1, f4, f5]
        refine givesP_mk ?_
        with_reducible rfl
      refine rg_pure (v := ?_) rfl (by kernel_rfl) (by kernel_rfl) (fun w hS hN => ?_) ?_
      rotate_left 1
      · clear hN
        go_simp
        try simp only [hq, i6, i7, f1, f4, f5]
        refine givesP_mk ?_
        with_reducible rfl
      refine rg_pure (v := ?_) rfl (by kernel_rfl) (by kernel_rfl) (fun w hS hN => ?_) ?_
      rotate_left 1
      · have k1 := KT29.out w (HXZ.out.trans hS)
        clear hN
        go_simp
        try simp only [hq, i6, i7, f1, f4, f5]
        refine givesP_mk ?_
        with_reducible rfl
      refine rg_pure (v := ?_) rfl (by kernel_rfl) (by kernel_rfl) (fun w hS hN => ?_) ?_
      rotate_left 1
      · clear hN
        go_simp
        try simp only [hq, i6, i7, f1, f4, f5]
        refine givesP_mk ?_
        with_reducible rfl
      refine rg_pure (v := ?_) rfl (by kernel_rfl) (by kernel_rfl) (fun w hS hN => ?_) ?_
      rotate_left 1
      · have k1 := KS1.out w (HXZ.out.trans hS)
        clear hN
        go_simp
        try simp only [hq, i6, i7, f1, f4, f5]
        refine givesP_mk ?_
        with_reducible rfl
      refine rg_pure (v := ?_) rfl (by kernel_rfl) (by kernel_rfl) (fun w hS hN => ?_) ?_
      rotate_left 1
      · clear hN
        go_simp
        try simp only [hq, i6, i7, f1, f4, f5]
        refine givesP_mk ?_
        with_reducible rfl
      refine rg_pure (v := ?_) rfl (by kernel_rfl) (by kernel_rfl) (fun w hS hN => ?_) ?_
      rotate_left 1
      · clear hN
        go_simp
        try simp only [hq, i6, i7, f1, f4, f5]
        refine givesP_mk ?_
        with_reducible rfl
      refine rg_pure (v := ?_) rfl (by kernel_rfl) (by kernel_rfl) (fun w hS hN => ?_) ?_
      rotate_left 1
      · clear hN
        go_simp
        try simp only [hq, i6, i7, f1, f4, f5]
        refine givesP_mk ?_
        with_reducible rfl
      refine rg_pure (v := ?_) rfl (by kernel_rfl) (by kernel_rfl) (fun w hS hN => ?_) ?_
      rotate_left 1
      · clear hN
        go_simp
        try simp only [hq, i6, i7, f1, f4, f5]
        refine givesP_mk ?_
        with_reducible rfl
      refine rg_pure (v := ?_) rfl (by kernel_rfl) (by kernel_rfl) (fun w hS hN => ?_) ?_
      rotate_left 1
      · have k1 := KS36.out w (HXZ.out.trans hS)
        clear hN
        go_simp
        try simp only [hq, i6, i7, f1, f4, f5]
        refine givesP_mk ?_
        with_reducible rfl
      refine rg_pure (v := ?_) rfl (by kernel_rfl) (by kernel_rfl) (fun w hS hN => ?_) ?_
      rotate_left 1
      · clear hN
        go_simp
        try simp only [hq, i6, i7, f1, f4, f5]
        refine givesP_mk ?_
        with_reducible rfl
      refine rg_pure (v := ?_) rfl (by kernel_rfl) (by kernel_rfl) (fun w hS hN => ?_) ?_
      rotate_left 1
      · clear hN
        go_simp
        try simp only [hq, i6, i7, f1, f4, f5]
        refine givesP_mk ?_
        with_reducible rfl
      refine rg_pure (v := ?_) rfl (by kernel_rfl) (by kernel_rfl) (fun w hS hN => ?_) ?_
      rotate_left 1
      · clear hN
        go_simp
        try simp only [hq, i6, i7, f1, f4, f5]
        refine givesP_mk ?_
        with_reducible rfl
      refine rg_pure (v := ?_) rfl (by kernel_rfl) (by kernel_rfl) (fun w hS hN => ?_) ?_
      rotate_left 1
      · clear hN
        go_simp
        try simp only [hq, i6, i7, f1, f4, f5]
        refine givesP_mk ?_
        with_reducible rfl
      refine rg_done rfl (Nat.le_of_ble_eq_true (by kernel_rfl)) ?_
      intro w8 hS hT
      have HX8 := Lib.hid (HX1.out.trans (HX4.out.trans (X9.out.trans (HXZ.out.trans hS))))
      clear hT hS hq
      go_simp
      go_wp2
      go_ret
      exact ⟨rfl, HX8.out⟩
  · have n0 : (vc != (i : Int) + 1) = true := by simp [hvp]
    have HVP := Lib.hid hvp
    clear hvp
    go_upto_region 6 with fail
    clear n0
    have HLD6 := Lib.hid (X6.out.blk HLD.out)
    have K6 := Lib.hid (HK4.out.ext X6.out)
    go_wp2_with (refine wpList_load_rowW (by rfl) 32 _ rfl W0 (by go_simp) (stL h s) (stV h s) rfl _ (range_row HLD6.out) Try.underlying32 rfl (by kernel_rfl) ?_)
    refine (rQueue_any h s vc _ HQV.out w6 K6.out HF.out).mono ?_
    rintro e w9 ⟨A9, c9, rfl, -, hx9⟩
    have X9 : Hid (Ext w4 w9) := Lib.hid (X6.out.trans hx9)
    have BT9 := Lib.hid (hx9.blk BT6.out)
    have KT9 := Lib.hid (KT6.out.ext hx9)
    have HLD9 := Lib.hid (X9.out.blk HLD.out)
    have K9 := Lib.hid (HK4.out.ext X9.out)
    clear hx9
    have f2 : IntKind.i64.wrap ((Q.length : Int) + (s.glob.length : Int) + (QV.length : Int)) = (Q.length : Int) + (s.glob.length : Int) + (QV.length : Int) := IntWalk.i64_in _ (by have := HQL.out; omega)
    go_upto_region 7 with fail
    clear f2
    obtain ⟨N, hN⟩ : ∃ N, (Q.length : Int) + (s.glob.length : Int) + (QV.length : Int) = N := ⟨_, rfl⟩
    rw [hN]
    have HNN : Hid (decide ((0 : Int) < N) = decide (g ≠ 0)) := Lib.hid (by have := HTH.out; rw [if_pos HVP.out] at this; exact Bool.eq_iff_iff.2 (by simp only [decide_eq_true_eq]; constructor <;> intro hh <;> first | (rw [this]; omega) | (have := this.1 hh; omega)))
    clear hN
    by_cases h0 : g = 0
    · have n1 : decide ((0 : Int) < N) = false := by rw [HNN.out]; simp [h0]
      have HTS : Hid (s = tS) := Lib.hid (HZ.out h0).symm
      rw [h0]
      clear h0
      go_upto_region 9 with fail
      go_upto_region 10 with fail
      clear n1
      go_wp2_with (first | (refine wpList_load_rowW (by rfl) 32 _ rfl W0 ?hx (stL h s) (stV h s) rfl _ (range_row HLD9.out) Try.underlying32 rfl (by kernel_rfl) ?_; case hx => go_simp) | (refine wpList_load_rowW (by rfl) 32 _ rfl B5 ?hx (stL h5 tS) (stV h5 tS) rfl _ (range_row BT9.out) Try.underlying32 rfl (by kernel_rfl) ?_; case hx => go_simp))
      refine (rstsame_any h h5 s tS true (by rw [← HTS.out]; simp) w9 K9.out KT9.out HF.out (St.small_timers HSM.out)).mono ?_
      rintro e w10 ⟨rfl, hx10⟩
      have HX10 := Lib.hid (HX1.out.trans (HX4.out.trans (X9.out.trans hx10)))
      clear hx10
      go_wp2
      go_ret
      exact ⟨rfl, HX10.out⟩
    · have n1 : decide ((0 : Int) < N) = true := by rw [HNN.out]; simp [h0]
      obtain ⟨k, y, hgk, hy, hst, hmay, hgl, hta, hpl⟩ := HRAN.out h0
      subst hgk
      have HMY := Lib.hid hmay
      have HPL := Lib.hid hpl
      have HGL5 := Lib.hid hgl
      have HKL : Hid (k < s.gs.length ∧ s.gs.length ≤ 100000) := Lib.hid ⟨(List.getElem?_eq_some_iff.1 hy).1, HF.out.gs⟩
      have HSQ : Hid (0 ≤ y.seq ∧ y.seq < 2305843009213693951) := Lib.hid ⟨(St.may_seq HID.out.may hy).1, St.small_seqs HSM.out y (List.mem_of_getElem? hy)⟩
      obtain ⟨bg, og, hga, hgb, e0, e1, e2, e3, e4⟩ := gs_get K9.out.gs hy
      obtain ⟨bt, ot, hta1, htb, d0, d1, d2, d3, d4⟩ := gs_get KT9.out.gs hta
      obtain ⟨bq, oq, hqa, hqb, hqc⟩ := K9.out.ps.get HID.out.at_
      have hq0 := hqc 0 _ rfl
      rw [Nat.add_zero] at hq0
      have KS6 : Hid (∀ v, Ext w9 v → v.cell? ⟨bg, og + k * 5 + 2, none⟩ = some (.int .i64 1)) := Lib.hid fun v hv => by rw [Below.cell (p := ⟨bg, og + k * 5 + 2, none⟩) hv hgb, e2, hst]
      have KS36 : Hid (∀ v, Ext w9 v → v.cell? ⟨bg, og + k * 5 + 4, none⟩ = some (.int .i64 y.seq)) := Lib.hid fun v hv => by rw [Below.cell (p := ⟨bg, og + k * 5 + 4, none⟩) hv hgb, e4]
      have KT29 : Hid (∀ v, Ext w9 v → v.cell? ⟨bt, ot + k * 5 + 4, none⟩ = some (.int .i64 (y.seq + 1))) := Lib.hid fun v hv => by rw [Below.cell (p := ⟨bt, ot + k * 5 + 4, none⟩) hv htb]; exact d4
      have KS18 : Hid (∀ v, Ext w9 v → v.cell? ⟨bq, oq + i * 13, none⟩ = some (.int .i64 ((j : Int) + 1))) := Lib.hid fun v hv => by rw [Below.cell (p := ⟨bq, oq + i * 13, none⟩) hv hqb, hq0, HID.out.m]
      have KS1 : Hid (∀ v, Ext w9 v → v.cell? ⟨W0, 1, none⟩ = some (.slice (some ⟨bg, og, none⟩) s.gs.length h.gc)) := Lib.hid fun v hv => by have := st1 (hv.blk HLD9.out); rw [hga] at this; exact this
      have KS2 : Hid (∀ v, Ext w9 v → v.cell? ⟨W0, 2, none⟩ = some (.slice (some ⟨bq, oq, none⟩) s.ps.length h.qc)) := Lib.hid fun v hv => by have := st2 (hv.blk HLD9.out); rw [hqa] at this; exact this
      have KT1 : Hid (∀ v, Ext w9 v → v.cell? ⟨B5, 1, none⟩ = some (.slice (some ⟨bt, ot, none⟩) s.gs.length h5.gc)) := Lib.hid fun v hv => by have := st1 (hv.blk BT9.out); rw [hta1, hgl] at this; exact this
      clear hga hgb e0 e1 e2 e3 e4 hta1 htb d0 d1 d2 d3 d4 hqa hqb hqc hq0 hy hst hmay hgl hta hpl
      have g0 : ((k : Int) + 1 == 0) = false := by simp; omega
      have g1 : ((k : Int) + 1 != 0) = true := by simp; omega
      have g2 : decide ((k : Int) + 1 < 1) = false := decide_eq_false (by omega)
      have g3 : decide ((s.gs.length : Int) < (k : Int) + 1) = false := decide_eq_false (by have := HKL.out; omega)
      have q1 := KS1.out w9 (Ext.refl _)
      clear h0
      go_upto_region 9 with fail
      go_upto_region 11 with fail
      clear n1 g0 g1
      go_wp2_with (refine wpList_load_rowW (by rfl) 32 _ rfl B5 (by go_simp) (stL h5 tS) (stV h5 tS) rfl _ (range_row BT9.out) Try.underlying32 rfl (by kernel_rfl) ?_)
      refine (rstmay_any h5 tS true HMY.out w9 KT9.out HGD5.out.few).mono ?_
      rintro e wz ⟨rfl, hxz⟩
      have HXZ := Lib.hid hxz
      clear hxz q1
      have q1 := KS1.out wz HXZ.out
      have q2 := KT1.out wz HXZ.out
      go_upto_region 13 with fail
      clear q1 q2 g2 g3
      have HLDZ := Lib.hid (HXZ.out.blk HLD9.out)
      have BTZ := Lib.hid (HXZ.out.blk BT9.out)
      have KTZ := Lib.hid (KT9.out.ext HXZ.out)
      have f1 : (k : Int) + 1 - 1 = (k : Int) := by omega
      have f2 : (k : Int) < (s.gs.length : Int) := by have := HKL.out; omega
      have f3 : (k : Int) < 100000 := by have := HKL.out; omega
      have f4 : IntKind.i64.wrap (k : Int) = (k : Int) := IntWalk.i64_in _ (by omega)
      have f5 : IntKind.i64.wrap (y.seq + 1) = y.seq + 1 := IntWalk.i64_in _ (by have := HSQ.out; omega)
      have i4 : (i : Int) < (s.ps.length : Int) := by have := (List.getElem?_eq_some_iff.1 HID.out.at_).1; omega
      have i5 : (i : Int) < 100000 := by have := HF.out.ps; omega
      have i6 : (i : Int) + 1 - 1 = (i : Int) := by omega
      have i7 : IntKind.i64.wrap (i : Int) = (i : Int) := IntWalk.i64_in _ (by omega)
      have hq : ∀ w, (Op.equalIn 10000 52 (.agg #[.int .i64 4, .int .i64 ((j : Int) + 1)]) (.agg #[.int .i64 4, .int .i64 ((j : Int) + 1)])).run Try.prog w = .ok true w := fun w => by rw [run_eqPlace, decide_eq_true rfl]
      refine region_rgx ([(11, (fun u => u = .agg #[.int .i64 4, .int .i64 ((j : Int) + 1)] : Value → Prop), (fun _ _ => True : (Nat → GV) → World → Prop))]) (wz) (by kernel_rfl) (by kernel_rfl) ?_ ?_ ?_
      · exact List.forall_mem_cons.2 ⟨⟨⟨_, rfl⟩, fun _ _ _ _ _ => trivial, fun _ _ _ _ _ => trivial⟩, List.forall_mem_nil _⟩
      · first | assumption | exact Ext.refl _
      refine rg_pure (v := ?_) rfl (by kernel_rfl) (by kernel_rfl) (fun w hS hN => ?_) ?_
      rotate_left 1
      · clear hN
        go_simp
        try simp only [hq, i6, i7, f1, f4, f5]
        refine givesP_mk ?_
        with_reducible rfl
      refine rg_pure (v := ?_) rfl (by kernel_rfl) (by kernel_rfl) (fun w hS hN => ?_) ?_
      rotate_left 1
      · have k1 := KS1.out w (HXZ.out.trans hS)
        clear hN
        go_simp
        try simp only [hq, i6, i7, f1, f4, f5]
        refine givesP_mk ?_
        with_reducible rfl
      refine rg_pure (v := ?_) rfl (by kernel_rfl) (by kernel_rfl) (fun w hS hN => ?_) ?_
      rotate_left 1
      · clear hN
        go_simp
        try simp only [hq, i6, i7, f1, f4, f5]
        refine givesP_mk ?_
        with_reducible rfl
      refine rg_pure (v := ?_) rfl (by kernel_rfl) (by kernel_rfl) (fun w hS hN => ?_) ?_
      rotate_left 1
      · clear hN
        go_simp
        try simp only [hq, i6, i7, f1, f4, f5]
        refine givesP_mk ?_
        with_reducible rfl
      refine rg_pure (v := ?_) rfl (by kernel_rfl) (by kernel_rfl) (fun w hS hN => ?_) ?_
      rotate_left 1
      · clear hN
        go_simp
        try simp only [hq, i6, i7, f1, f4, f5]
        refine givesP_mk ?_
        with_reducible rfl
      refine rg_pure (v := ?_) rfl (by kernel_rfl) (by kernel_rfl) (fun w hS hN => ?_) ?_
      rotate_left 1
      · clear hN
        go_simp
        try simp only [hq, i6, i7, f1, f4, f5]
        refine givesP_mk ?_
        with_reducible rfl
      refine rg_pure (v := ?_) rfl (by kernel_rfl) (by kernel_rfl) (fun w hS hN => ?_) ?_
      rotate_left 1
      · have k1 := KS6.out w (HXZ.out.trans hS)
        clear hN
        go_simp
        try simp only [hq, i6, i7, f1, f4, f5]
        refine givesP_mk ?_
        with_reducible rfl
      refine rg_pure (v := ?_) rfl (by kernel_rfl) (by kernel_rfl) (fun w hS hN => ?_) ?_
      rotate_left 1
      · clear hN
        go_simp
        try simp only [hq, i6, i7, f1, f4, f5]
        refine givesP_mk ?_
        with_reducible rfl
      refine rg_pure (v := ?_) rfl (by kernel_rfl) (by kernel_rfl) (fun w hS hN => ?_) ?_
      rotate_left 1
      · clear hN
        go_simp
        try simp only [hq, i6, i7, f1, f4, f5]
        refine givesP_mk ?_
        with_reducible rfl
      refine rg_pure (v := stV h5 tS) rfl (by kernel_rfl) (by kernel_rfl) (fun w hS hN => ?_) ?_
      · clear hN
        exact givesP_load 32 _ rfl _ (by go_simp) (stL h5 tS) _ rfl _ (range_row (hS.blk BTZ.out)) Try.underlying32 rfl (by kernel_rfl)
      refine rg_pure (v := ?_) rfl (by kernel_rfl) (by kernel_rfl) (fun w hS hN => ?_) ?_
      rotate_left 1
      · clear hN
        go_simp
        try simp only [hq, i6, i7, f1, f4, f5]
        refine givesP_mk ?_
        with_reducible rfl
      refine rg_mem (fun u => u = .agg #[.int .i64 4, .int .i64 ((j : Int) + 1)] : Value → Prop) (fun _ _ => True : (Nat → GV) → World → Prop) (fun _ => Ext) rfl rfl rfl rfl (by kernel_rfl) (by kernel_rfl) (fun w hS hN R hR => ?_) ?_
      · have HR := Lib.hid hR
        clear hR
        (try clear hN)
        go_simp
        refine givesM_call ((rPlace_any h5 tS _ _ HPL.out w (KTZ.out.ext hS) HGD5.out.few).mono ?_)
        rintro e w' ⟨rfl, hx⟩
        exact ⟨_, rfl, HR.out _ _ rfl trivial hx⟩
      rintro u2 s2 t2 rfl
      refine rg_pure (v := ?_) rfl (by kernel_rfl) (by kernel_rfl) (fun w hS hN => ?_) ?_
      rotate_left 1
      · clear hN
        go_simp
        try simp only [hq, i6, i7, f1, f4, f5]
        refine givesP_mk ?_
        with_reducible rfl
      refine rg_pure (v := ?_) rfl (by kernel_rfl) (by kernel_rfl) (fun w hS hN => ?_) ?_
      rotate_left 1
      · have k1 := KS2.out w (HXZ.out.trans hS)
        clear hN
        go_simp
        try simp only [hq, i6, i7, f1, f4, f5]
        refine givesP_mk ?_
        with_reducible rfl
      refine rg_pure (v := ?_) rfl (by kernel_rfl) (by kernel_rfl) (fun w hS hN => ?_) ?_
      rotate_left 1
      · clear hN
        go_simp
        try simp only [hq, i6, i7, f1, f4, f5]
        refine givesP_mk ?_
        with_reducible rfl
      refine rg_pure (v := ?_) rfl (by kernel_rfl) (by kernel_rfl) (fun w hS hN => ?_) ?_
      rotate_left 1
      · clear hN
        go_simp
        try simp only [hq, i6, i7, f1, f4, f5]
        refine givesP_mk ?_
        with_reducible rfl
      refine rg_pure (v := ?_) rfl (by kernel_rfl) (by kernel_rfl) (fun w hS hN => ?_) ?_
      rotate_left 1
      · clear hN
        go_simp
        try simp only [hq, i6, i7, f1, f4, f5]
        refine givesP_mk ?_
        with_reducible rfl
      refine rg_pure (v := ?_) rfl (by kernel_rfl) (by kernel_rfl) (fun w hS hN => ?_) ?_
      rotate_left 1
      · clear hN
        go_simp
        try simp only [hq, i6, i7, f1, f4, f5]
        refine givesP_mk ?_
        with_reducible rfl
      refine rg_pure (v := ?_) rfl (by kernel_rfl) (by kernel_rfl) (fun w hS hN => ?_) ?_
      rotate_left 1
      · have k1 := KS18.out w (HXZ.out.trans hS)
        clear hN
        go_simp
        try simp only [hq, i6, i7, f1, f4, f5]
        refine givesP_mk ?_
        with_reducible rfl
      refine rg_pure (v := ?_) rfl (by kernel_rfl) (by kernel_rfl) (fun w hS hN => ?_) ?_
      rotate_left 1
      · clear hN
        go_simp
        try simp only [hq, i6, i7, f1, f4, f5]
        refine givesP_mk ?_
        with_reducible rfl
      refine rg_pure (v := ?_) rfl (by kernel_rfl) (by kernel_rfl) (fun w hS hN => ?_) ?_
      rotate_left 1
      · clear hN
        go_simp
        try simp only [hq, i6, i7, f1, f4, f5]
        refine givesP_mk ?_
        with_reducible rfl
      refine rg_pure (v := ?_) rfl (by kernel_rfl) (by kernel_rfl) (fun w hS hN => ?_) ?_
      rotate_left 1
      · clear hN
        go_simp
        try simp only [hq, i6, i7, f1, f4, f5]
        refine givesP_mk ?_
        with_reducible rfl
      refine rg_pure (v := ?_) rfl (by kernel_rfl) (by kernel_rfl) (fun w hS hN => ?_) ?_
      rotate_left 1
      · clear hN
        go_simp
        try simp only [hq, i6, i7, f1, f4, f5]
        refine givesP_mk ?_
        with_reducible rfl
      refine rg_pure (v := ?_) rfl (by kernel_rfl) (by kernel_rfl) (fun w hS hN => ?_) ?_
      rotate_left 1
      · clear hN
        go_simp
        try simp only [hq, i6, i7, f1, f4, f5]
        refine givesP_mk ?_
        with_reducible rfl
      refine rg_pure (v := ?_) rfl (by kernel_rfl) (by kernel_rfl) (fun w hS hN => ?_) ?_
      rotate_left 1
      · have k1 := KT1.out w (HXZ.out.trans hS)
        clear hN
        go_simp
        try simp only [hq, i6, i7, f1, f4, f5]
        refine givesP_mk ?_
        with_reducible rfl
      refine rg_pure (v := ?_) rfl (by kernel_rfl) (by kernel_rfl) (fun w hS hN => ?_) ?_
      rotate_left 1
      · clear hN
        go_simp
        try simp only [hq, i6, i7, f1, f4, f5]
        refine givesP_mk ?_
        with_reducible rfl
      refine rg_pure (v := ?_) rfl (by kernel_rfl) (by kernel_rfl) (fun w hS hN => ?_) ?_
      rotate_left 1
      · clear hN
        go_simp
        try simp only [hq, i6, i7, f1, f4, f5]
        refine givesP_mk ?_
        with_reducible rfl
      refine rg_pure (v := ?_) rfl (by kernel_rfl) (by kernel_rfl) (fun w hS hN => ?_) ?_
      rotate_left 1
      · clear hN
        go_simp
        try simp only [hq, i6, i7, f1, f4, f5]
        refine givesP_mk ?_
        with_reducible rfl
      refine rg_pure (v := ?_) rfl (by kernel_rfl) (by kernel_rfl) (fun w hS hN => ?_) ?_
      rotate_left 1
      · clear hN
        go_simp
        try simp only [hq, i6, i7, f1, f4, f5]
        refine givesP_mk ?_
        with_reducible rfl
      refine rg_pure (v := ?_) rfl (by kernel_rfl) (by kernel_rfl) (fun w hS hN => ?_) ?_
      rotate_left 1
      · have k1 := KT29.out w (HXZ.out.trans hS)
        clear hN
        go_simp
        try simp only [hq, i6, i7, f1, f4, f5]
        refine givesP_mk ?_
        with_reducible rfl
      refine rg_pure (v := ?_) rfl (by kernel_rfl) (by kernel_rfl) (fun w hS hN => ?_) ?_
      rotate_left 1
      · clear hN
        go_simp
        try simp only [hq, i6, i7, f1, f4, f5]
        refine givesP_mk ?_
        with_reducible rfl
      refine rg_pure (v := ?_) rfl (by kernel_rfl) (by kernel_rfl) (fun w hS hN => ?_) ?_
      rotate_left 1
      · have k1 := KS1.out w (HXZ.out.trans hS)
        clear hN
        go_simp
        try simp only [hq, i6, i7, f1, f4, f5]
        refine givesP_mk ?_
        with_reducible rfl
      refine rg_pure (v := ?_) rfl (by kernel_rfl) (by kernel_rfl) (fun w hS hN => ?_) ?_
      rotate_left 1
      · clear hN
        go_simp
        try simp only [hq, i6, i7, f1, f4, f5]
        refine givesP_mk ?_
        with_reducible rfl
      refine rg_pure (v := ?_) rfl (by kernel_rfl) (by kernel_rfl) (fun w hS hN => ?_) ?_
      rotate_left 1
      · clear hN
        go_simp
        try simp only [hq, i6, i7, f1, f4, f5]
        refine givesP_mk ?_
        with_reducible rfl
      refine rg_pure (v := ?_) rfl (by kernel_rfl) (by kernel_rfl) (fun w hS hN => ?_) ?_
      rotate_left 1
      · clear hN
        go_simp
        try simp only [hq, i6, i7, f1, f4, f5]
        refine givesP_mk ?_
        with_reducible rfl
      refine rg_pure (v := ?_) rfl (by kernel_rfl) (by kernel_rfl) (fun w hS hN => ?_) ?_
      rotate_left 1
      · clear hN
        go_simp
        try simp only [hq, i6, i7, f1, f4, f5]
        refine givesP_mk ?_
        with_reducible rfl
      refine rg_pure (v := ?_) rfl (by kernel_rfl) (by kernel_rfl) (fun w hS hN => ?_) ?_
      rotate_left 1
      · have k1 := KS36.out w (HXZ.out.trans hS)
        clear hN
        go_simp
        try simp only [hq, i6, i7, f1, f4, f5]
        refine givesP_mk ?_
        with_reducible rfl
      refine rg_pure (v := ?_) rfl (by kernel_rfl) (by kernel_rfl) (fun w hS hN => ?_) ?_
      rotate_left 1
      · clear hN
        go_simp
        try simp only [hq, i6, i7, f1, f4, f5]
        refine givesP_mk ?_
        with_reducible rfl
      refine rg_pure (v := ?_) rfl (by kernel_rfl) (by kernel_rfl) (fun w hS hN => ?_) ?_
      rotate_left 1
      · clear hN
        go_simp
        try simp only [hq, i6, i7, f1, f4, f5]
        refine givesP_mk ?_
        with_reducible rfl
      refine rg_pure (v := ?_) rfl (by kernel_rfl) (by kernel_rfl) (fun w hS hN => ?_) ?_
      rotate_left 1
      · clear hN
        go_simp
        try simp only [hq, i6, i7, f1, f4, f5]
        refine givesP_mk ?_
        with_reducible rfl
      refine rg_pure (v := ?_) rfl (by kernel_rfl) (by kernel_rfl) (fun w hS hN => ?_) ?_
      rotate_left 1
      · clear hN
        go_simp
        try simp only [hq, i6, i7, f1, f4, f5]
        refine givesP_mk ?_
        with_reducible rfl
      refine rg_done rfl (Nat.le_of_ble_eq_true (by kernel_rfl)) ?_
      intro w8 hS hT
      have HX8 := Lib.hid (HX1.out.trans (HX4.out.trans (X9.out.trans (HXZ.out.trans hS))))
      clear hT hS hq
      go_simp
      go_wp2
      go_ret
      exact ⟨rfl, HX8.out⟩
end Go.Proofs.Ytogcfndhcphpaaa
