/-
  The walk of the statement StateQueues.
-/
import Derived.Test.YtbcclhahpcbadaaQTzl
set_option linter.unusedVariables false
set_option linter.unusedSimpArgs false
namespace Go.Proofs.Ytbcclhahpcbadaa
open Go.RowKit

theorem sum_count (n : Nat) : ∀ l : List Int, (∀ x ∈ l, 1 ≤ x ∧ x ≤ (n : Int)) → ((List.range n).map fun i : Nat => l.count ((i : Int) + 1)).sum = l.length
  | [], _ => by
    have key : ∀ m : Nat, ((List.range m).map fun i : Nat => ([] : List Int).count ((i : Int) + 1)).sum = 0 := by
      intro m
      induction m with
      | zero => rfl
      | succ m ih => rw [List.range_succ, List.map_append, List.sum_append, ih]; simp
    exact key n
  | x :: l, h => by
    have ih := sum_count n l fun y hy => h y (by simp [hy])
    obtain ⟨h1, h2⟩ := h x (by simp)
    rw [List.length_cons, ← ih]
    have key : ∀ m : Nat, ((List.range m).map fun i : Nat => (x :: l).count ((i : Int) + 1)).sum = ((List.range m).map fun i : Nat => l.count ((i : Int) + 1)).sum + if x ≤ (m : Int) then 1 else 0 := by
      intro m
      induction m with
      | zero => simp; omega
      | succ m ihm =>
        rw [List.range_succ, List.map_append, List.sum_append, List.map_append, List.sum_append, ihm]
        simp only [List.map_cons, List.map_nil, List.sum_cons, List.sum_nil, List.count_cons]
        by_cases hx : x ≤ (m : Int)
        · have h3 : (x == (m : Int) + 1) = false := by simp; omega
          have h4 : x ≤ ((m + 1 : Nat) : Int) := by omega
          simp only [h3, hx, h4, if_true, Bool.false_eq_true, if_false]; omega
        · by_cases he : x = (m : Int) + 1
          · have h3 : (x == (m : Int) + 1) = true := by simpa using he
            have h4 : x ≤ ((m + 1 : Nat) : Int) := by omega
            simp only [h3, hx, h4, if_true, if_false]; omega
          · have h3 : (x == (m : Int) + 1) = false := by simpa using he
            have h4 : ¬ x ≤ ((m + 1 : Nat) : Int) := by omega
            simp only [h3, hx, h4, Bool.false_eq_true, if_false]; omega
    rw [key n, if_pos h2]
theorem sum_want (gs : List Gr) (f : Nat → Nat) (h : ∀ (i : Nat) g, gs[i]? = some g → f i = if g.st = 1 then 1 else 0) : ((List.range gs.length).map f).sum = gs.countP fun g => g.st == 1 := by
  have key : ∀ m, m ≤ gs.length → ((List.range m).map f).sum = (gs.take m).countP fun g => g.st == 1 := by
    intro m
    induction m with
    | zero => intro _; rfl
    | succ m ih =>
      intro hm
      have hg : gs[m]? = some gs[m] := List.getElem?_eq_getElem (by omega)
      rw [List.range_succ, List.map_append, List.sum_append, ih (by omega), take_next hg, List.countP_append]
      have := h m _ hg
      simp only [List.map_cons, List.map_nil, List.sum_cons, List.sum_nil, List.countP_cons, List.countP_nil, this]
      by_cases hs : gs[m].st = 1
      · simp [hs]
      · simp [hs]
  have := key gs.length (Nat.le_refl _)
  rwa [List.take_length] at this
theorem St.may_parts {s : St} (h : s.may = true) : s.whole = true ∧ s.goods = true ∧ s.holds = true ∧ s.counts = true ∧ s.allIn = true ∧ ∀ (j : Nat) g, s.gs[j]? = some g → s.stands j g = true := by
  have h0 := h
  unfold St.may at h
  simp only [Bool.and_eq_true] at h
  obtain ⟨⟨⟨⟨⟨h1, h2⟩, h3⟩, h4⟩, h5⟩, h6⟩ := h
  exact ⟨h1, h2, h3, h4, h5, fun j g hg => St.may_stands h0 hg⟩
theorem St.stands_times {s : St} {j : Nat} {g : Gr} (h : s.stands j g = true) : St.times s.runs ((j : Int) + 1) = St.want g.st 1 ∧ St.times (s.onM true) ((j : Int) + 1) = St.want g.st 2 ∧ St.times s.waiters ((j : Int) + 1) = St.want g.st 3 ∧ St.times (s.onM false) ((j : Int) + 1) = St.want g.st 4 := by
  unfold St.stands at h
  rw [Bool.and_eq_true, Bool.and_eq_true, decide_eq_true_eq, decide_eq_true_eq] at h
  exact h.1.2
theorem St.may_holdP {s : St} (h : s.may = true) {j : Nat} {p : Pr} (hp : s.ps[j]? = some p) : s.holdP j p = true := by
  have := (St.may_parts h).2.2.1
  unfold St.holds at this
  rw [Bool.and_eq_true] at this
  have := allIx_iff.1 this.1 j p hp
  rwa [Nat.zero_add] at this
/-- A P that is there no more has no queue. -/
theorem St.may_empty {s : St} (h : s.may = true) {j : Nat} {p : Pr} (hp : s.ps[j]? = some p) (hj : s.procs ≤ j) : St.queueOf p = [] := by
  have := St.may_holdP h hp
  unfold St.holdP at this
  simp only [Bool.and_eq_true, Bool.not_eq_true', Bool.and_eq_false_iff, Bool.or_eq_false_iff, decide_eq_true_eq, decide_eq_false_iff_not] at this
  obtain ⟨⟨⟨⟨hr, -⟩, -⟩, -⟩, hh⟩ := this
  rcases hh with hh | hh
  · exact absurd hj hh
  · unfold St.queueOf
    rw [if_neg (by simpa using hh.1.2), List.nil_append]
    unfold Ri.list
    rw [if_pos hr]
    have hi : p.ring.inside = true := by unfold Ri.may at hr; rw [Bool.and_eq_true] at hr; exact hr.1
    have h0 := (Ri.inside_iff p.ring).1 hi
    have : p.ring.n = 0 := by have := hh.2; omega
    rw [this]
    rfl
theorem St.runs_count {s : St} (h : s.may = true) : s.runs.length = s.gs.countP fun g => g.st == 1 := by
  obtain ⟨-, -, -, -, h5, h6⟩ := St.may_parts h
  unfold St.allIn at h5
  simp only [Bool.and_eq_true, St.within_iff] at h5
  rw [← sum_count s.gs.length s.runs h5.1.1.1, ← sum_want s.gs _ fun i g hg => (St.stands_times (h6 i g hg)).1]
  rfl
theorem St.runs_take {s : St} (h : s.may = true) (k : Nat) (hk : s.procs = k) : (s.ps.take k).flatMap St.queueOf = s.ps.flatMap St.queueOf := by
  have e : s.ps.flatMap St.queueOf = (s.ps.take k).flatMap St.queueOf ++ (s.ps.drop k).flatMap St.queueOf := by rw [← List.flatMap_append, List.take_append_drop]
  have hz : (s.ps.drop k).flatMap St.queueOf = [] := by
    rw [List.flatMap_eq_nil_iff]
    intro p hp
    obtain ⟨j, hj⟩ := List.mem_iff_getElem?.1 hp
    rw [List.getElem?_drop] at hj
    exact St.may_empty h hj (by omega)
  rw [e, hz, List.append_nil]
/-- As many as can run stand in the queues of the Ps that are there, and in the global one. -/
theorem St.queues_sum {s : St} (h : s.may = true) (k : Nat) (hk : s.procs = k) : s.glob.length + ((s.ps.take k).flatMap St.queueOf).length = s.gs.countP fun g => g.st == 1 := by
  rw [← St.runs_count h, St.runs_take h k hk]
  unfold St.runs
  rw [List.length_append]
  omega
set_option maxRecDepth 100000 in
set_option maxHeartbeats 16000000 in
theorem walk_StateQueues (h : StH) (s : St) (w : World) (hk : StOk w h s) (hi : StIn s) : Calls Try.prog 7 #[stV h s] w fun e w' => e = .returned (.bool true) ∧ Ext w w' := by
  have HI := Lib.hid hi
  have HK := Lib.hid hk
  obtain ⟨w1, hw1⟩ : ∃ w1, w.alloc (.cells #[.slice h.pa s.prog.length h.pc, .slice h.ga s.gs.length h.gc, .slice h.qa s.ps.length h.qc, .slice h.ma s.ms.length h.mc, .slice h.la s.glob.length h.lc, .int .i64 s.c0, .int .i64 s.c1, .int .i64 s.c2, .int .i64 s.c3, .slice h.a0 s.w0.length h.k0, .slice h.a1 s.w1.length h.k1, .slice h.a2 s.w2.length h.k2, .slice h.a3 s.w3.length h.k3, .slice h.ta s.timers.length h.tc, .int .i64 s.clock, .int .i64 s.procs] 32) = w1 := ⟨_, rfl⟩
  have HX1 : Hid (Ext w w1) := Lib.hid (by rw [← hw1]; exact (Ext.refl w).alloc _)
  have HB1 : Hid (w1.heap[w.heap.size]? = some (.cells (stC h s) 32 (0, 0))) := Lib.hid (by rw [← hw1]; exact blk_new w _)
  have HK1 := Lib.hid (hk.ext HX1.out)
  have HW1 := Lib.hid hw1
  clear hw1 hk
  clear hi
  unfold stV
  go_enter Try.func7, Try.ntmps7
  go_upto_region 1 with fail
  rw [HW1.out]
  generalize Value.agg #[.slice h.pa s.prog.length h.pc, .slice h.ga s.gs.length h.gc, .slice h.qa s.ps.length h.qc, .slice h.ma s.ms.length h.mc, .slice h.la s.glob.length h.lc, .int .i64 s.c0, .int .i64 s.c1, .int .i64 s.c2, .int .i64 s.c3, .slice h.a0 s.w0.length h.k0, .slice h.a1 s.w1.length h.k1, .slice h.a2 s.w2.length h.k2, .slice h.a3 s.w3.length h.k3, .slice h.ta s.timers.length h.tc, .int .i64 s.clock, .int .i64 s.procs] = sv0
  go_wp2_with fail
  refine (tfixed_yes w1).mono ?_
  rintro e w2 ⟨rfl, hx2⟩
  have HX2 := Lib.hid hx2
  have HLD := Lib.hid (hx2.blk HB1.out)
  clear hx2
  go_wp2_with (refine wpList_load_rowW rfl 32 _ rfl w.heap.size rfl (stL h s) (stV h s) rfl _ (range_row HLD.out) Try.underlying32 rfl (by kernel_rfl) ?_)
  refine (rstsmall_any h s _ rfl w2 (HK1.out.ext HX2.out) HI.out).mono ?_
  rintro e w3 ⟨rfl, hx3⟩
  have HX3 := Lib.hid (HX2.out.trans hx3)
  clear hx3 HLD
  cases bs : s.small with
  | false =>
    go_wp2_with fail
    refine (tfixed_yes _).mono ?_
    rintro e w4 ⟨rfl, hx4⟩
    have HX4 := Lib.hid (HX1.out.trans (HX3.out.trans hx4))
    clear hx4
    go_wp2
    go_ret
    exact ⟨rfl, HX4.out⟩
  | true =>
  have HF := Lib.hid (St.small_few bs HI.out)
  have HLD := Lib.hid (HX3.out.blk HB1.out)
  clear bs
  go_wp2_with (refine wpList_load_rowW rfl 32 _ rfl w.heap.size rfl (stL h s) (stV h s) rfl _ (range_row HLD.out) Try.underlying32 rfl (by kernel_rfl) ?_)
  refine (sstmay_any h s _ rfl w3 (HK1.out.ext HX3.out) HF.out).mono ?_
  rintro e w4 ⟨rfl, hx4⟩
  have HX4 := Lib.hid (HX3.out.trans hx4)
  clear hx4 HLD
  cases bm : s.may with
  | false =>
    go_wp2_with fail
    refine (tfixed_yes _).mono ?_
    rintro e w5 ⟨rfl, hx5⟩
    have HX5 := Lib.hid (HX1.out.trans (HX4.out.trans hx5))
    clear hx5
    go_wp2
    go_ret
    exact ⟨rfl, HX5.out⟩
  | true =>
  have HM := Lib.hid bm
  obtain ⟨k0, hk0⟩ : ∃ k0 : Nat, s.procs = k0 := ⟨s.procs.toNat, by have := St.may_procs bm; omega⟩
  have hk8 : (k0 : Int) ≤ 8 := by have := St.may_procs bm; omega
  have HPS := Lib.hid (St.may_procs bm)
  have HK0 := Lib.hid hk0
  have HSUM := Lib.hid (St.queues_sum bm k0 hk0)
  have HFL : Hid (∀ j, s.glob.length + ((s.ps.take j).flatMap St.queueOf).length ≤ 1000000) := Lib.hid fun j => by
    have := flatMap_len9 (s.ps.take j)
    rw [List.length_take] at this
    have := HF.out.glob
    have := HF.out.ps
    omega
  have q4 := st4 (HX4.out.blk HB1.out)
  clear bm hk0
  go_wp2_with fail
  clear q4
  go_loopw [3, 5] (fun nv iv wr => ∃ j : Nat, j ≤ k0 ∧ iv = .int .i64 ((j : Int) + 1) ∧ (∃ m : Nat, m = s.glob.length + ((s.ps.take j).flatMap St.queueOf).length ∧ nv = .int .i64 m) ∧ Ext w1 wr) (fun _ iv _ => k0 + 1 - (intOf iv).toNat)
  case atStart => exact ⟨0, by omega, rfl, ⟨s.glob.length, by simp, rfl⟩, HX4.out⟩
  case round =>
    clear HX4
    obtain ⟨j, hj, rfl, ⟨m, hm, rfl⟩, hx⟩ := hrel
    have HX := Lib.hid hx
    have HMM := Lib.hid hm
    have hml : (m : Int) ≤ 1000000 := by have := HFL.out j; omega
    have q15 : wr.cell? ⟨w.heap.size, 15, none⟩ = some (.int .i64 k0) := by have := st15 (hx.blk HB1.out); rwa [HK0.out] at this
    clear hx hm
    by_cases hlt : j < k0
    · obtain ⟨p, hp⟩ : ∃ p, s.ps[j]? = some p := ⟨_, List.getElem?_eq_getElem (by have := HPS.out; omega)⟩
      have HQ : Hid (s.queue ((j : Int) + 1) = St.queueOf p) := Lib.hid (St.queue_yes (by rw [HK0.out]; omega) HM.out hp)
      have HN : Hid (m + (St.queueOf p).length = s.glob.length + ((s.ps.take (j + 1)).flatMap St.queueOf).length) := Lib.hid (by rw [HMM.out, flatMap_next St.queueOf hp, List.length_append]; omega)
      have HLD := Lib.hid (HX.out.blk HB1.out)
      have HQ9 : Hid ((St.queueOf p).length ≤ 9) := Lib.hid (queueOf_len p)
      generalize St.queueOf p = q at *
      clear hp
      go_wp2_with (refine wpList_load_rowW rfl 32 _ rfl w.heap.size rfl (stL h s) (stV h s) rfl _ (range_row HLD.out) Try.underlying32 rfl (by kernel_rfl) ?_)
      refine (sQueue_any h s _ q HQ.out wr (HK1.out.ext HX.out) HF.out).mono ?_
      rintro e w5 ⟨A3, c3, rfl, ho3, hx3⟩
      have HX5 := Lib.hid (HX.out.trans hx3)
      have hq9 : (q.length : Int) ≤ 9 := by have := HQ9.out; omega
      clear ho3 hx3 q15 HLD
      go_wp2
      go_roundw
      case rel => exact ⟨j + 1, by omega, by go_num, ⟨m + q.length, HN.out, by go_num⟩, HX5.out⟩
      case measure => simp [intOf]; omega
    · have hjk : j = k0 := by omega
      have HMC : Hid (m = s.gs.countP fun g => g.st == 1) := Lib.hid (by rw [HMM.out, hjk]; exact HSUM.out)
      have hlt' : ¬ (j : Int) + 1 ≤ (k0 : Int) := by omega
      have HX4 := Lib.hid HX.out
      have fgs := HF.out.gs
      obtain ⟨wo, rfl⟩ : ∃ wo, wo = wr := ⟨_, rfl⟩
      clear hjk hlt
      go_wp2_with fail
      clear q15
      go_loopw [4, 6] (fun nv iv wr => ∃ j : Nat, j ≤ s.gs.length ∧ iv = .int .i64 j ∧ (∃ c : Nat, c = (s.gs.take j).countP (fun g => g.st == 1) ∧ nv = .int .i64 c) ∧ Ext w1 wr) (fun _ iv _ => s.gs.length - (intOf iv).toNat)
      case atStart => exact ⟨0, by omega, rfl, ⟨0, rfl, rfl⟩, HX4.out⟩
      case round =>
        clear HX HX4
        obtain ⟨i, hi, rfl, ⟨c, hc, rfl⟩, hx⟩ := hrel
        have HX := Lib.hid hx
        have HCC := Lib.hid hc
        have hcl : (c : Int) ≤ 100000 := by have : c ≤ i := by rw [hc]; exact Nat.le_trans List.countP_le_length (by rw [List.length_take]; omega)
                                            omega
        have q1 := st1 (hx.blk HB1.out)
        clear hx hc
        by_cases hlt : i < s.gs.length
        · obtain ⟨g, hg⟩ : ∃ g, s.gs[i]? = some g := ⟨_, List.getElem?_eq_getElem hlt⟩
          obtain ⟨b, o, hA, hb, p0, p1, p2, p3, p4⟩ := gs_get (HK1.out.ext HX.out).gs hg
          rw [hA] at q1
          have HN : Hid ((s.gs.take (i + 1)).countP (fun g => g.st == 1) = c + if g.st = 1 then 1 else 0) := Lib.hid (by
            rw [take_next hg, List.countP_append, ← HCC.out]
            by_cases hs : g.st = 1
            · simp [hs]
            · simp [hs])
          clear hg hb hA p0 p1 p3 p4
          by_cases hs : g.st = 1
          · have hs' : (g.st == 1) = true := by simpa using hs
            rw [if_pos hs] at HN
            clear hs
            go_wp2
            go_roundw
            case rel => exact ⟨i + 1, by omega, by go_num, ⟨c + 1, HN.out.symm, by go_num⟩, HX.out⟩
            case measure => simp [intOf]; omega
          · have hs' : (g.st == 1) = false := by simpa using hs
            rw [if_neg hs] at HN
            clear hs
            go_wp2
            go_roundw
            case rel => exact ⟨i + 1, by omega, by go_num, ⟨c, HN.out.symm, rfl⟩, HX.out⟩
            case measure => simp [intOf]; omega
        · obtain rfl : i = s.gs.length := by omega
          have HEQ : Hid (m = c) := Lib.hid (by rw [HMC.out, HCC.out, List.take_length])
          have hmc : ((m : Int) == (c : Int)) = true := by rw [HEQ.out]; simp
          have HLD := Lib.hid (HX.out.blk HB1.out)
          have q15 : wr.cell? ⟨w.heap.size, 15, none⟩ = some (.int .i64 k0) := by have := st15 (HX.out.blk HB1.out); rwa [HK0.out] at this
          go_wp2_with (refine wpList_load_rowW rfl 32 _ rfl w.heap.size rfl (stL h s) (stV h s) rfl _ (range_row HLD.out) Try.underlying32 rfl (by kernel_rfl) ?_)
          refine (sQueue_any h s _ [] (St.queue_no (by rw [HK0.out]; omega)) wr (HK1.out.ext HX.out) HF.out).mono ?_
          rintro e w5 ⟨A3, c3, rfl, ho3, hx3⟩
          have HX5 := Lib.hid (HX1.out.trans (HX.out.trans hx3))
          clear ho3 hx3
          go_wp2
          go_ret
          exact ⟨rfl, HX5.out⟩
end Go.Proofs.Ytbcclhahpcbadaa
