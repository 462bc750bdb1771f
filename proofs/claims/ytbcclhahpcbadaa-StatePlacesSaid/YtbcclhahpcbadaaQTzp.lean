/-
  The walk of the statement StatePlaces.
-/
import Derived.Test.YtbcclhahpcbadaaQTzm
import Derived.Test.YtbcclhahpcbadaaQGj
set_option linter.unusedVariables false
set_option linter.unusedSimpArgs false
namespace Go.Proofs.Ytbcclhahpcbadaa
open Go.RowKit

theorem placeAt_cases (n : Int) (hn : n ≠ 0) : ∀ (ps : List Pr) (i : Nat), placeAt n ps i = (3, 0) ∨ ∃ (k : Int) (j : Nat) (p : Pr), (k = 1 ∨ k = 2) ∧ ps[j]? = some p ∧ n ∈ St.queueOf p ∧ placeAt n ps i = (k, ((i + j : Nat) : Int) + 1)
  | [], _ => .inl rfl
  | p :: ps, i => by
    unfold placeAt
    by_cases h1 : p.next = n
    · rw [if_pos h1]
      refine .inr ⟨1, 0, p, .inl rfl, rfl, ?_, rfl⟩
      unfold St.queueOf
      rw [if_pos (by rw [h1]; exact hn), h1]
      simp
    · rw [if_neg h1]
      by_cases h2 : n ∈ p.ring.list
      · rw [if_pos h2]
        refine .inr ⟨2, 0, p, .inr rfl, rfl, ?_, rfl⟩
        unfold St.queueOf
        exact List.mem_append_right _ h2
      · rw [if_neg h2]
        rcases placeAt_cases n hn ps (i + 1) with h | ⟨k, j, q, hk, hq, hm, he⟩
        · exact .inl h
        · exact .inr ⟨k, j + 1, q, hk, hq, hm, by rw [he]; congr 2; omega⟩
theorem waitAt_cases (n : Int) : ∀ (ls : List (List Int)) (i : Nat), waitAt n ls i = (6, 0) ∨ ∃ m : Int, waitAt n ls i = (5, m)
  | [], _ => .inl rfl
  | l :: ls, i => by
    unfold waitAt
    by_cases h : n ∈ l
    · rw [if_pos h]; exact .inr ⟨_, rfl⟩
    · rw [if_neg h]; exact waitAt_cases n ls (i + 1)
theorem St.queue_times {s : St} {i : Nat} {p : Pr} (hp : s.ps[i]? = some p) (n : Int) : St.times (St.queueOf p) n ≤ St.times s.runs n := by
  unfold St.times St.runs
  have e : s.ps.flatMap St.queueOf = (s.ps.take (i + 1)).flatMap St.queueOf ++ (s.ps.drop (i + 1)).flatMap St.queueOf := by rw [← List.flatMap_append, List.take_append_drop]
  rw [e, flatMap_next St.queueOf hp]
  simp only [List.count_append]
  omega
/-- Where a G that can run is. -/
theorem St.place_run {s : St} (h : s.may = true) {j : Nat} {g : Gr} (hg : s.gs[j]? = some g) (hs : g.st = 1) : s.place ((j : Int) + 1) = (3, 0) ∨ ∃ (k : Int) (i : Nat) (p : Pr), (k = 1 ∨ k = 2) ∧ s.place ((j : Int) + 1) = (k, (i : Int) + 1) ∧ s.queue ((i : Int) + 1) = St.queueOf p ∧ St.times (St.queueOf p) ((j : Int) + 1) = 1 := by
  have h1 := (St.stands_times ((St.may_parts h).2.2.2.2.2 j g hg)).1
  rw [St.place_yes h hg]
  unfold St.placeOf
  rw [if_pos hs]
  rcases placeAt_cases ((j : Int) + 1) (by omega) s.ps 0 with he | ⟨k, i, p, hk, hp, hm, he⟩
  · exact .inl he
  · refine .inr ⟨k, i, p, hk, by rw [he]; simp, ?_, ?_⟩
    · refine St.queue_yes ?_ h hp
      by_cases hpr : s.procs ≤ i
      · rw [St.may_empty h hp hpr] at hm; simp at hm
      · omega
    · have h2 := St.queue_times hp ((j : Int) + 1)
      have h3 : 1 ≤ St.times (St.queueOf p) ((j : Int) + 1) := List.count_pos_iff.2 hm
      rw [h1, hs] at h2
      simp [St.want] at h2
      omega
/-- Who is on an M is its G. -/
theorem St.place_m {s : St} (h : s.may = true) {j : Nat} {g : Gr} (hg : s.gs[j]? = some g) {k n : Int} (hp : s.place ((j : Int) + 1) = (k, n)) (hk : k = 4 ∨ k = 7) : (s.ms.getD (n - 1).toNat (0, 0)).2 = (j : Int) + 1 := by
  have hst := St.may_stands h hg
  rw [St.place_yes h hg] at hp
  unfold St.placeOf at hp
  by_cases h1 : g.st = 1
  · rw [if_pos h1] at hp
    rcases placeAt_cases ((j : Int) + 1) (by omega) s.ps 0 with he | ⟨k', i, p, hk', _, _, he⟩
    · rw [he] at hp; simp only [Prod.mk.injEq] at hp; omega
    · rw [he] at hp; simp only [Prod.mk.injEq] at hp; omega
  rw [if_neg h1] at hp
  have key : g.st = 2 ∨ g.st = 4 → g.m = n → (s.ms.getD (n - 1).toNat (0, 0)).2 = (j : Int) + 1 := fun h24 hmn => by
    unfold St.stands at hst
    rw [if_neg (by omega)] at hst
    simp only [Bool.and_eq_true, decide_eq_true_eq] at hst
    rw [← hmn]
    exact hst.2.2
  by_cases h2 : g.st = 2
  · rw [if_pos h2] at hp
    simp only [Prod.mk.injEq] at hp
    exact key (.inl h2) hp.2
  rw [if_neg h2] at hp
  by_cases h4 : g.st = 4
  · rw [if_pos h4] at hp
    simp only [Prod.mk.injEq] at hp
    exact key (.inr h4) hp.2
  rw [if_neg h4] at hp
  by_cases h5 : g.st = 5
  · rw [if_pos h5] at hp
    simp only [Prod.mk.injEq] at hp
    omega
  · rw [if_neg h5] at hp
    rcases waitAt_cases ((j : Int) + 1) s.wts 0 with he | ⟨m, he⟩
    · rw [he] at hp; simp only [Prod.mk.injEq] at hp; omega
    · rw [he] at hp; simp only [Prod.mk.injEq] at hp; omega
/-- What a G's place is, by its status. -/
theorem St.place_st {s : St} (h : s.may = true) {j : Nat} {g : Gr} (hg : s.gs[j]? = some g) : (g.st = 1 ∧ s.place ((j : Int) + 1) = (3, 0)) ∨ (g.st = 1 ∧ ∃ (k : Int) (i : Nat) (p : Pr), (k = 1 ∨ k = 2) ∧ s.place ((j : Int) + 1) = (k, (i : Int) + 1) ∧ s.queue ((i : Int) + 1) = St.queueOf p ∧ St.times (St.queueOf p) ((j : Int) + 1) = 1) ∨
    (g.st = 2 ∧ s.place ((j : Int) + 1) = (4, g.m)) ∨ (g.st = 4 ∧ s.place ((j : Int) + 1) = (7, g.m)) ∨ (g.st = 5 ∧ s.place ((j : Int) + 1) = (8, 0)) ∨ (g.st = 3 ∧ (s.place ((j : Int) + 1) = (6, 0) ∨ ∃ m : Int, s.place ((j : Int) + 1) = (5, m))) := by
  have hst := St.may_st h hg
  by_cases h1 : g.st = 1
  · rcases St.place_run h hg h1 with he | he
    · exact .inl ⟨h1, he⟩
    · exact .inr (.inl ⟨h1, he⟩)
  have hpo := St.place_yes h hg
  unfold St.placeOf at hpo
  rw [if_neg h1] at hpo
  by_cases h2 : g.st = 2
  · rw [if_pos h2] at hpo; exact .inr (.inr (.inl ⟨h2, hpo⟩))
  rw [if_neg h2] at hpo
  by_cases h4 : g.st = 4
  · rw [if_pos h4] at hpo; exact .inr (.inr (.inr (.inl ⟨h4, hpo⟩)))
  rw [if_neg h4] at hpo
  by_cases h5 : g.st = 5
  · rw [if_pos h5] at hpo; exact .inr (.inr (.inr (.inr (.inl ⟨h5, hpo⟩))))
  rw [if_neg h5] at hpo
  refine .inr (.inr (.inr (.inr (.inr ⟨by omega, ?_⟩))))
  rw [hpo]
  exact waitAt_cases _ _ _
set_option maxRecDepth 100000 in
set_option maxHeartbeats 32000000 in
theorem walk_StatePlaces (h : StH) (s : St) (a b : Int) (w : World) (hk : StOk w h s) (hi : StIn s) (_ : (Lit.int .i64 a).wf = true) (_ : (Lit.int .i64 b).wf = true) : Calls Try.prog 4 #[stV h s, .int .i64 a, .int .i64 b] w fun e w' => e = .returned (.bool true) ∧ Ext w w' := by
  have HI := Lib.hid hi
  have HK := Lib.hid hk
  obtain ⟨w1, hw1⟩ : ∃ w1, w.alloc (.cells #[.slice h.pa s.prog.length h.pc, .slice h.ga s.gs.length h.gc, .slice h.qa s.ps.length h.qc, .slice h.ma s.ms.length h.mc, .slice h.la s.glob.length h.lc, .int .i64 s.c0, .int .i64 s.c1, .int .i64 s.c2, .int .i64 s.c3, .slice h.a0 s.w0.length h.k0, .slice h.a1 s.w1.length h.k1, .slice h.a2 s.w2.length h.k2, .slice h.a3 s.w3.length h.k3, .slice h.ta s.timers.length h.tc, .int .i64 s.clock, .int .i64 s.procs] 32) = w1 := ⟨_, rfl⟩
  have HX1 : Hid (Ext w w1) := Lib.hid (by rw [← hw1]; exact (Ext.refl w).alloc _)
  have HB1 : Hid (w1.heap[w.heap.size]? = some (.cells (stC h s) 32 (0, 0))) := Lib.hid (by rw [← hw1]; exact blk_new w _)
  have HK1 := Lib.hid (hk.ext HX1.out)
  have HW1 := Lib.hid hw1
  clear hw1 hk
  clear hi
  unfold stV
  go_enter Try.func4, Try.ntmps4
  go_upto_region 1 with fail
  rw [HW1.out]
  generalize Value.agg #[.slice h.pa s.prog.length h.pc, .slice h.ga s.gs.length h.gc, .slice h.qa s.ps.length h.qc, .slice h.ma s.ms.length h.mc, .slice h.la s.glob.length h.lc, .int .i64 s.c0, .int .i64 s.c1, .int .i64 s.c2, .int .i64 s.c3, .slice h.a0 s.w0.length h.k0, .slice h.a1 s.w1.length h.k1, .slice h.a2 s.w2.length h.k2, .slice h.a3 s.w3.length h.k3, .slice h.ta s.timers.length h.tc, .int .i64 s.clock, .int .i64 s.procs] = sv0
  go_wp2_with fail
  refine (tfixed_yes w1).mono ?_
  rintro e w2 ⟨rfl, hx2⟩
  have HX2 := Lib.hid hx2
  have HLD := Lib.hid (hx2.blk HB1.out)
  clear hx2
  go_wp2_with (refine wpList_load_rowW rfl 32 _ rfl w.heap.size rfl (stL h s) (stV h s) rfl _ (range_row HLD.out) Try.underlying32 rfl (by kernel_rfl) ?_)
  refine (rstsmall_any h s _ rfl w2 (HK1.out.ext HX2.out) HI.out).mono ?_
  rintro e w3 ⟨rfl, hx3⟩
  have HX4 := Lib.hid (HX2.out.trans hx3)
  clear hx3 HLD
  cases bs : s.small with
  | false =>
    go_wp2_with fail
    refine (tfixed_yes _).mono ?_
    rintro e w9 ⟨rfl, hx9⟩
    have HX9 := Lib.hid (HX1.out.trans (HX4.out.trans hx9))
    clear hx9
    go_wp2
    go_ret
    exact ⟨rfl, HX9.out⟩
  | true =>
  have HF := Lib.hid (St.small_few bs HI.out)
  have HLD := Lib.hid (HX4.out.blk HB1.out)
  clear bs
  go_wp2_with (refine wpList_load_rowW rfl 32 _ rfl w.heap.size rfl (stL h s) (stV h s) rfl _ (range_row HLD.out) Try.underlying32 rfl (by kernel_rfl) ?_)
  refine (sstmay_any h s _ rfl w3 (HK1.out.ext HX4.out) HF.out).mono ?_
  rintro e w4 ⟨rfl, hx4⟩
  have HX5 := Lib.hid (HX4.out.trans hx4)
  clear hx4 HLD HX4
  have HX4 := Lib.hid HX5.out
  clear HX5
  cases bm : s.may with
  | false =>
    go_wp2_with fail
    refine (tfixed_yes _).mono ?_
    rintro e w9 ⟨rfl, hx9⟩
    have HX9 := Lib.hid (HX1.out.trans (HX4.out.trans hx9))
    clear hx9
    go_wp2
    go_ret
    exact ⟨rfl, HX9.out⟩
  | true =>
  have HM := Lib.hid bm
  have q1 := st1 (HX4.out.blk HB1.out)
  clear bm
  by_cases a1 : a < 1
  · skip
    go_wp2_with fail
    refine (tfixed_yes _).mono ?_
    rintro e w9 ⟨rfl, hx9⟩
    have HX9 := Lib.hid (HX1.out.trans (HX4.out.trans hx9))
    clear hx9
    go_wp2
    go_ret
    exact ⟨rfl, HX9.out⟩
  by_cases a2 : (s.gs.length : Int) < a
  · skip
    go_wp2_with fail
    refine (tfixed_yes _).mono ?_
    rintro e w9 ⟨rfl, hx9⟩
    have HX9 := Lib.hid (HX1.out.trans (HX4.out.trans hx9))
    clear hx9
    go_wp2
    go_ret
    exact ⟨rfl, HX9.out⟩
  by_cases a3 : b < 1
  · skip
    go_wp2_with fail
    refine (tfixed_yes _).mono ?_
    rintro e w9 ⟨rfl, hx9⟩
    have HX9 := Lib.hid (HX1.out.trans (HX4.out.trans hx9))
    clear hx9
    go_wp2
    go_ret
    exact ⟨rfl, HX9.out⟩
  by_cases a4 : (s.gs.length : Int) < b
  · skip
    go_wp2_with fail
    refine (tfixed_yes _).mono ?_
    rintro e w9 ⟨rfl, hx9⟩
    have HX9 := Lib.hid (HX1.out.trans (HX4.out.trans hx9))
    clear hx9
    go_wp2
    go_ret
    exact ⟨rfl, HX9.out⟩
  obtain ⟨j, hja⟩ : ∃ j : Nat, a = (j : Int) + 1 := ⟨(a - 1).toNat, by omega⟩
  obtain ⟨j', hjb⟩ : ∃ j' : Nat, b = (j' : Int) + 1 := ⟨(b - 1).toNat, by omega⟩
  obtain ⟨g, hg⟩ : ∃ g, s.gs[j]? = some g := ⟨_, List.getElem?_eq_getElem (by omega)⟩
  obtain ⟨g', hg'⟩ : ∃ g', s.gs[j']? = some g' := ⟨_, List.getElem?_eq_getElem (by omega)⟩
  have HG := Lib.hid hg
  have HG' := Lib.hid hg'
  have HJA := Lib.hid hja
  have HJB := Lib.hid hjb
  clear hg hg'
  have e1 : a - 1 = (j : Int) := by omega
  clear hja hjb
  have i1 : (j : Int) < (s.gs.length : Int) := by omega
  go_upto_region 3 with fail
  clear q1 a1 a2 a3 a4
  obtain ⟨xk, xn, hx⟩ : ∃ xk xn, s.place a = (xk, xn) := ⟨_, _, rfl⟩
  obtain ⟨yk, yn, hy⟩ : ∃ yk yn, s.place b = (yk, yn) := ⟨_, _, rfl⟩
  have HPX := Lib.hid hx
  have HPY := Lib.hid hy
  have HK4 := Lib.hid (HK1.out.ext HX4.out)
  have HB4 := Lib.hid (HX4.out.blk HB1.out)
  clear hx hy
  refine region_rgw ([(2, (fun u => u = .agg #[.int .i64 xk, .int .i64 xn] : Value → Prop), (fun _ _ => True : (Nat → GV) → World → Prop)), (5, (fun u => u = .agg #[.int .i64 yk, .int .i64 yn] : Value → Prop), (fun _ _ => True : (Nat → GV) → World → Prop)), (6, (fun u => ∃ g, u = .pointer (some ⟨g, 0, none⟩) : Value → Prop), (fun u w => BoxW 43 2 w4 w (u 6) : (Nat → GV) → World → Prop)), (7, (fun u => ∃ g, u = .pointer (some ⟨g, 0, none⟩) : Value → Prop), (fun u w => BoxW 43 2 w4 w (u 7) : (Nat → GV) → World → Prop)), (8, (fun u => u = undef : Value → Prop), (fun u w => HasW 43 w4 w (u 6) [.int .i64 xk, .int .i64 xn] : (Nat → GV) → World → Prop)), (9, (fun u => u = undef : Value → Prop), (fun u w => HasW 43 w4 w (u 7) [.int .i64 yk, .int .i64 yn] : (Nat → GV) → World → Prop))]) (w4) ([(8, 0, [6]), (9, 0, [7])]) (by kernel_rfl) (by kernel_rfl) ?_ ?_ ?_ ?_
  · exact List.forall_mem_cons.2 ⟨List.forall_mem_cons.2 ⟨by kernel_rfl, List.forall_mem_nil _⟩, List.forall_mem_cons.2 ⟨List.forall_mem_cons.2 ⟨by kernel_rfl, List.forall_mem_nil _⟩, List.forall_mem_nil _⟩⟩
  · exact List.forall_mem_cons.2 ⟨⟨⟨_, rfl⟩, fun _ _ _ _ _ => trivial, fun _ _ _ _ _ => trivial, List.forall_mem_cons.2 ⟨fun _ _ _ _ _ _ _ _ _ => trivial, List.forall_mem_cons.2 ⟨fun _ _ _ _ _ _ _ _ _ => trivial, List.forall_mem_nil _⟩⟩⟩, List.forall_mem_cons.2 ⟨⟨⟨_, rfl⟩, fun _ _ _ _ _ => trivial, fun _ _ _ _ _ => trivial, List.forall_mem_cons.2 ⟨fun _ _ _ _ _ _ _ _ _ => trivial, List.forall_mem_cons.2 ⟨fun _ _ _ _ _ _ _ _ _ => trivial, List.forall_mem_nil _⟩⟩⟩, List.forall_mem_cons.2 ⟨⟨⟨_, 0, rfl⟩, fun u v w h ht => by show (fun u w => BoxW 43 2 w4 w (u 6) : (Nat → GV) → World → Prop) v w; dsimp only; rw [← h 6 (.inl rfl) (by kernel_rfl)]; exact ht, fun u w w2 hx ht => ht.ext hx, List.forall_mem_cons.2 ⟨fun _ hp => by first | (intro u w w2 hap haq hc ht; (exact ht.chg hc); done) | exact rg_vac hp (by kernel_rfl), List.forall_mem_cons.2 ⟨fun _ hp => by first | (intro u w w2 hap haq hc ht; (exact ht.chg hc); done) | exact rg_vac hp (by kernel_rfl), List.forall_mem_nil _⟩⟩⟩, List.forall_mem_cons.2 ⟨⟨⟨_, 0, rfl⟩, fun u v w h ht => by show (fun u w => BoxW 43 2 w4 w (u 7) : (Nat → GV) → World → Prop) v w; dsimp only; rw [← h 7 (.inl rfl) (by kernel_rfl)]; exact ht, fun u w w2 hx ht => ht.ext hx, List.forall_mem_cons.2 ⟨fun _ hp => by first | (intro u w w2 hap haq hc ht; (exact ht.chg hc); done) | exact rg_vac hp (by kernel_rfl), List.forall_mem_cons.2 ⟨fun _ hp => by first | (intro u w w2 hap haq hc ht; (exact ht.chg hc); done) | exact rg_vac hp (by kernel_rfl), List.forall_mem_nil _⟩⟩⟩, List.forall_mem_cons.2 ⟨⟨⟨_, rfl⟩, fun u v w h ht => by show (fun u w => HasW 43 w4 w (u 6) [.int .i64 xk, .int .i64 xn] : (Nat → GV) → World → Prop) v w; dsimp only; rw [← h 6 (.inr (by kernel_rfl)) (by kernel_rfl)]; exact ht, fun u w w2 hx ht => ht.ext hx, List.forall_mem_cons.2 ⟨fun hne => absurd rfl hne, List.forall_mem_cons.2 ⟨fun _ hp => by first | (intro u w w2 hap haq hc ht; (refine ht.far hc ?_; intro x hx; simp only [List.map_cons, List.map_nil, List.mem_cons, List.not_mem_nil, or_false] at hx; subst hx; exact haq 7 (by simp) 6 (by kernel_rfl) (by kernel_rfl) (by decide)); done) | exact rg_vac hp (by kernel_rfl), List.forall_mem_nil _⟩⟩⟩, List.forall_mem_cons.2 ⟨⟨⟨_, rfl⟩, fun u v w h ht => by show (fun u w => HasW 43 w4 w (u 7) [.int .i64 yk, .int .i64 yn] : (Nat → GV) → World → Prop) v w; dsimp only; rw [← h 7 (.inr (by kernel_rfl)) (by kernel_rfl)]; exact ht, fun u w w2 hx ht => ht.ext hx, List.forall_mem_cons.2 ⟨fun _ hp => by first | (intro u w w2 hap haq hc ht; (refine ht.far hc ?_; intro x hx; simp only [List.map_cons, List.map_nil, List.mem_cons, List.not_mem_nil, or_false] at hx; subst hx; exact haq 6 (by simp) 7 (by kernel_rfl) (by kernel_rfl) (by decide)); done) | exact rg_vac hp (by kernel_rfl), List.forall_mem_cons.2 ⟨fun hne => absurd rfl hne, List.forall_mem_nil _⟩⟩⟩, List.forall_mem_nil _⟩⟩⟩⟩⟩⟩
  · first | assumption | exact Ext.refl _
  refine rg_pure (v := stV h s) rfl (by kernel_rfl) (by kernel_rfl) (fun w hS hN => ?_) ?_
  · clear hN
    exact givesP_load 32 _ rfl _ (by go_simp) (stL h s) _ rfl _ (range_row (hS.blk HB4.out)) Try.underlying32 rfl (by kernel_rfl)
  refine rg_pure (v := ?_) rfl (by kernel_rfl) (by kernel_rfl) (fun w hS hN => ?_) ?_
  rotate_left 1
  · clear hN
    go_simp
    refine givesP_mk ?_
    with_reducible rfl
  refine rg_mem (fun u => u = .agg #[.int .i64 xk, .int .i64 xn] : Value → Prop) (fun _ _ => True : (Nat → GV) → World → Prop) (fun _ => Ext) rfl rfl rfl rfl (by kernel_rfl) (by kernel_rfl) (fun w hS hN R hR => ?_) ?_
  · have HR := Lib.hid hR
    clear hR
    (try clear hN)
    go_simp
    refine givesM_call ((sPlace_any h s _ _ HPX.out w (HK4.out.ext hS) HF.out).mono ?_)
    rintro e w' ⟨rfl, hx⟩
    exact ⟨_, rfl, HR.out _ _ rfl trivial hx⟩
  rintro u2 s2 t2 rfl
  refine rg_pure (v := stV h s) rfl (by kernel_rfl) (by kernel_rfl) (fun w hS hN => ?_) ?_
  · clear hN
    exact givesP_load 32 _ rfl _ (by go_simp) (stL h s) _ rfl _ (range_row (hS.blk HB4.out)) Try.underlying32 rfl (by kernel_rfl)
  refine rg_pure (v := ?_) rfl (by kernel_rfl) (by kernel_rfl) (fun w hS hN => ?_) ?_
  rotate_left 1
  · clear hN
    go_simp
    refine givesP_mk ?_
    with_reducible rfl
  refine rg_mem (fun u => u = .agg #[.int .i64 yk, .int .i64 yn] : Value → Prop) (fun _ _ => True : (Nat → GV) → World → Prop) (fun _ => Ext) rfl rfl rfl rfl (by kernel_rfl) (by kernel_rfl) (fun w hS hN R hR => ?_) ?_
  · have HR := Lib.hid hR
    clear hR
    (try clear hN)
    go_simp
    refine givesM_call ((sPlace_any h s _ _ HPY.out w (HK4.out.ext hS) HF.out).mono ?_)
    rintro e w' ⟨rfl, hx⟩
    exact ⟨_, rfl, HR.out _ _ rfl trivial hx⟩
  rintro u5 s5 t5 rfl
  refine rg_mem (fun u => ∃ g, u = .pointer (some ⟨g, 0, none⟩) : Value → Prop) (fun u w => BoxW 43 2 w4 w (u 6) : (Nat → GV) → World → Prop) (fun _ => Ext) rfl rfl rfl rfl (by kernel_rfl) (by kernel_rfl) (fun w hS hN R hR => ?_) ?_
  · have HR := Lib.hid hR
    clear hR
    (try clear hN)
    go_simp
    exact givesM_val (HR.out _ _ ⟨_, rfl⟩ (BoxW.made hS [.int .i64 0, .int .i64 0]) ((Ext.refl w).alloc _))
  rintro u6 s6 t6 ⟨g6, rfl⟩
  refine rg_mem (fun u => ∃ g, u = .pointer (some ⟨g, 0, none⟩) : Value → Prop) (fun u w => BoxW 43 2 w4 w (u 7) : (Nat → GV) → World → Prop) (fun _ => Ext) rfl rfl rfl rfl (by kernel_rfl) (by kernel_rfl) (fun w hS hN R hR => ?_) ?_
  · have HR := Lib.hid hR
    clear hR
    (try clear hN)
    go_simp
    exact givesM_val (HR.out _ _ ⟨_, rfl⟩ (BoxW.made hS [.int .i64 0, .int .i64 0]) ((Ext.refl w).alloc _))
  rintro u7 s7 t7 ⟨g7, rfl⟩
  refine rg_mem (fun u => u = undef : Value → Prop) (fun u w => HasW 43 w4 w (u 6) [.int .i64 xk, .int .i64 xn] : (Nat → GV) → World → Prop) (fun u => ChgIn (w4) (0) ([6].map u)) rfl rfl rfl rfl (by kernel_rfl) (by kernel_rfl) (fun w hS hN R hR => ?_) ?_
  · have HR := Lib.hid hR
    clear hR
    have h6 : BoxW 43 2 w4 w ⟨.pointer (some ⟨g6, 0, none⟩), s6, t6⟩ := hN.get 6 rfl (by kernel_rfl)
    obtain ⟨g, cz, hcz, hg, hg2, hg3, hg4⟩ := h6
    simp only [Value.pointer.injEq, Option.some.injEq, Addr.mk.injEq, and_true] at hg
    subst hg
    clear hN
    refine givesM_store 43 _ _ rfl g6 0 (by go_simp) [.int .i64 xk, .int .i64 xn] (by go_simp) (there_row hg4 (by simp [hcz])) (by kernel_rfl) (by simp [Value.oneCell']) ?_
    exact HR.out _ _ rfl ⟨g6, rfl, hg2, hg3, setCells_at cz _ hcz hg4⟩ (ChgIn.row hcz hS hg2 hg3 hg4)
  rintro u8 s8 t8 rfl
  refine rg_mem (fun u => u = undef : Value → Prop) (fun u w => HasW 43 w4 w (u 7) [.int .i64 yk, .int .i64 yn] : (Nat → GV) → World → Prop) (fun u => ChgIn (w4) (0) ([7].map u)) rfl rfl rfl rfl (by kernel_rfl) (by kernel_rfl) (fun w hS hN R hR => ?_) ?_
  · have HR := Lib.hid hR
    clear hR
    have h7 : BoxW 43 2 w4 w ⟨.pointer (some ⟨g7, 0, none⟩), s7, t7⟩ := hN.get 7 rfl (by kernel_rfl)
    obtain ⟨g, cz, hcz, hg, hg2, hg3, hg4⟩ := h7
    simp only [Value.pointer.injEq, Option.some.injEq, Addr.mk.injEq, and_true] at hg
    subst hg
    clear hN
    refine givesM_store 43 _ _ rfl g7 0 (by go_simp) [.int .i64 yk, .int .i64 yn] (by go_simp) (there_row hg4 (by simp [hcz])) (by kernel_rfl) (by simp [Value.oneCell']) ?_
    exact HR.out _ _ rfl ⟨g7, rfl, hg2, hg3, setCells_at cz _ hcz hg4⟩ (ChgIn.row hcz hS hg2 hg3 hg4)
  rintro u9 s9 t9 rfl
  refine rg_done rfl (Nat.le_of_ble_eq_true (by kernel_rfl)) ?_
  intro w8 hS hT
  have k8 : HasW 43 w4 w8 ⟨.pointer (some ⟨g6, 0, none⟩), s6, t6⟩ [.int .i64 xk, .int .i64 xn] := hT (8, ⟨undef, s8, t8⟩) (by simp)
  have k9 : HasW 43 w4 w8 ⟨.pointer (some ⟨g7, 0, none⟩), s7, t7⟩ [.int .i64 yk, .int .i64 yn] := hT (9, ⟨undef, s9, t9⟩) (by simp)
  have HP7 := Lib.hid (k8.get rfl).2
  have HP8 := Lib.hid (k9.get rfl).2
  have HX8 := Lib.hid (HX4.out.trans hS)
  clear k8 k9 hT hS
  obtain ⟨bb, o, hA, hb, p0, p1, p2, p3, p4⟩ := gs_get (HK1.out.ext HX8.out).gs HG.out
  obtain ⟨fn, pc, st, m, sq⟩ := g
  simp only at p2
  have q1 : w8.cell? ⟨w.heap.size, 1, none⟩ = some (.slice (some ⟨bb, o, none⟩) s.gs.length h.gc) := by rw [← hA]; exact st1 (HX8.out.blk HB1.out)
  have hgl := HF.out.gs
  have hjl := (List.getElem?_eq_some_iff.1 HG.out).1
  have b1 : (1 : Int) ≤ a := by rw [HJA.out]; omega
  have b2 : a ≤ 100000 := by rw [HJA.out]; omega
  clear hjl
  have HLD := Lib.hid (HX8.out.blk HB1.out)
  clear hA hb p0 p1 p3 p4
  go_simp
  go_wp2_with (refine wpList_load_rowW rfl 32 _ rfl w.heap.size rfl (stL h s) (stV h s) rfl _ (range_row HLD.out) Try.underlying32 rfl (by kernel_rfl) ?_)
  refine (rruns_any h s w8 (HK1.out.ext HX8.out) HF.out).mono ?_
  rintro e w9 ⟨A9, c9, rfl, ho9, hx9⟩
  have HX9 := Lib.hid (HX8.out.trans hx9)
  have HP79 := Lib.hid (hx9.blk HP7.out)
  have HP89 := Lib.hid (hx9.blk HP8.out)
  have HRL := Lib.hid (St.runs_len HF.out)
  have HTM := Lib.hid (rtimes_any _ s.runs a w9 ho9.at.2 (by have := HRL.out; omega))
  clear ho9 hx9 q1 p2 HLD i1 e1 b1 b2 hgl
  go_wp2_with fail
  refine HTM.out.mono ?_
  rintro e w' ⟨rfl, rfl⟩
  obtain ⟨tr, htr⟩ : ∃ tr : Int, (St.times s.runs a : Int) = tr := ⟨_, rfl⟩
  have HTR := Lib.hid htr
  rw [htr]
  clear htr
  have HST := Lib.hid (St.stands_times ((St.may_parts HM.out).2.2.2.2.2 j _ HG.out)).1
  have HXE := Lib.hid (HX1.out.trans HX9.out)
  have u0 : w'.cell? ⟨g6, 0, none⟩ = some (.int .i64 xk) := blk_cell HP79.out 0 _ rfl
  have u1 : w'.cell? ⟨g6, 1, none⟩ = some (.int .i64 xn) := blk_cell HP79.out 1 _ rfl
  have v0 : w'.cell? ⟨g7, 0, none⟩ = some (.int .i64 yk) := blk_cell HP89.out 0 _ rfl
  have v1 : w'.cell? ⟨g7, 1, none⟩ = some (.int .i64 yn) := blk_cell HP89.out 1 _ rfl
  obtain ⟨be, hbe⟩ : ∃ be, (a == b) = be := ⟨_, rfl⟩
  have HPS := St.place_st HM.out HG.out
  rw [← HJA.out, HPX.out] at HPS
  simp only [Prod.mk.injEq] at HPS
  rcases HPS with ⟨hs, h1, h2⟩ | ⟨hs, k, i, p, hk, ⟨h1, h2⟩, hqu, hqt⟩ | ⟨hs, h1, h2⟩ | ⟨hs, h1, h2⟩ | ⟨hs, h1, h2⟩ | ⟨hs, ⟨h1, h2⟩ | ⟨mm, h1, h2⟩⟩
  · subst hs h1 h2
    obtain rfl : tr = 1 := by rw [← HTR.out, HJA.out, HST.out]; rfl
    cases be with
    | false =>
      go_wp2
      go_ret
      exact ⟨rfl, HXE.out⟩
    | true =>
      go_wp2
      go_ret
      exact ⟨rfl, HXE.out⟩
  · subst hs h1 h2
    obtain rfl : tr = 1 := by rw [← HTR.out, HJA.out, HST.out]; rfl
    have HQU := Lib.hid hqu
    have HQT := Lib.hid hqt
    have HQL : Hid ((St.queueOf p).length ≤ 9) := Lib.hid (queueOf_len p)
    generalize St.queueOf p = qu at *
    clear hqu hqt
    have HLD := Lib.hid (HX9.out.blk HB1.out)
    rcases hk with rfl | rfl
    · go_wp2_with (refine wpList_load_rowW rfl 32 _ rfl w.heap.size rfl (stL h s) (stV h s) rfl _ (range_row HLD.out) Try.underlying32 rfl (by kernel_rfl) ?_)
      refine (sQueue_any h s _ qu HQU.out w' (HK1.out.ext HX9.out) HF.out).mono ?_
      rintro e wq ⟨Aq, cq, rfl, hoq, hxq⟩
      have HXQ := Lib.hid (HXE.out.trans hxq)
      have HTQ := Lib.hid (rtimes_any _ qu a wq hoq.at.2 (by have := HQL.out; omega))
      have z0 : wq.cell? ⟨g6, 0, none⟩ = some (.int .i64 1) := blk_cell (hxq.blk HP79.out) 0 _ rfl
      have z1 : wq.cell? ⟨g6, 1, none⟩ = some (.int .i64 ((i : Int) + 1)) := blk_cell (hxq.blk HP79.out) 1 _ rfl
      have z2 : wq.cell? ⟨g7, 0, none⟩ = some (.int .i64 yk) := blk_cell (hxq.blk HP89.out) 0 _ rfl
      have z3 : wq.cell? ⟨g7, 1, none⟩ = some (.int .i64 yn) := blk_cell (hxq.blk HP89.out) 1 _ rfl
      have HQ1 : Hid (St.times qu a = 1) := Lib.hid (by first | exact HQT.out | (rw [HJA.out]; exact HQT.out))
      clear u0 u1 v0 v1 hoq hxq HLD HXE
      have HXE := Lib.hid HXQ.out
      go_wp2_with fail
      refine HTQ.out.mono ?_
      rintro e wz ⟨rfl, rfl⟩
      rw [HQ1.out]
      cases be with
      | false =>
        go_wp2
        go_ret
        exact ⟨rfl, HXE.out⟩
      | true =>
        go_wp2
        go_ret
        exact ⟨rfl, HXE.out⟩
    · go_wp2_with (refine wpList_load_rowW rfl 32 _ rfl w.heap.size rfl (stL h s) (stV h s) rfl _ (range_row HLD.out) Try.underlying32 rfl (by kernel_rfl) ?_)
      refine (sQueue_any h s _ qu HQU.out w' (HK1.out.ext HX9.out) HF.out).mono ?_
      rintro e wq ⟨Aq, cq, rfl, hoq, hxq⟩
      have HXQ := Lib.hid (HXE.out.trans hxq)
      have HTQ := Lib.hid (rtimes_any _ qu a wq hoq.at.2 (by have := HQL.out; omega))
      have z0 : wq.cell? ⟨g6, 0, none⟩ = some (.int .i64 2) := blk_cell (hxq.blk HP79.out) 0 _ rfl
      have z1 : wq.cell? ⟨g6, 1, none⟩ = some (.int .i64 ((i : Int) + 1)) := blk_cell (hxq.blk HP79.out) 1 _ rfl
      have z2 : wq.cell? ⟨g7, 0, none⟩ = some (.int .i64 yk) := blk_cell (hxq.blk HP89.out) 0 _ rfl
      have z3 : wq.cell? ⟨g7, 1, none⟩ = some (.int .i64 yn) := blk_cell (hxq.blk HP89.out) 1 _ rfl
      have HQ1 : Hid (St.times qu a = 1) := Lib.hid (by first | exact HQT.out | (rw [HJA.out]; exact HQT.out))
      clear u0 u1 v0 v1 hoq hxq HLD HXE
      have HXE := Lib.hid HXQ.out
      go_wp2_with fail
      refine HTQ.out.mono ?_
      rintro e wz ⟨rfl, rfl⟩
      rw [HQ1.out]
      cases be with
      | false =>
        go_wp2
        go_ret
        exact ⟨rfl, HXE.out⟩
      | true =>
        go_wp2
        go_ret
        exact ⟨rfl, HXE.out⟩
  · subst hs h1 h2
    obtain rfl : tr = 0 := by rw [← HTR.out, HJA.out, HST.out]; rfl
    obtain ⟨bn, hbn⟩ : ∃ bn, (xn != yn) = bn := ⟨_, rfl⟩
    cases be with
    | true =>
      go_wp2
      go_ret
      exact ⟨rfl, HXE.out⟩
    | false =>
      cases bn with
      | true =>
        go_wp2
        go_ret
        exact ⟨rfl, HXE.out⟩
      | false =>
        have hne : ¬ (yk = 4 ∨ yk = 7) := fun hyk => by
          have hmn : xn = yn := by simpa using hbn
          have f1 := St.place_m (k := 4) (n := xn) HM.out HG.out (by rw [← HJA.out]; exact HPX.out) (by decide)
          have f2 := St.place_m (k := yk) (n := yn) HM.out HG'.out (by rw [← HJB.out]; exact HPY.out) hyk
          rw [hmn, f2] at f1
          have hab : a = b := by rw [HJA.out, HJB.out]; exact f1.symm
          rw [hab] at hbe
          simp at hbe
        have y4 : (yk != 4) = true := by simp; omega
        have y7 : (yk != 7) = true := by simp; omega
        clear hne
        go_wp2
        go_ret
        exact ⟨rfl, HXE.out⟩
  · subst hs h1 h2
    obtain rfl : tr = 0 := by rw [← HTR.out, HJA.out, HST.out]; rfl
    obtain ⟨bn, hbn⟩ : ∃ bn, (xn != yn) = bn := ⟨_, rfl⟩
    cases be with
    | true =>
      go_wp2
      go_ret
      exact ⟨rfl, HXE.out⟩
    | false =>
      cases bn with
      | true =>
        go_wp2
        go_ret
        exact ⟨rfl, HXE.out⟩
      | false =>
        have hne : ¬ (yk = 4 ∨ yk = 7) := fun hyk => by
          have hmn : xn = yn := by simpa using hbn
          have f1 := St.place_m (k := 7) (n := xn) HM.out HG.out (by rw [← HJA.out]; exact HPX.out) (by decide)
          have f2 := St.place_m (k := yk) (n := yn) HM.out HG'.out (by rw [← HJB.out]; exact HPY.out) hyk
          rw [hmn, f2] at f1
          have hab : a = b := by rw [HJA.out, HJB.out]; exact f1.symm
          rw [hab] at hbe
          simp at hbe
        have y4 : (yk != 4) = true := by simp; omega
        have y7 : (yk != 7) = true := by simp; omega
        clear hne
        go_wp2
        go_ret
        exact ⟨rfl, HXE.out⟩
  · subst hs h1 h2
    obtain rfl : tr = 0 := by rw [← HTR.out, HJA.out, HST.out]; rfl
    cases be with
    | false =>
      go_wp2
      go_ret
      exact ⟨rfl, HXE.out⟩
    | true =>
      go_wp2
      go_ret
      exact ⟨rfl, HXE.out⟩
  · subst hs h1 h2
    obtain rfl : tr = 0 := by rw [← HTR.out, HJA.out, HST.out]; rfl
    cases be with
    | false =>
      go_wp2
      go_ret
      exact ⟨rfl, HXE.out⟩
    | true =>
      go_wp2
      go_ret
      exact ⟨rfl, HXE.out⟩
  · subst hs h1 h2
    obtain rfl : tr = 0 := by rw [← HTR.out, HJA.out, HST.out]; rfl
    cases be with
    | false =>
      go_wp2
      go_ret
      exact ⟨rfl, HXE.out⟩
    | true =>
      go_wp2
      go_ret
      exact ⟨rfl, HXE.out⟩
end Go.Proofs.Ytbcclhahpcbadaa
