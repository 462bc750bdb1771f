/-
  Several texts in one: Tzr, Gj, Tzp, Tzs, Tzu, Lr, Ld, Li, Lj, Gk.
-/
import Derived.Test.YtogcfndhcphpaaaK25
import Derived.Test.YtogcfndhcphpaaaK08
import Derived.Test.YtogcfndhcphpaaaK18
import Derived.Test.YtogcfndhcphpaaaK21
import Derived.Test.YtogcfndhcphpaaaK01
import Derived.Lib.SmallJoins
import Derived.Test.YtogcfndhcphpaaaK09
import Derived.Test.YtogcfndhcphpaaaK20
import Derived.SizedLaws
/-
  A state that may be, turned: plain mathematics.
-/
set_option linter.unusedVariables false
set_option linter.unusedSimpArgs false
namespace Go.Proofs.Ytogcfndhcphpaaa
open Go.RowKit

theorem turned_glob {s : St} (h : s.may = true) {x : Int} (hx : x ∈ s.glob) (l : List Int) (hl : l.count x ≠ s.glob.count x) : ({ s with glob := l } : St).may = false := by
  rw [Bool.eq_false_iff]
  intro h2
  obtain ⟨_, _, _, _, hin, hst⟩ := St.may_parts h
  obtain ⟨_, _, _, _, _, hst2⟩ := St.may_parts h2
  have hw : 1 ≤ x ∧ x ≤ (s.gs.length : Int) := by
    unfold St.allIn at hin
    simp only [Bool.and_eq_true, St.within_iff] at hin
    exact hin.1.1.1 x (by unfold St.runs; exact List.mem_append_right _ hx)
  obtain ⟨j, rfl⟩ : ∃ j : Nat, x = (j : Int) + 1 := ⟨(x - 1).toNat, by omega⟩
  have hj : j < s.gs.length := by omega
  have hg := List.getElem?_eq_getElem hj
  have t1 := (St.stands_times (hst j _ hg)).1
  have t2 := (St.stands_times (hst2 j _ hg)).1
  unfold St.times St.runs at t1 t2
  rw [List.count_append] at t1 t2
  simp only at t2
  omega
theorem count_left (l : List Int) (k : Nat) (x : Int) (hx : l[k]? = some x) : (l.take k ++ l.drop (k + 1)).count x + 1 = l.count x := by
  have hd : l.drop k = x :: l.drop (k + 1) := drop_next hx
  have : l.count x = (l.take k ++ l.drop k).count x := by rw [List.take_append_drop]
  rw [this, hd, List.count_append, List.count_append, List.count_cons_self]
  omega
theorem turned_a {s : St} (h : s.may = true) {k : Nat} {x : Int} (hx : s.glob[k]? = some x) : ({ s with glob := s.glob.take k ++ s.glob.drop (k + 1) } : St).may = false :=
  turned_glob h (List.mem_of_getElem? hx) _ (by have := count_left s.glob k x hx; omega)
theorem turned_b {s : St} (h : s.may = true) {k : Nat} {x : Int} (hx : s.glob[k]? = some x) : ({ s with glob := s.glob ++ [x] } : St).may = false :=
  turned_glob h (List.mem_of_getElem? hx) _ (by rw [List.count_append, List.count_singleton_self]; omega)
theorem turned_c {s : St} {p : Pr} {ps : List Pr} : ({ s with ps := { p with m := (s.ms.length : Int) + 1 } :: ps } : St).may = false := by
  rw [Bool.eq_false_iff]
  intro h2
  have := St.may_holdP h2 (j := 0) (p := { p with m := (s.ms.length : Int) + 1 }) rfl
  unfold St.holdP at this
  simp only [Bool.and_eq_true, decide_eq_true_eq] at this
  omega
end Go.Proofs.Ytogcfndhcphpaaa
/-
  Boxes of whole structs that a drawn region makes, and stores into. No function of the program is named.
-/
set_option linter.unusedVariables false
set_option linter.unusedSimpArgs false
namespace Go.Proofs.Ytogcfndhcphpaaa
open Go.RowKit

/-- A box of n cells that a region made. -/
def BoxW (T : TypeId) (n : Nat) (w0 w : World) (u : GV) : Prop := ∃ g cs, List.length cs = n ∧ u.v = .pointer (some ⟨g, 0, none⟩) ∧ w0.heap.size ≤ g ∧ (u.s ≤ g ∧ g < u.t) ∧ w.heap[g]? = some (.cells cs.toArray T (0, 0))
theorem BoxW.ext {T : TypeId} {n : Nat} {w0 w w' : World} {u : GV} (h : BoxW T n w0 w u) (hx : Ext w w') : BoxW T n w0 w' u := by
  obtain ⟨g, cs, h0, h1, h2, h3, h4⟩ := h
  exact ⟨g, cs, h0, h1, h2, h3, hx.blk h4⟩
theorem BoxW.chg {T : TypeId} {m : Nat} {w0 w w' : World} {u : GV} {n : Nat} {gs : List GV} (h : BoxW T m w0 w u) (hc : ChgIn w0 n gs w w') : BoxW T m w0 w' u := by
  obtain ⟨g, cs, h0, h1, h2, h3, h4⟩ := h
  obtain ⟨ds, k1, k2, _⟩ := hc.part g _ _ h4
  exact ⟨g, ds.toList, by simpa using k2.trans (by simpa using h0), h1, h2, h3, by simpa using k1⟩
theorem BoxW.made {T : TypeId} {w0 w : World} (h : Ext w0 w) (cs : List Value) : BoxW T cs.length w0 (w.alloc (.cells cs.toArray T)) ⟨.pointer (some ⟨w.heap.size, 0, none⟩), w.heap.size, (w.alloc (.cells cs.toArray T)).heap.size⟩ := ⟨_, cs, rfl, rfl, h.size, ⟨Nat.le_refl _, by simp⟩, blk_new w _⟩
/-- Such a box, its cells told. -/
def HasW (T : TypeId) (w0 w : World) (u : GV) (cs : List Value) : Prop := ∃ g, u.v = .pointer (some ⟨g, 0, none⟩) ∧ w0.heap.size ≤ g ∧ (u.s ≤ g ∧ g < u.t) ∧ w.heap[g]? = some (.cells cs.toArray T (0, 0))
theorem HasW.ext {T : TypeId} {w0 w w' : World} {u : GV} {cs : List Value} (h : HasW T w0 w u cs) (hx : Ext w w') : HasW T w0 w' u cs := by
  obtain ⟨g, h1, h2, h3, h4⟩ := h
  exact ⟨g, h1, h2, h3, hx.blk h4⟩
theorem HasW.far {T : TypeId} {w0 w w' : World} {u : GV} {n : Nat} {gs : List GV} {cs : List Value} (h : HasW T w0 w u cs) (hc : ChgIn w0 n gs w w') (ha : ∀ g ∈ gs, g.apart u) : HasW T w0 w' u cs := by
  obtain ⟨g, h1, h2, h3, h4⟩ := h
  refine ⟨g, h1, h2, h3, (hc.same g (blk_lt h4) fun x hx => ?_).trans h4⟩
  have := ha x hx
  unfold GV.apart at this
  omega
theorem ChgIn.row {w0 w : World} {g : Nat} {u : GV} {T : TypeId} {cs ds : List Value} (hl : cs.length = ds.length) (h0 : Ext w0 w) (hg : w0.heap.size ≤ g) (hi : u.s ≤ g ∧ g < u.t) (hb : w.heap[g]? = some (.cells cs.toArray T (0, 0))) : ChgIn w0 0 [u] w (w.setCells g 0 ds) := by
  have hu := setCells_upd g ds w 0
  refine ⟨h0, h0.upd hu hg, hu.sz, fun b hb' hgs => hu.block b hb' fun he => ?_, fun b es ty hbc => ?_⟩
  · injection he with he
    subst he
    have := hgs u (by simp)
    omega
  · by_cases hbg : b = g
    · subst hbg
      rw [hb] at hbc
      cases hbc
      exact ⟨_, setCells_at cs ds hl hb, by simp [hl], rfl⟩
    · exact ⟨es, hu.blk hbc hbg, rfl, rfl⟩
theorem HasW.get {T : TypeId} {w0 w : World} {v : Value} {s t g : Nat} {cs : List Value} (h : HasW T w0 w ⟨v, s, t⟩ cs) (hv : v = .pointer (some ⟨g, 0, none⟩)) : w0.heap.size ≤ g ∧ w.heap[g]? = some (.cells cs.toArray T (0, 0)) := by
  obtain ⟨g', h1, h2, _, h4⟩ := h
  rw [hv] at h1
  simp only [Value.pointer.injEq, Option.some.injEq, Addr.mk.injEq, and_true] at h1
  subst h1
  exact ⟨h2, h4⟩
end Go.Proofs.Ytogcfndhcphpaaa
/-
  The walk of the statement StatePlaces.
-/
set_option linter.unusedVariables false
set_option linter.unusedSimpArgs false
namespace Go.Proofs.Ytogcfndhcphpaaa
open Go.RowKit

theorem placeAt_cases (n : Int) (hn : n ≠ 0) : ∀ (ps : List Pr) (i : Nat), placeAt n ps i = (3, 0) ∨ ∃ (k : Int) (j : Nat) (p : Pr), (k = 1 ∨ k = 2) ∧ ps[j]? = some p ∧ n ∈ St.queueOf p ∧ placeAt n ps i = (k, ((i + j : Nat) : Int) + 1)
  | [], _ => .inl rfl
  | p :: ps, i => by
    unfold placeAt
    by_cases h1 : p.next = n
    · rw [if_pos h1]
      refine .inr ⟨1, 0, p, .inl rfl, rfl, ?_, rfl⟩
      unfold St.queueOf
      rw [if_pos (by rw [h1]; exact hn), h1]
      simp
    · rw [if_neg h1]
      by_cases h2 : n ∈ p.ring.list
      · rw [if_pos h2]
        refine .inr ⟨2, 0, p, .inr rfl, rfl, ?_, rfl⟩
        unfold St.queueOf
        exact List.mem_append_right _ h2
      · rw [if_neg h2]
        rcases placeAt_cases n hn ps (i + 1) with h | ⟨k, j, q, hk, hq, hm, he⟩
        · exact .inl h
        · exact .inr ⟨k, j + 1, q, hk, hq, hm, by rw [he]; congr 2; omega⟩
theorem waitAt_cases (n : Int) : ∀ (ls : List (List Int)) (i : Nat), waitAt n ls i = (6, 0) ∨ ∃ m : Int, waitAt n ls i = (5, m)
  | [], _ => .inl rfl
  | l :: ls, i => by
    unfold waitAt
    by_cases h : n ∈ l
    · rw [if_pos h]; exact .inr ⟨_, rfl⟩
    · rw [if_neg h]; exact waitAt_cases n ls (i + 1)
theorem St.queue_times {s : St} {i : Nat} {p : Pr} (hp : s.ps[i]? = some p) (n : Int) : St.times (St.queueOf p) n ≤ St.times s.runs n := by
  unfold St.times St.runs
  have e : s.ps.flatMap St.queueOf = (s.ps.take (i + 1)).flatMap St.queueOf ++ (s.ps.drop (i + 1)).flatMap St.queueOf := by rw [← List.flatMap_append, List.take_append_drop]
  rw [e, flatMap_next St.queueOf hp]
  simp only [List.count_append]
  omega
/-- Where a G that can run is. -/
theorem St.place_run {s : St} (h : s.may = true) {j : Nat} {g : Gr} (hg : s.gs[j]? = some g) (hs : g.st = 1) : s.place ((j : Int) + 1) = (3, 0) ∨ ∃ (k : Int) (i : Nat) (p : Pr), (k = 1 ∨ k = 2) ∧ s.place ((j : Int) + 1) = (k, (i : Int) + 1) ∧ s.queue ((i : Int) + 1) = St.queueOf p ∧ St.times (St.queueOf p) ((j : Int) + 1) = 1 := by
  have h1 := (St.stands_times ((St.may_parts h).2.2.2.2.2 j g hg)).1
  rw [St.place_yes h hg]
  unfold St.placeOf
  rw [if_pos hs]
  rcases placeAt_cases ((j : Int) + 1) (by omega) s.ps 0 with he | ⟨k, i, p, hk, hp, hm, he⟩
  · exact .inl he
  · refine .inr ⟨k, i, p, hk, by rw [he]; simp, ?_, ?_⟩
    · refine St.queue_yes ?_ h hp
      by_cases hpr : s.procs ≤ i
      · rw [St.may_empty h hp hpr] at hm; simp at hm
      · omega
    · have h2 := St.queue_times hp ((j : Int) + 1)
      have h3 : 1 ≤ St.times (St.queueOf p) ((j : Int) + 1) := List.count_pos_iff.2 hm
      rw [h1, hs] at h2
      simp [St.want] at h2
      omega
/-- Who is on an M is its G. -/
theorem St.place_m {s : St} (h : s.may = true) {j : Nat} {g : Gr} (hg : s.gs[j]? = some g) {k n : Int} (hp : s.place ((j : Int) + 1) = (k, n)) (hk : k = 4 ∨ k = 7) : (s.ms.getD (n - 1).toNat (0, 0)).2 = (j : Int) + 1 := by
  have hst := St.may_stands h hg
  rw [St.place_yes h hg] at hp
  unfold St.placeOf at hp
  by_cases h1 : g.st = 1
  · rw [if_pos h1] at hp
    rcases placeAt_cases ((j : Int) + 1) (by omega) s.ps 0 with he | ⟨k', i, p, hk', _, _, he⟩
    · rw [he] at hp; simp only [Prod.mk.injEq] at hp; omega
    · rw [he] at hp; simp only [Prod.mk.injEq] at hp; omega
  rw [if_neg h1] at hp
  have key : g.st = 2 ∨ g.st = 4 → g.m = n → (s.ms.getD (n - 1).toNat (0, 0)).2 = (j : Int) + 1 := fun h24 hmn => by
    unfold St.stands at hst
    rw [if_neg (by omega)] at hst
    simp only [Bool.and_eq_true, decide_eq_true_eq] at hst
    rw [← hmn]
    exact hst.2.2
  by_cases h2 : g.st = 2
  · rw [if_pos h2] at hp
    simp only [Prod.mk.injEq] at hp
    exact key (.inl h2) hp.2
  rw [if_neg h2] at hp
  by_cases h4 : g.st = 4
  · rw [if_pos h4] at hp
    simp only [Prod.mk.injEq] at hp
    exact key (.inr h4) hp.2
  rw [if_neg h4] at hp
  by_cases h5 : g.st = 5
  · rw [if_pos h5] at hp
    simp only [Prod.mk.injEq] at hp
    omega
  · rw [if_neg h5] at hp
    rcases waitAt_cases ((j : Int) + 1) s.wts 0 with he | ⟨m, he⟩
    · rw [he] at hp; simp only [Prod.mk.injEq] at hp; omega
    · rw [he] at hp; simp only [Prod.mk.injEq] at hp; omega
/-- What a G's place is, by its status. -/
theorem St.place_st {s : St} (h : s.may = true) {j : Nat} {g : Gr} (hg : s.gs[j]? = some g) : (g.st = 1 ∧ s.place ((j : Int) + 1) = (3, 0)) ∨ (g.st = 1 ∧ ∃ (k : Int) (i : Nat) (p : Pr), (k = 1 ∨ k = 2) ∧ s.place ((j : Int) + 1) = (k, (i : Int) + 1) ∧ s.queue ((i : Int) + 1) = St.queueOf p ∧ St.times (St.queueOf p) ((j : Int) + 1) = 1) ∨
    (g.st = 2 ∧ s.place ((j : Int) + 1) = (4, g.m)) ∨ (g.st = 4 ∧ s.place ((j : Int) + 1) = (7, g.m)) ∨ (g.st = 5 ∧ s.place ((j : Int) + 1) = (8, 0)) ∨ (g.st = 3 ∧ (s.place ((j : Int) + 1) = (6, 0) ∨ ∃ m : Int, s.place ((j : Int) + 1) = (5, m))) := by
  have hst := St.may_st h hg
  by_cases h1 : g.st = 1
  · rcases St.place_run h hg h1 with he | he
    · exact .inl ⟨h1, he⟩
    · exact .inr (.inl ⟨h1, he⟩)
  have hpo := St.place_yes h hg
  unfold St.placeOf at hpo
  rw [if_neg h1] at hpo
  by_cases h2 : g.st = 2
  · rw [if_pos h2] at hpo; exact .inr (.inr (.inl ⟨h2, hpo⟩))
  rw [if_neg h2] at hpo
  by_cases h4 : g.st = 4
  · rw [if_pos h4] at hpo; exact .inr (.inr (.inr (.inl ⟨h4, hpo⟩)))
  rw [if_neg h4] at hpo
  by_cases h5 : g.st = 5
  · rw [if_pos h5] at hpo; exact .inr (.inr (.inr (.inr (.inl ⟨h5, hpo⟩))))
  rw [if_neg h5] at hpo
  refine .inr (.inr (.inr (.inr (.inr ⟨by omega, ?_⟩))))
  rw [hpo]
  exact waitAt_cases _ _ _
end Go.Proofs.Ytogcfndhcphpaaa
/-
  Copies of a state in a drawn region.
-/
set_option linter.unusedVariables false
set_option linter.unusedSimpArgs false
namespace Go.Proofs.Ytogcfndhcphpaaa
open Go.RowKit

theorem OwnRows.but {α : Type} {e : TypeId} {m : Nat} {f : α → List Value} {w w' : World} {B : Nat} {v : Value} {xs : List α} {S : Nat → Prop} (h : OwnRows e m f w B v xs) (k : But S w w') (hs : ∀ b, v.ownBlock = some b → ¬ S b) : OwnRows e m f w' B v xs := by
  refine ⟨h.1, ?_⟩
  rcases h.2 with h1 | ⟨g, cap, cur, rfl, hb, hg, rest⟩
  · exact .inl h1
  · exact .inr ⟨g, cap, cur, rfl, hb, (k.block g (blk_lt hg) (hs g rfl)).trans hg, rest⟩
theorem OwnInts.but {w w' : World} {B : Nat} {v : Value} {xs : List Int} {S : Nat → Prop} (h : OwnInts w B v xs) (k : But S w w') (hs : ∀ b, v.ownBlock = some b → ¬ S b) : OwnInts w' B v xs := by
  refine ⟨h.1, ?_⟩
  rcases h.2 with h1 | ⟨g, cap, cur, rfl, hb, hg, rest⟩
  · exact .inl h1
  · exact .inr ⟨g, cap, cur, rfl, hb, (k.block g (blk_lt hg) (hs g rfl)).trans hg, rest⟩
/-- Nothing of a copy changes where only other blocks do. -/
theorem StApart.but {B T : Nat} {w w' : World} {I : Nat → Nat × Nat} {h : StH} {s : St} {S : Nat → Prop} (k : StApart B w I h s) (c : But S w w') (hT : ∀ i, i < 10 → (I i).2 ≤ T) (hs : ∀ b, B ≤ b → b < T → ¬ S b) : StApart B w' I h s := by
  have r := fun (i : Nat) (hi : i < 10) (b : Nat) (h1 : (I i).1 ≤ b) (h2 : b < (I i).2) => hs b (Nat.le_trans (k.low i hi).1 h1) (Nat.lt_of_lt_of_le h2 (hT i hi))
  exact ⟨fun i hi => ⟨(k.low i hi).1, (k.low i hi).2.1, Nat.le_trans (k.low i hi).2.2 c.size⟩, k.apart, k.prog.but c (r 0 (by omega)),
    ⟨k.gs.1.but c fun b hb => r 1 (by omega) b (k.gs.1.lt b hb).1 (k.gs.2 b hb), k.gs.2⟩,
    ⟨k.ps.1.but c fun b hb => r 2 (by omega) b (k.ps.1.lt b hb).1 (k.ps.2 b hb), k.ps.2⟩,
    ⟨k.ms.1.but c fun b hb => r 3 (by omega) b (k.ms.1.lt b hb).1 (k.ms.2 b hb), k.ms.2⟩,
    ⟨k.glob.1.but c fun b hb => r 4 (by omega) b (World.ownsRow.lt k.glob.1 b hb).1 (k.glob.2 b hb), k.glob.2⟩,
    ⟨k.w0.1.but c fun b hb => r 5 (by omega) b (World.ownsRow.lt k.w0.1 b hb).1 (k.w0.2 b hb), k.w0.2⟩,
    ⟨k.w1.1.but c fun b hb => r 6 (by omega) b (World.ownsRow.lt k.w1.1 b hb).1 (k.w1.2 b hb), k.w1.2⟩,
    ⟨k.w2.1.but c fun b hb => r 7 (by omega) b (World.ownsRow.lt k.w2.1 b hb).1 (k.w2.2 b hb), k.w2.2⟩,
    ⟨k.w3.1.but c fun b hb => r 8 (by omega) b (World.ownsRow.lt k.w3.1 b hb).1 (k.w3.2 b hb), k.w3.2⟩,
    ⟨OwnRows.but k.timers.1 c fun b hb => r 9 (by omega) b (OwnRows.lt k.timers.1 b hb).1 (k.timers.2 b hb), k.timers.2⟩⟩
/-- A copy that an operation of a region made: its handle, its blocks. -/
def CopW (B : Nat) (s : St) (w : World) (u : GV) (h : StH) : Prop := B ≤ u.s ∧ ∃ I, StApart u.s w I h s ∧ (∀ i, i < 10 → (I i).2 ≤ u.t) ∧ u.t ≤ w.heap.size
theorem CopW.ext {B : Nat} {s : St} {w w' : World} {u : GV} {h : StH} (k : CopW B s w u h) (hx : Ext w w') : CopW B s w' u h := by
  obtain ⟨h0, I, h1, h2, h3⟩ := k
  exact ⟨h0, I, h1.but (S := fun _ => False) (But.ext hx) h2 (fun _ _ _ h => h), h2, Nat.le_trans h3 hx.size⟩
theorem CopW.far {B : Nat} {s : St} {w0 w w' : World} {u : GV} {h : StH} {n : Nat} {gs : List GV} (k : CopW B s w u h) (hc : ChgIn w0 n gs w w') (ha : ∀ g ∈ gs, g.apart u) : CopW B s w' u h := by
  obtain ⟨h0, I, h1, h2, h3⟩ := k
  refine ⟨h0, I, h1.but (S := fun b => ¬ (u.s ≤ b ∧ b < u.t)) ⟨hc.new.os.trans hc.old.os.symm, hc.new.tape.trans hc.old.tape.symm, hc.new.output.trans hc.old.output.symm, hc.size, fun b hb hn => hc.same b hb fun x hx => ?_⟩ h2 (fun b a1 a2 h => h ⟨a1, a2⟩), h2, Nat.le_trans h3 hc.size⟩
  have := ha x hx
  unfold GV.apart at this
  have hin : u.s ≤ b ∧ b < u.t := Classical.not_not.1 hn
  omega
end Go.Proofs.Ytogcfndhcphpaaa
/-
  Parts of a slice of numbers.
-/
set_option linter.unusedVariables false
set_option linter.unusedSimpArgs false
namespace Go.Proofs.Ytogcfndhcphpaaa
open Go.RowKit

def advK (A : Option Addr) (k c : Nat) : Option Addr := if c = k then A else A.map fun a => a.add k
theorem isize_run : ∀ w, (sizeOf 3).run Try.prog w = .ok 1 w := fun w => by kernel_rfl
theorem irun_to (A : Option Addr) (n c k : Nat) (h1 : k ≤ n) (h2 : n ≤ c) (v : World) : (Instr.slice 27 (.slice A n c) none (some (.int .i64 k)) none).run Try.prog v = .ok (.slice A k c) v := by
  have hk : (k : Int) ≤ (c : Int) := by omega
  simp [Instr.slice, run_underlying Try.underlying27, Instr.sliceBounds, Instr.sliceBound, asIntOf, hk, isize_run]
  rw [if_pos (by omega)]
  have hA' : (if c = 0 then A else Option.map (fun x => x.add 0) A) = A := by cases A <;> simp [Addr.add]
  rw [hA']
theorem irun_from (A : Option Addr) (n c k : Nat) (h1 : k ≤ n) (h2 : n ≤ c) (v : World) : (Instr.slice 27 (.slice A n c) (some (.int .i64 k)) none none).run Try.prog v = .ok (.slice (advK A k c) (n - k) (c - k)) v := by
  have hk : (k : Int) ≤ (n : Int) := by omega
  simp [Instr.slice, run_underlying Try.underlying27, Instr.sliceBounds, Instr.sliceBound, asIntOf, hk, isize_run]
  rw [if_pos h1]
  rfl
theorem IntsAt.upto {A : Option Addr} {n c k : Nat} {w : World} {xs : List Int} (h : IntsAt w (.slice A n c) xs) (hk : k ≤ xs.length) : IntsAt w (.slice A k c) (xs.take k) := by
  obtain ⟨A', c', hv, hA⟩ := h
  simp only [Value.slice.injEq] at hv
  obtain ⟨rfl, rfl, rfl⟩ := hv
  refine ⟨A, c, by rw [List.length_take, Nat.min_eq_left hk], fun h0 => ?_⟩
  rw [List.length_take] at h0
  obtain ⟨b, o, hb, hlt, hc⟩ := hA (by omega)
  refine ⟨b, o, hb, hlt, fun j x hj => hc j x ?_⟩
  rw [List.getElem?_take] at hj
  split at hj
  · exact hj
  · cases hj
theorem IntsAt.behind {A : Option Addr} {n c k : Nat} {w : World} {xs : List Int} (h : IntsAt w (.slice A n c) xs) (hk : k ≤ xs.length) (hc : n ≤ c) : IntsAt w (.slice (advK A k c) (n - k) (c - k)) (xs.drop k) := by
  obtain ⟨A', c', hv, hA⟩ := h
  simp only [Value.slice.injEq] at hv
  obtain ⟨rfl, rfl, rfl⟩ := hv
  refine ⟨_, _, by rw [List.length_drop], fun h0 => ?_⟩
  rw [List.length_drop] at h0
  obtain ⟨b, o, hb, hlt, hcell⟩ := hA (by omega)
  refine ⟨b, o + k, ?_, hlt, fun j x hj => ?_⟩
  · unfold advK
    rw [if_neg (by omega), hb]
    simp [Addr.add]
  · rw [List.getElem?_drop] at hj
    have := hcell (k + j) x hj
    rwa [show o + (k + j) = o + k + j by omega] at this
/-- A copy whose global queue is another one. -/
theorem StApart.okGlob {B T : Nat} {w w' : World} {I : Nat → Nat × Nat} {h : StH} {s : St} {S : Nat → Prop} (k : StApart B w I h s) (c : But S w w') (hT : ∀ i, i < 10 → (I i).2 ≤ T) (hs : ∀ b, B ≤ b → b < T → S b → (I 4).1 ≤ b ∧ b < (I 4).2) (hb : ∀ p ∈ s.ps, p.ring.buf.length = 8) {A : Option Addr} {cc : Nat} {l : List Int} (hg : IntsAt w' (.slice A l.length cc) l) : StOk w' { h with la := A, lc := cc } { s with glob := l } := by
  have r := fun (i : Nat) (hi : i < 10) (h4 : i ≠ 4) (b : Nat) (h1 : (I i).1 ≤ b) (h2 : b < (I i).2) => show ¬ S b from fun hS => by
    have a1 := (k.low i hi).1
    have a2 := hT i hi
    have a3 := hs b (by omega) (by omega) hS
    have a4 := k.apart i 4 hi (by omega) h4
    omega
  exact ⟨(k.prog.but c (r 0 (by omega) (by omega))).nest, OwnRows.rows gL_len (k.gs.1.but c fun b hb => r 1 (by omega) (by omega) b (k.gs.1.lt b hb).1 (k.gs.2 b hb)),
    OwnRows.rows pL_len (k.ps.1.but c fun b hb => r 2 (by omega) (by omega) b (k.ps.1.lt b hb).1 (k.ps.2 b hb)), OwnRows.rows pairL_len (k.ms.1.but c fun b hb => r 3 (by omega) (by omega) b (k.ms.1.lt b hb).1 (k.ms.2 b hb)), hg,
    (k.w0.1.but c fun b hb => r 5 (by omega) (by omega) b (World.ownsRow.lt k.w0.1 b hb).1 (k.w0.2 b hb)).at.2, (k.w1.1.but c fun b hb => r 6 (by omega) (by omega) b (World.ownsRow.lt k.w1.1 b hb).1 (k.w1.2 b hb)).at.2,
    (k.w2.1.but c fun b hb => r 7 (by omega) (by omega) b (World.ownsRow.lt k.w2.1 b hb).1 (k.w2.2 b hb)).at.2, (k.w3.1.but c fun b hb => r 8 (by omega) (by omega) b (World.ownsRow.lt k.w3.1 b hb).1 (k.w3.2 b hb)).at.2,
    (show OwnTs w' (I 9).1 _ _ from OwnRows.but k.timers.1 c fun b hb => r 9 (by omega) (by omega) b (OwnRows.lt k.timers.1 b hb).1 (k.timers.2 b hb)).pairs, hb⟩
/-- A copy whose Ps are others, at their old place. -/
theorem StApart.okPs {B T : Nat} {w w' : World} {I : Nat → Nat × Nat} {h : StH} {s : St} {S : Nat → Prop} (k : StApart B w I h s) (c : But S w w') (hT : ∀ i, i < 10 → (I i).2 ≤ T) (hs : ∀ b, B ≤ b → b < T → S b → (I 2).1 ≤ b ∧ b < (I 2).2) {ps : List Pr} (hb : ∀ p ∈ ps, p.ring.buf.length = 8) (hg : RowsAt 13 pL w' (.slice h.qa ps.length h.qc) ps) : StOk w' h { s with ps := ps } := by
  have r := fun (i : Nat) (hi : i < 10) (h4 : i ≠ 2) (b : Nat) (h1 : (I i).1 ≤ b) (h2 : b < (I i).2) => show ¬ S b from fun hS => by
    have a1 := (k.low i hi).1
    have a2 := hT i hi
    have a3 := hs b (by omega) (by omega) hS
    have a4 := k.apart i 2 hi (by omega) h4
    omega
  exact ⟨(k.prog.but c (r 0 (by omega) (by omega))).nest, OwnRows.rows gL_len (k.gs.1.but c fun b hb => r 1 (by omega) (by omega) b (k.gs.1.lt b hb).1 (k.gs.2 b hb)), hg,
    OwnRows.rows pairL_len (k.ms.1.but c fun b hb => r 3 (by omega) (by omega) b (k.ms.1.lt b hb).1 (k.ms.2 b hb)), (k.glob.1.but c fun b hb => r 4 (by omega) (by omega) b (World.ownsRow.lt k.glob.1 b hb).1 (k.glob.2 b hb)).at.2,
    (k.w0.1.but c fun b hb => r 5 (by omega) (by omega) b (World.ownsRow.lt k.w0.1 b hb).1 (k.w0.2 b hb)).at.2, (k.w1.1.but c fun b hb => r 6 (by omega) (by omega) b (World.ownsRow.lt k.w1.1 b hb).1 (k.w1.2 b hb)).at.2,
    (k.w2.1.but c fun b hb => r 7 (by omega) (by omega) b (World.ownsRow.lt k.w2.1 b hb).1 (k.w2.2 b hb)).at.2, (k.w3.1.but c fun b hb => r 8 (by omega) (by omega) b (World.ownsRow.lt k.w3.1 b hb).1 (k.w3.2 b hb)).at.2,
    (show OwnTs w' (I 9).1 _ _ from OwnRows.but k.timers.1 c fun b hb => r 9 (by omega) (by omega) b (OwnRows.lt k.timers.1 b hb).1 (k.timers.2 b hb)).pairs, hb⟩
end Go.Proofs.Ytogcfndhcphpaaa
/-
  Arguments that are slices of anything that is read cell by cell, opened: by how one element is read.
-/
set_option linter.unusedVariables false
set_option linter.unusedSimpArgs false
namespace Go.Proofs.Ytogcfndhcphpaaa
open Go.ChangeShapes Go.WideShapes Go.Deep Go.RowKit

/-- A slice of elements of m cells, each read by R. -/
def RecsAt {α : Type} (m : Nat) (R : World → List Value → α → Prop) (w : World) (v : Value) (xs : List α) : Prop :=
  ∃ A c, v = .slice A xs.length c ∧ xs.length ≤ c ∧ (0 < xs.length → ∃ b o, A = some ⟨b, o, none⟩ ∧ b < w.heap.size ∧ ∀ j x, xs[j]? = some x → ∃ cs : List Value, cs.length = m ∧ R w cs x ∧ ∀ i u, cs[i]? = some u → w.cell? ⟨b, o + j * m + i, none⟩ = some u)
theorem RecsAt.ext {α : Type} {m : Nat} {R : World → List Value → α → Prop} {w w' : World} {v : Value} {xs : List α} (h : RecsAt m R w v xs) (hx : Ext w w') (hR : ∀ cs x, R w cs x → R w' cs x) : RecsAt m R w' v xs := by
  obtain ⟨A, c, rfl, hc, hA⟩ := h
  refine ⟨A, c, rfl, hc, fun h0 => ?_⟩
  obtain ⟨b, o, hb, hlt, hk⟩ := hA h0
  refine ⟨b, o, hb, Nat.lt_of_lt_of_le hlt hx.size, fun j x hj => ?_⟩
  obtain ⟨cs, h1, h2, h3⟩ := hk j x hj
  exact ⟨cs, h1, hR _ _ h2, fun i u hu => by rw [Below.cell hx hlt]; exact h3 i u hu⟩
theorem RecsAt.rows {α : Type} {m : Nat} {f : α → List Value} {w : World} {v : Value} {xs : List α} (h : RecsAt m (fun _ cs x => cs = f x) w v xs) : RowsAt m f w v xs := by
  obtain ⟨A, c, rfl, hc, hA⟩ := h
  refine ⟨A, c, rfl, hc, fun h0 => ?_⟩
  obtain ⟨b, o, hb, hlt, hk⟩ := hA h0
  refine ⟨b, o, hb, hlt, fun j x hj i u hu => ?_⟩
  obtain ⟨cs, _, rfl, h3⟩ := hk j x hj
  exact h3 i u hu
section
variable {H : Type} {enc : TypeId × Value → H} {P : Program} {w : World} {base : Nat} {held : Bool}
theorem open_recs {α : Type} {R : World → List Value → α → Prop} {G : α → Prop} {m : Nat} (x0 : α) {t e : TypeId} {fuel len cap : Nat} {A : Option Addr} {x : DataW H × List MemPlace} (ht : P.underlying t = some (.slice e)) (hC : P.cellsOf e = m) (hm0 : 0 < m)
    (elem : ∀ (n : Nat) (cs : List Value) (y : DataW H × List MemPlace), DataW.trod enc P w base (fun _ => true) held n e cs = some y → ∃ x : α, R w cs x ∧ G x)
    (h : DataW.trod enc P w base (fun _ => true) held fuel t [.slice A len cap] = some x) :
    len ≤ maxLen ∧ ∃ l : List α, l.length = len ∧ RecsAt m R w (.slice A len cap) l ∧ ∀ x ∈ l, G x := by
  rcases open_slice ht h with ⟨h0, _⟩ | ⟨a, l, c, mm, n, D, Pl, hcs, _, hl, hm, hmm, _, hi⟩
  · simp at h0
    obtain ⟨rfl, rfl, rfl⟩ := h0
    exact ⟨by simp [maxLen], [], rfl, ⟨none, 0, rfl, Nat.le_refl _, fun h => by simp at h⟩, by simp⟩
  · simp at hcs
    obtain ⟨rfl, rfl, rfl⟩ := hcs
    have hmc : mm = cap := by simpa using hmm
    subst hmc
    have key : ∀ i, i < len → ∃ x : α, G x ∧ ∃ cs : List Value, cs.length = m ∧ R w cs x ∧ ∀ j u, cs[j]? = some u → w.cell? (a.add (i * m + j)) = some u := fun i hi' => by
      obtain ⟨cs', hc, ht'⟩ := hi i (by omega)
      rw [hC] at hc
      obtain ⟨x, hx, hg⟩ := elem _ _ _ ht'
      obtain ⟨_, hcl, hat⟩ := World.cells?_some hc
      refine ⟨x, hg, cs', hcl, hx, fun j u hj => ?_⟩
      have hjl : j < m := by rw [← hcl]; exact (List.getElem?_eq_some_iff.1 hj).1
      rw [← Go.Deep.add_add, hat j hjl, hj]
    refine ⟨by omega, (List.range len).map fun i => if h : i < len then (key i h).choose else x0, by simp, ⟨some a, mm, by simp, by simpa using hl, fun hpos => ?_⟩, ?_⟩
    · obtain ⟨b, o, spot⟩ := a
      have hl0 : 0 < len := by simpa using hpos
      have h00 : ∃ u, w.cell? ((⟨b, o, spot⟩ : Addr).add 0) = some u := by
        obtain ⟨_, _, cs, hcl, _, hat⟩ := key 0 hl0
        refine ⟨cs[0]'(by omega), ?_⟩
        have := hat 0 _ (List.getElem?_eq_getElem (by omega))
        simpa using this
      have hspot : spot = none := by
        obtain ⟨u, hu⟩ := h00
        simpa [Addr.add] using World.cell?_spot hu
      subst hspot
      refine ⟨b, o, rfl, ?_, fun j p hj => ?_⟩
      · obtain ⟨u, hu⟩ := h00
        rw [Addr.add_lit] at hu
        exact block_lt_of_cell hu
      · rw [List.getElem?_map] at hj
        have hjl : j < len := by
          rcases Nat.lt_or_ge j len with h | h
          · exact h
          · rw [List.getElem?_eq_none (by simpa using h)] at hj; simp at hj
        rw [List.getElem?_range hjl] at hj
        simp only [Option.map_some, Option.some.injEq, hjl, dif_pos] at hj
        obtain ⟨_, cs, k0, k1, k2⟩ := (key j hjl).choose_spec
        rw [hj] at k1
        refine ⟨cs, k0, k1, fun i u hu => ?_⟩
        have := k2 i u hu
        rw [Addr.add_lit] at this
        rw [Nat.add_assoc]
        exact this
    · intro x hx
      obtain ⟨i, hi', rfl⟩ := List.mem_map.1 hx
      have hil := List.mem_range.1 hi'
      rw [dif_pos hil]
      exact (key i hil).choose_spec.1
/-- The cells of a struct whose fields are of one cell. -/
theorem cells_fields {e : TypeId} {fs : Array Field} {n : Nat} {cs : List Value} {y : DataW H × List MemPlace} (he : P.underlying e = some (.struct fs)) (hone : oneCellFields P fs = true) (hC : P.cellsOf e = fs.size)
    (h : DataW.trod enc P w base (fun _ => true) held n e cs = some y) :
    cs.length = fs.size ∧ ∀ (j : Nat) (f : Field), fs[j]? = some f → ∃ (v : Value) (z : DataW H × List MemPlace) (k : Nat), cs[j]? = some v ∧ DataW.trod enc P w base (fun _ => true) held k f.type [v] = some z := by
  obtain ⟨ys, n', hn', hy, hlen, hyl, hf⟩ := DataW.trod_struct he h
  refine ⟨by rw [hlen, hC], fun j f hj => ?_⟩
  obtain ⟨ho, hk⟩ := hone_of hone j f hj
  have hjl : j < fs.size := (Array.getElem?_eq_some_iff.1 hj).1
  have h1 := hf j f hj
  rw [ho, hk] at h1
  have hone' : (cs.drop j).take 1 = [cs[j]'(by omega)] := by
    rw [List.drop_eq_getElem_cons (by omega)]
    rfl
  rw [hone'] at h1
  have hys : ys[j]? = some (ys[j]'(by omega)) := List.getElem?_eq_getElem (by omega)
  exact ⟨_, _, _, List.getElem?_eq_getElem (by omega), h1.trans hys⟩
theorem cells_int {t : TypeId} {n : Nat} {v : Value} {y : DataW H × List MemPlace} (t0 : P.underlying t = some (.int .i64)) (h : DataW.trod enc P w base (fun _ => true) held n t [v] = some y) : ∃ a : Int, v = .int .i64 a ∧ (Lit.int .i64 a).wf = true := by
  obtain ⟨a, e0, _, w0⟩ := DataW.trod_int t0 h
  simp at e0
  exact ⟨a, e0, w0⟩
theorem cells_pair {e : TypeId} {f0 f1 : Field} {n : Nat} {cs : List Value} {y : DataW H × List MemPlace} (he : P.underlying e = some (.struct #[f0, f1])) (hone : oneCellFields P #[f0, f1] = true) (hC : P.cellsOf e = 2)
    (t0 : P.underlying f0.type = some (.int .i64)) (t1 : P.underlying f1.type = some (.int .i64)) (h : DataW.trod enc P w base (fun _ => true) held n e cs = some y) :
    ∃ p : Int × Int, cs = [.int .i64 p.1, .int .i64 p.2] ∧ (Lit.int .i64 p.1).wf = true ∧ (Lit.int .i64 p.2).wf = true := by
  obtain ⟨hl, hf⟩ := cells_fields he hone hC h
  obtain ⟨v0, _, _, c0, h0⟩ := hf 0 f0 rfl
  obtain ⟨v1, _, _, c1, h1⟩ := hf 1 f1 rfl
  obtain ⟨a, rfl, wa⟩ := cells_int t0 h0
  obtain ⟨b, rfl, wb⟩ := cells_int t1 h1
  match cs, hl, c0, c1 with
  | [u0, u1], _, c0, c1 =>
    simp only [List.getElem?_cons_zero, List.getElem?_cons_succ, Option.some.injEq] at c0 c1
    subst c0 c1
    exact ⟨(a, b), rfl, wa, wb⟩
theorem cells_four {e : TypeId} {f0 f1 f2 f3 : Field} {n : Nat} {cs : List Value} {y : DataW H × List MemPlace} (he : P.underlying e = some (.struct #[f0, f1, f2, f3])) (hone : oneCellFields P #[f0, f1, f2, f3] = true) (hC : P.cellsOf e = 4)
    (t0 : P.underlying f0.type = some (.int .i64)) (t1 : P.underlying f1.type = some (.int .i64)) (t2 : P.underlying f2.type = some (.int .i64)) (t3 : P.underlying f3.type = some (.int .i64)) (h : DataW.trod enc P w base (fun _ => true) held n e cs = some y) :
    ∃ p : Int × Int × Int × Int, cs = [.int .i64 p.1, .int .i64 p.2.1, .int .i64 p.2.2.1, .int .i64 p.2.2.2] ∧ (Lit.int .i64 p.1).wf = true ∧ (Lit.int .i64 p.2.1).wf = true ∧ (Lit.int .i64 p.2.2.1).wf = true ∧ (Lit.int .i64 p.2.2.2).wf = true := by
  obtain ⟨hl, hf⟩ := cells_fields he hone hC h
  obtain ⟨v0, _, _, c0, h0⟩ := hf 0 f0 rfl
  obtain ⟨v1, _, _, c1, h1⟩ := hf 1 f1 rfl
  obtain ⟨v2, _, _, c2, h2⟩ := hf 2 f2 rfl
  obtain ⟨v3, _, _, c3, h3⟩ := hf 3 f3 rfl
  obtain ⟨a, rfl, wa⟩ := cells_int t0 h0
  obtain ⟨b, rfl, wb⟩ := cells_int t1 h1
  obtain ⟨c, rfl, wc⟩ := cells_int t2 h2
  obtain ⟨d, rfl, wd⟩ := cells_int t3 h3
  match cs, hl, c0, c1, c2, c3 with
  | [u0, u1, u2, u3], _, c0, c1, c2, c3 =>
    simp only [List.getElem?_cons_zero, List.getElem?_cons_succ, Option.some.injEq] at c0 c1 c2 c3
    subst c0 c1 c2 c3
    exact ⟨(a, b, c, d), rfl, wa, wb, wc, wd⟩
/-- A field of one cell that is a slice. -/
theorem cells_slice {t e : TypeId} {n : Nat} {v : Value} {y : DataW H × List MemPlace} (ht : P.underlying t = some (.slice e)) (h : DataW.trod enc P w base (fun _ => true) held n t [v] = some y) : ∃ A len cap, v = .slice A len cap := by
  rcases open_slice ht h with ⟨h0, _⟩ | ⟨a, l, c, mm, n, D, Pl, hcs, _⟩
  · simp at h0; exact ⟨_, _, _, h0⟩
  · simp at hcs; exact ⟨_, _, _, hcs⟩
end
end Go.Proofs.Ytogcfndhcphpaaa
/-
  Arguments that are structs of a row of eight numbers and two numbers, opened.
-/
set_option linter.unusedVariables false
set_option linter.unusedSimpArgs false
namespace Go.Proofs.Ytogcfndhcphpaaa
open Go.ChangeShapes Go.WideShapes Go.Deep Go.RowKit
section
variable {H : Type} {enc : TypeId × Value → H} {P : Program} {w : World} {base : Nat} {held : Bool}
theorem okWide_struct {fs : Array Field} {r : Reach} {b0 : Nat} {t : TypeId} {v : Value} (ht : P.underlying t = some (.struct fs)) (h : Value.okWide P w r b0 t v) : ∃ cs, v = .agg cs ∧ cs.size = P.cellsOf t := by
  simp only [Value.okWide, ht] at h
  obtain ⟨cs, h1, h2, _⟩ := h
  exact ⟨cs, h1, h2⟩
theorem array10 {α : Type} {cs : Array α} (h : cs.size = 10) : ∃ c0 c1 c2 c3 c4 c5 c6 c7 c8 c9, cs = #[c0, c1, c2, c3, c4, c5, c6, c7, c8, c9] := by
  obtain ⟨l⟩ := cs
  match l, h with
  | [c0, c1, c2, c3, c4, c5, c6, c7, c8, c9], _ => exact ⟨c0, c1, c2, c3, c4, c5, c6, c7, c8, c9, rfl⟩
theorem ring_cells {t e : TypeId} {f0 f1 f2 : Field} {n : Nat} {c0 c1 c2 c3 c4 c5 c6 c7 c8 c9 : Value} {x : DataW H × List MemPlace} (hs : P.underlying t = some (.struct #[f0, f1, f2]))
    (o : f0.offset = 0 ∧ f1.offset = 8 ∧ f2.offset = 9) (hc : P.cellsOf f0.type = 8 ∧ P.cellsOf f1.type = 1 ∧ P.cellsOf f2.type = 1) (ta : P.underlying f0.type = some (.array 8 e)) (te : P.underlying e = some (.int .i64)) (hce : P.cellsOf e = 1)
    (t1 : P.underlying f1.type = some (.int .i64)) (t2 : P.underlying f2.type = some (.int .i64)) (h : DataW.trod enc P w base (fun _ => true) held n t [c0, c1, c2, c3, c4, c5, c6, c7, c8, c9] = some x) :
    ∃ b0 b1 b2 b3 b4 b5 b6 b7 hd nn : Int, [c0, c1, c2, c3, c4, c5, c6, c7, c8, c9] = [b0, b1, b2, b3, b4, b5, b6, b7, hd, nn].map (Value.int .i64) ∧ ∀ z ∈ [b0, b1, b2, b3, b4, b5, b6, b7, hd, nn], (Lit.int .i64 z).wf = true := by
  obtain ⟨xs, m, _, _, _, hl, hf⟩ := DataW.trod_struct hs h
  match xs, hl with
  | [y0, y1, y2], _ =>
    have h0 := hf 0 f0 rfl
    have h1 := hf 1 f1 rfl
    have h2 := hf 2 f2 rfl
    rw [o.1, hc.1] at h0
    rw [o.2.1, hc.2.1] at h1
    rw [o.2.2, hc.2.2] at h2
    obtain ⟨x8, e8, _, w8⟩ := DataW.trod_int t1 h1
    obtain ⟨x9, e9, _, w9⟩ := DataW.trod_int t2 h2
    obtain ⟨ys, m', _, _, _, hl', hel⟩ := DataW.trod_array ta h0
    have at8 : ∀ i (hi : i < 8), ∃ z : Int, ([c0, c1, c2, c3, c4, c5, c6, c7, c8, c9] : List Value)[i]? = some (.int .i64 z) ∧ (Lit.int .i64 z).wf = true := fun i hi => by
      have hi1 := hel i hi
      rw [hce, Nat.mul_one] at hi1
      have hy : ys[i]? = some (ys[i]'(by omega)) := List.getElem?_eq_getElem (by omega)
      rw [hy] at hi1
      obtain ⟨z, ez, _, wz⟩ := DataW.trod_int te hi1
      refine ⟨z, ?_, wz⟩
      have e2 := congrArg (·[0]?) ez
      simp only [List.getElem?_take, List.getElem?_drop, List.getElem?_cons_zero] at e2
      have e3 : i < 8 ∧ [c0, c1, c2, c3, c4, c5, c6, c7, c8, c9][i]? = some (Value.int IntKind.i64 z) := by simpa using e2
      exact e3.2
    obtain ⟨z0, e0, w0⟩ := at8 0 (by omega)
    obtain ⟨z1, e1, w1⟩ := at8 1 (by omega)
    obtain ⟨z2, e2, w2⟩ := at8 2 (by omega)
    obtain ⟨z3, e3, w3⟩ := at8 3 (by omega)
    obtain ⟨z4, e4, w4⟩ := at8 4 (by omega)
    obtain ⟨z5, e5, w5⟩ := at8 5 (by omega)
    obtain ⟨z6, e6, w6⟩ := at8 6 (by omega)
    obtain ⟨z7, e7, w7⟩ := at8 7 (by omega)
    simp at e0 e1 e2 e3 e4 e5 e6 e7 e8 e9
    subst e0 e1 e2 e3 e4 e5 e6 e7 e8 e9
    refine ⟨z0, z1, z2, z3, z4, z5, z6, z7, x8, x9, rfl, fun z hz => ?_⟩
    simp only [List.mem_cons, List.not_mem_nil, or_false] at hz
    rcases hz with rfl | rfl | rfl | rfl | rfl | rfl | rfl | rfl | rfl | rfl <;> assumption
theorem open_ring {r : Reach} {b : Nat} {t e : TypeId} {f0 f1 f2 : Field} {v : Value} {d : DataW H} {p : List MemPlace} (hs : P.underlying t = some (.struct #[f0, f1, f2])) (hC : P.cellsOf t = 10)
    (o : f0.offset = 0 ∧ f1.offset = 8 ∧ f2.offset = 9) (hc : P.cellsOf f0.type = 8 ∧ P.cellsOf f1.type = 1 ∧ P.cellsOf f2.type = 1) (ta : P.underlying f0.type = some (.array 8 e)) (te : P.underlying e = some (.int .i64)) (hce : P.cellsOf e = 1)
    (t1 : P.underlying f1.type = some (.int .i64)) (t2 : P.underlying f2.type = some (.int .i64))
    (hv : Value.okWide P w r b t v) (h : DataW.Trod enc P w base (fun _ => true) held t v d p) :
    ∃ b0 b1 b2 b3 b4 b5 b6 b7 hd nn : Int, v = .agg #[.int .i64 b0, .int .i64 b1, .int .i64 b2, .int .i64 b3, .int .i64 b4, .int .i64 b5, .int .i64 b6, .int .i64 b7, .int .i64 hd, .int .i64 nn] ∧ ∀ z ∈ [b0, b1, b2, b3, b4, b5, b6, b7, hd, nn], (Lit.int .i64 z).wf = true := by
  obtain ⟨cs, rfl, hsz⟩ := okWide_struct hs hv
  obtain ⟨c0, c1, c2, c3, c4, c5, c6, c7, c8, c9, rfl⟩ := array10 (hsz.trans hC)
  obtain ⟨fuel, hf⟩ := h
  obtain ⟨b0, b1, b2, b3, b4, b5, b6, b7, hd, nn, he, hw⟩ := ring_cells (n := fuel) hs o hc ta te hce t1 t2 hf
  simp only [List.map_cons, List.map_nil, List.cons.injEq, and_true] at he
  obtain ⟨rfl, rfl, rfl, rfl, rfl, rfl, rfl, rfl, rfl, rfl⟩ := he
  exact ⟨b0, b1, b2, b3, b4, b5, b6, b7, hd, nn, rfl, hw⟩
end
end Go.Proofs.Ytogcfndhcphpaaa
/-
  Arguments that are programs and states, opened.
-/
set_option linter.unusedVariables false
set_option linter.unusedSimpArgs false
namespace Go.Proofs.Ytogcfndhcphpaaa
open Go.ChangeShapes Go.WideShapes Go.Deep Go.RowKit

section
variable {H : Type} {enc : TypeId × Value → H} {P : Program} {w : World} {base : Nat} {held : Bool}
theorem RecsAt.nest {α : Type} {m : Nat} {f : α → List Value} {v : Value} {ks : List (List α)} (hks : RecsAt 1 (fun w cs x => ∃ u, cs = [u] ∧ RowsAt m f w u x) w v ks) : NestAt m f w v ks := by
  obtain ⟨A', c', hv', hc', hA'⟩ := hks
  have key : ∀ i, i < ks.length → ∃ u, (∃ b o, A' = some ⟨b, o, none⟩ ∧ b < w.heap.size ∧ w.cell? ⟨b, o + i, none⟩ = some u) ∧ ∀ l, ks[i]? = some l → RowsAt m f w u l := fun i hi => by
    obtain ⟨b, o, hb, hlt, hcell⟩ := hA' (by omega)
    obtain ⟨cs, h1, ⟨u, rfl, hr⟩, h3⟩ := hcell i _ (List.getElem?_eq_getElem hi)
    refine ⟨u, ⟨b, o, hb, hlt, by have := h3 0 u rfl; rwa [Nat.mul_one, Nat.add_zero] at this⟩, fun l hl => ?_⟩
    rw [List.getElem?_eq_getElem hi] at hl
    rw [← Option.some.inj hl]
    exact hr
  have hlen : ((List.range ks.length).map fun i => if h : i < ks.length then (key i h).choose else Value.nilIface).length = ks.length := by simp
  refine ⟨(List.range ks.length).map fun i => if h : i < ks.length then (key i h).choose else Value.nilIface, hlen, ⟨A', c', by rw [hlen]; exact hv', by rw [hlen]; exact hc', fun h0 => ?_⟩, fun i u xs hu hxs => ?_⟩
  · rw [hlen] at h0
    obtain ⟨b, o, hb, hlt, hcell⟩ := hA' h0
    refine ⟨b, o, hb, hlt, fun j x hj i u hu => ?_⟩
    have hjl : j < ks.length := by have := (List.getElem?_eq_some_iff.1 hj).1; simpa using this
    have hi0 : i = 0 := by have := (List.getElem?_eq_some_iff.1 hu).1; simp [oneL] at this; exact this
    subst hi0
    simp only [oneL, List.getElem?_cons_zero, Option.some.injEq] at hu
    subst hu
    rw [List.getElem?_map, List.getElem?_range hjl] at hj
    simp only [Option.map_some, Option.some.injEq, hjl, dif_pos] at hj
    obtain ⟨⟨b', o', hb', _, hc⟩, _⟩ := (key j hjl).choose_spec
    rw [hb] at hb'
    simp only [Option.some.injEq, Addr.mk.injEq, and_true] at hb'
    obtain ⟨rfl, rfl⟩ := hb'
    rw [← hj, Nat.mul_one, Nat.add_zero]
    exact hc
  · have hil : i < ks.length := (List.getElem?_eq_some_iff.1 hxs).1
    rw [List.getElem?_map, List.getElem?_range hil] at hu
    simp only [Option.map_some, Option.some.injEq, hil, dif_pos] at hu
    rw [← hu]
    exact (key i hil).choose_spec.2 xs hxs
/-- How long a slice of a sized argument is. -/
theorem slice_weight {t e : TypeId} {fuel len cap : Nat} {A : Option Addr} {y : DataW H × List MemPlace} (ht : P.underlying t = some (.slice e)) (h : DataW.trod enc P w base (fun _ => true) held fuel t [.slice A len cap] = some y) (hw : (DataW.weights P t y.1).all (· ≤ reachBytes) = true) (hb : 8 ≤ P.bytesOf e) : len ≤ 140737488355328 := by
  rcases open_slice ht h with ⟨h0, _⟩ | ⟨a, l, c, mm, n, D, Pl, hcs, _, hl, hm, hmm, hx, hi⟩
  · simp at h0
    omega
  · simp at hcs
    obtain ⟨rfl, rfl, rfl⟩ := hcs
    rw [hx] at hw
    simp only [DataW.weights, ht, List.all_cons, Bool.and_eq_true, decide_eq_true_eq, List.length_map, List.length_range] at hw
    have h1 := hw.1
    unfold reachBytes at h1
    have h2 : len * 8 ≤ (len + (mm - len)) * P.bytesOf e := Nat.mul_le_mul (by omega) hb
    omega
end
section
variable {H : Type} {enc : TypeId × Value → H} {w : World} {base : Nat} {held : Bool}
theorem cells_code {n : Nat} {cs : List Value} {y : DataW H × List MemPlace} (h : DataW.trod enc Try.prog w base (fun _ => true) held n 69 cs = some y) :
    ∃ l : List (Int × Int), (∃ u, cs = [u] ∧ RowsAt 2 pairL w u l) ∧ l.length ≤ maxLen := by
  obtain ⟨u, rfl⟩ : ∃ u, cs = [u] := by
    rcases open_slice Try.underlying69 h with ⟨h0, _⟩ | ⟨a, l, c, mm, n, D, Pl, hcs, _⟩
    · exact ⟨_, h0⟩
    · exact ⟨_, hcs⟩
  obtain ⟨A, len, cap, rfl⟩ := cells_slice Try.underlying69 h
  obtain ⟨hlen, l, rfl, hr, _⟩ := open_recs (m := 2) (R := fun _ cs x => cs = pairL x) (G := fun _ => True) (0, 0) Try.underlying69 (by kernel_rfl) (by decide) (fun n cs y hy => by
    obtain ⟨p, e, _⟩ := cells_pair Try.underlying68 (by kernel_rfl) (by kernel_rfl) Try.underlying3 Try.underlying3 hy
    exact ⟨p, e, trivial⟩) h
  exact ⟨l, ⟨_, rfl, hr.rows⟩, hlen⟩
theorem prog_of_trod {n : Nat} {v : Value} {y : DataW H × List MemPlace} (h : DataW.trod enc Try.prog w base (fun _ => true) held n 23 [v] = some y) :
    ∃ p, NestAt 2 pairL w v p ∧ p.length ≤ maxLen ∧ ∀ l ∈ p, l.length ≤ maxLen := by
  obtain ⟨A, len, cap, rfl⟩ := cells_slice Try.underlying23 h
  obtain ⟨hlen, p, rfl, hr, hg⟩ := open_recs (m := 1) (R := fun w cs x => ∃ u, cs = [u] ∧ RowsAt 2 pairL w u x) (G := fun l => l.length ≤ maxLen) [] Try.underlying23 (by kernel_rfl) (by decide) (fun n cs y hy => cells_code hy) h
  exact ⟨p, hr.nest, hlen, hg⟩
theorem cells_g {n : Nat} {cs : List Value} {y : DataW H × List MemPlace} (h : DataW.trod enc Try.prog w base (fun _ => true) held n 55 cs = some y) : ∃ g : Gr, cs = gL g ∧ True := by
  obtain ⟨hl, hf⟩ := cells_fields Try.underlying55 (by kernel_rfl) (by kernel_rfl) h
  obtain ⟨v0, _, _, c0, h0⟩ := hf 0 _ rfl
  obtain ⟨v1, _, _, c1, h1⟩ := hf 1 _ rfl
  obtain ⟨v2, _, _, c2, h2⟩ := hf 2 _ rfl
  obtain ⟨v3, _, _, c3, h3⟩ := hf 3 _ rfl
  obtain ⟨v4, _, _, c4, h4⟩ := hf 4 _ rfl
  obtain ⟨a0, rfl, _⟩ := cells_int Try.underlying3 h0
  obtain ⟨a1, rfl, _⟩ := cells_int Try.underlying3 h1
  obtain ⟨a2, rfl, _⟩ := cells_int Try.underlying3 h2
  obtain ⟨a3, rfl, _⟩ := cells_int Try.underlying3 h3
  obtain ⟨a4, rfl, _⟩ := cells_int Try.underlying3 h4
  match cs, hl, c0, c1, c2, c3, c4 with
  | [u0, u1, u2, u3, u4], _, c0, c1, c2, c3, c4 =>
    simp only [List.getElem?_cons_zero, List.getElem?_cons_succ, Option.some.injEq] at c0 c1 c2 c3 c4
    subst c0 c1 c2 c3 c4
    exact ⟨⟨a0, a1, a2, a3, a4⟩, rfl, trivial⟩
set_option maxRecDepth 100000 in
theorem cells_p {n : Nat} {cs : List Value} {y : DataW H × List MemPlace} (h : DataW.trod enc Try.prog w base (fun _ => true) held n 40 cs = some y) : ∃ p : Pr, cs = pL p ∧ p.ring.buf.length = 8 := by
  obtain ⟨xs, m, _, _, hl, hxl, hf⟩ := DataW.trod_struct Try.underlying40 h
  have hl13 : cs.length = 13 := hl.trans (by kernel_rfl)
  match xs, hxl with
  | [y0, y1, y2, y3], _ =>
    have h0 := hf 0 _ rfl
    have h1 := hf 1 _ rfl
    have h2 := hf 2 _ rfl
    have h3 := hf 3 _ rfl
    match cs, hl13 with
    | [c0, c1, c2, c3, c4, c5, c6, c7, c8, c9, c10, c11, c12], _ =>
      obtain ⟨a0, e0, _⟩ := DataW.trod_int Try.underlying3 (show DataW.trod enc Try.prog w base (fun _ => true) held m 3 [c0] = some y0 from h0)
      obtain ⟨a1, e1, _⟩ := DataW.trod_int Try.underlying3 (show DataW.trod enc Try.prog w base (fun _ => true) held m 3 [c1] = some y1 from h1)
      obtain ⟨a3, e3, _⟩ := DataW.trod_int Try.underlying3 (show DataW.trod enc Try.prog w base (fun _ => true) held m 3 [c12] = some y3 from h3)
      obtain ⟨b0, b1, b2, b3, b4, b5, b6, b7, hd, nn, he, _⟩ := ring_cells Try.underlying38 ⟨rfl, rfl, rfl⟩ ⟨by kernel_rfl, by kernel_rfl, by kernel_rfl⟩ Try.underlying36 Try.underlying3 (by kernel_rfl) Try.underlying3 Try.underlying3 (show DataW.trod enc Try.prog w base (fun _ => true) held m 38 [c2, c3, c4, c5, c6, c7, c8, c9, c10, c11] = some y2 from h2)
      simp at e0 e1 e3
      simp only [List.map_cons, List.map_nil, List.cons.injEq, and_true] at he
      obtain ⟨rfl, rfl, rfl, rfl, rfl, rfl, rfl, rfl, rfl, rfl⟩ := he
      subst e0 e1 e3
      exact ⟨⟨a0, a1, ⟨[b0, b1, b2, b3, b4, b5, b6, b7], hd, nn⟩, a3⟩, rfl, rfl⟩
set_option maxRecDepth 100000 in
theorem ints_sized {n : Nat} {v : Value} {y : DataW H × List MemPlace} (h : DataW.trod enc Try.prog w base (fun _ => true) held n 27 [v] = some y) (hw : (DataW.weights Try.prog 27 y.1).all (· ≤ reachBytes) = true) :
    ∃ A c l, v = .slice A l.length c ∧ IntsAt w (.slice A l.length c) l ∧ l.length ≤ 140737488355328 := by
  obtain ⟨A, len, cap, rfl⟩ := cells_slice Try.underlying27 h
  obtain ⟨hlen, l, rfl, hr, hg⟩ := open_recs (m := 1) (R := fun _ cs x => cs = numL x) (G := fun _ => True) 0 Try.underlying27 (by kernel_rfl) (by decide) (fun n cs y hy => by
    obtain ⟨a, e, _⟩ := DataW.trod_int Try.underlying3 hy
    exact ⟨a, e, trivial⟩) h
  refine ⟨A, cap, l, rfl, ?_, slice_weight Try.underlying27 h hw (Nat.le_of_ble_eq_true (by kernel_rfl))⟩
  obtain ⟨A', c', hv, _, hA⟩ := hr.rows
  refine ⟨A', c', hv, fun h0 => ?_⟩
  obtain ⟨b, o, hb, hlt, hc⟩ := hA h0
  exact ⟨b, o, hb, hlt, fun j x hj => by have := hc j x hj 0 _ rfl; rwa [Nat.mul_one, Nat.add_zero] at this⟩
theorem wf_i64ok {a : Int} (h : (Lit.int .i64 a).wf = true) : i64ok a := by
  simp [Lit.wf, IntKind.min, IntKind.max, IntKind.signed, IntKind.bits] at h
  unfold i64ok
  omega
theorem array16 {α : Type} {cs : Array α} (h : cs.size = 16) : ∃ c0 c1 c2 c3 c4 c5 c6 c7 c8 c9 c10 c11 c12 c13 c14 c15, cs = #[c0, c1, c2, c3, c4, c5, c6, c7, c8, c9, c10, c11, c12, c13, c14, c15] := by
  obtain ⟨l⟩ := cs
  match l, h with
  | [c0, c1, c2, c3, c4, c5, c6, c7, c8, c9, c10, c11, c12, c13, c14, c15], _ => exact ⟨c0, c1, c2, c3, c4, c5, c6, c7, c8, c9, c10, c11, c12, c13, c14, c15, rfl⟩
set_option maxRecDepth 100000 in
theorem open_state {r : Reach} {b : Nat} {v : Value} {d : DataW H} {p : List MemPlace} (hv : Value.okWide Try.prog w r b 32 v) (h : DataW.Trod enc Try.prog w base (fun _ => true) held 32 v d p)
    (hw : (DataW.weights Try.prog 32 d).all (· ≤ reachBytes) = true) : ∃ hh s, v = stV hh s ∧ StOk w hh s ∧ StIn s := by
  obtain ⟨cs, rfl, hsz⟩ := okWide_struct Try.underlying32 hv
  obtain ⟨c0, c1, c2, c3, c4, c5, c6, c7, c8, c9, c10, c11, c12, c13, c14, c15, rfl⟩ := array16 (hsz.trans (by kernel_rfl))
  obtain ⟨fuel, hf⟩ := h
  obtain ⟨xs, m, _, hd, _, hxl, hfd⟩ := DataW.trod_struct Try.underlying32 hf
  match xs, hxl with
  | [y0, y1, y2, y3, y4, y5, y6, y7, y8, y9], _ =>
    have h0 : DataW.trod enc Try.prog w base (fun _ => true) held m 23 [c0] = some y0 := hfd 0 _ rfl
    have h1 : DataW.trod enc Try.prog w base (fun _ => true) held m 24 [c1] = some y1 := hfd 1 _ rfl
    have h2 : DataW.trod enc Try.prog w base (fun _ => true) held m 25 [c2] = some y2 := hfd 2 _ rfl
    have h3 : DataW.trod enc Try.prog w base (fun _ => true) held m 26 [c3] = some y3 := hfd 3 _ rfl
    have h4 : DataW.trod enc Try.prog w base (fun _ => true) held m 27 [c4] = some y4 := hfd 4 _ rfl
    have h5 : DataW.trod enc Try.prog w base (fun _ => true) held m 28 [c5, c6, c7, c8] = some y5 := hfd 5 _ rfl
    have h6 : DataW.trod enc Try.prog w base (fun _ => true) held m 29 [c9, c10, c11, c12] = some y6 := hfd 6 _ rfl
    have h7 : DataW.trod enc Try.prog w base (fun _ => true) held m 30 [c13] = some y7 := hfd 7 _ rfl
    have h8 : DataW.trod enc Try.prog w base (fun _ => true) held m 3 [c14] = some y8 := hfd 8 _ rfl
    have h9 : DataW.trod enc Try.prog w base (fun _ => true) held m 3 [c15] = some y9 := hfd 9 _ rfl
    simp only [Prod.mk.injEq] at hd
    rw [hd.1] at hw
    simp only [DataW.weights, Try.underlying32, DataW.weightsEach, List.map_cons, List.map_nil, List.all_append, Bool.and_eq_true] at hw
    obtain ⟨w0, w1, w2, w3, w4, w5, w6, w7, w8, w9, _⟩ := hw
    obtain ⟨pr, hp, hp1, hp2⟩ := prog_of_trod h0
    obtain ⟨A1, n1, k1, rfl⟩ := cells_slice Try.underlying24 h1
    have g1 := slice_weight Try.underlying24 h1 w1 (Nat.le_of_ble_eq_true (by kernel_rfl))
    obtain ⟨_, gs, rfl, hg, _⟩ := open_recs (m := 5) (R := fun _ cs x => cs = gL x) (G := fun _ => True) St.nilG Try.underlying24 (by kernel_rfl) (by decide) (fun n cs y hy => cells_g hy) h1
    obtain ⟨A2, n2, k2, rfl⟩ := cells_slice Try.underlying25 h2
    have g2 := slice_weight Try.underlying25 h2 w2 (Nat.le_of_ble_eq_true (by kernel_rfl))
    obtain ⟨_, ps, rfl, hps, hpb⟩ := open_recs (m := 13) (R := fun _ cs x => cs = pL x) (G := fun p => p.ring.buf.length = 8) St.nilP Try.underlying25 (by kernel_rfl) (by decide) (fun n cs y hy => cells_p hy) h2
    obtain ⟨A3, n3, k3, rfl⟩ := cells_slice Try.underlying26 h3
    have g3 := slice_weight Try.underlying26 h3 w3 (Nat.le_of_ble_eq_true (by kernel_rfl))
    obtain ⟨_, ms, rfl, hms, _⟩ := open_recs (m := 2) (R := fun _ cs x => cs = pairL x) (G := fun _ => True) (0, 0) Try.underlying26 (by kernel_rfl) (by decide) (fun n cs y hy => by
      obtain ⟨p, e, _⟩ := cells_pair Try.underlying57 (by kernel_rfl) (by kernel_rfl) Try.underlying3 Try.underlying3 hy
      exact ⟨p, e, trivial⟩) h3
    obtain ⟨A4, k4, gl, rfl, hgl, g4⟩ := ints_sized h4 w4
    obtain ⟨zs, m5, _, hz5, _, hzl, hz⟩ := DataW.trod_array Try.underlying28 h5
    have ci : Try.prog.cellsOf 3 = 1 := by kernel_rfl
    have cn : Try.prog.cellsOf 27 = 1 := by kernel_rfl
    match zs, hzl with
    | [z0, z1, z2, z3], _ =>
      have i0 := hz 0 (by omega)
      have i1 := hz 1 (by omega)
      have i2 := hz 2 (by omega)
      have i3 := hz 3 (by omega)
      simp only [ci] at i0 i1 i2 i3
      obtain ⟨a0, e0, _⟩ := DataW.trod_int Try.underlying3 (show DataW.trod enc Try.prog w base (fun _ => true) held m5 3 [c5] = some z0 from i0)
      obtain ⟨a1, e1, _⟩ := DataW.trod_int Try.underlying3 (show DataW.trod enc Try.prog w base (fun _ => true) held m5 3 [c6] = some z1 from i1)
      obtain ⟨a2, e2, _⟩ := DataW.trod_int Try.underlying3 (show DataW.trod enc Try.prog w base (fun _ => true) held m5 3 [c7] = some z2 from i2)
      obtain ⟨a3, e3, _⟩ := DataW.trod_int Try.underlying3 (show DataW.trod enc Try.prog w base (fun _ => true) held m5 3 [c8] = some z3 from i3)
      simp only [List.cons.injEq, and_true] at e0 e1 e2 e3
      subst e0 e1 e2 e3
      obtain ⟨qs, m6, _, hq6, _, hql, hq⟩ := DataW.trod_array Try.underlying29 h6
      match qs, hql with
      | [q0, q1, q2, q3], _ =>
        have j0 := hq 0 (by omega)
        have j1 := hq 1 (by omega)
        have j2 := hq 2 (by omega)
        have j3 := hq 3 (by omega)
        simp only [cn] at j0 j1 j2 j3
        rw [hq6] at w6
        simp only [DataW.weights, Try.underlying29, DataW.weightsAll, List.map_cons, List.map_nil, List.all_append, Bool.and_eq_true] at w6
        obtain ⟨v0, v1, v2, v3, _⟩ := w6
        obtain ⟨B0, l0, x0, rfl, hx0, b0⟩ := ints_sized (show DataW.trod enc Try.prog w base (fun _ => true) held m6 27 [c9] = some q0 from j0) v0
        obtain ⟨B1, l1, x1, rfl, hx1, b1⟩ := ints_sized (show DataW.trod enc Try.prog w base (fun _ => true) held m6 27 [c10] = some q1 from j1) v1
        obtain ⟨B2, l2, x2, rfl, hx2, b2⟩ := ints_sized (show DataW.trod enc Try.prog w base (fun _ => true) held m6 27 [c11] = some q2 from j2) v2
        obtain ⟨B3, l3, x3, rfl, hx3, b3⟩ := ints_sized (show DataW.trod enc Try.prog w base (fun _ => true) held m6 27 [c12] = some q3 from j3) v3
        obtain ⟨A7, n7, k7, rfl⟩ := cells_slice Try.underlying30 h7
        have g7 := slice_weight Try.underlying30 h7 w7 (Nat.le_of_ble_eq_true (by kernel_rfl))
        obtain ⟨_, ts, rfl, hts, htn⟩ := open_recs (m := 2) (R := fun _ cs x => cs = pairL x) (G := fun p => i64ok p.1 ∧ i64ok p.2) (0, 0) Try.underlying30 (by kernel_rfl) (by decide) (fun n cs y hy => by
          obtain ⟨p, e, wa, wb⟩ := cells_pair Try.underlying76 (by kernel_rfl) (by kernel_rfl) Try.underlying3 Try.underlying3 hy
          exact ⟨p, e, wf_i64ok wa, wf_i64ok wb⟩) h7
        obtain ⟨ck, e8, _⟩ := DataW.trod_int Try.underlying3 h8
        obtain ⟨pc, e9, _⟩ := DataW.trod_int Try.underlying3 h9
        simp only [List.cons.injEq, and_true] at e8 e9
        subst e8 e9
        obtain ⟨A0, k0, rfl, _⟩ := hp.form
        exact ⟨⟨A0, k0, A1, k1, A2, k2, A3, k3, A4, k4, B0, l0, B1, l1, B2, l2, B3, l3, A7, k7⟩, ⟨pr, gs, ps, ms, gl, a0, a1, a2, a3, x0, x1, x2, x3, ts, ck, pc⟩, rfl, ⟨hp, hg.rows, hps.rows, hms.rows, hgl, hx0, hx1, hx2, hx3, hts.rows.pairs, hpb⟩, ⟨⟨by unfold maxLen at hp1; omega, fun l hl => by have := hp2 l hl; unfold maxLen at this; omega⟩, g1, g2, g3, g4, ⟨b0, b1, b2, b3⟩, g7, htn⟩⟩
set_option maxRecDepth 100000 in
theorem open_prog {r : Reach} {b : Nat} {v : Value} {d : DataW H} {p : List MemPlace} (hv : Value.okWide Try.prog w r b 23 v) (h : DataW.Trod enc Try.prog w base (fun _ => true) held 23 v d p) :
    ∃ q, NestAt 2 pairL w v q ∧ q.length ≤ maxLen ∧ ∀ l ∈ q, l.length ≤ maxLen := by
  obtain ⟨a, n, c, rfl⟩ := okWide_slice Try.underlying23 hv
  obtain ⟨fuel, hf⟩ := h
  exact prog_of_trod (n := fuel) (by simpa [Value.cells] using hf)
end
end Go.Proofs.Ytogcfndhcphpaaa
/-
  A state as an argument: its global queue is no longer than its capacity.
-/
set_option linter.unusedVariables false
set_option linter.unusedSimpArgs false
namespace Go.Proofs.Ytogcfndhcphpaaa
open Go.ChangeShapes Go.WideShapes Go.Deep Go.RowKit

section
variable {H : Type} {enc : TypeId × Value → H} {w : World} {base : Nat} {held : Bool}
set_option maxRecDepth 100000 in
theorem state_cap {r : Reach} {b : Nat} {hh : StH} {s : St} {d : DataW H} {p : List MemPlace} (hv : Value.okWide Try.prog w r b 32 (stV hh s)) (h : DataW.Trod enc Try.prog w base (fun _ => true) held 32 (stV hh s) d p) : s.glob.length ≤ hh.lc := by
  obtain ⟨fuel, hf⟩ := h
  obtain ⟨xs, m, _, hd, _, hxl, hfd⟩ := DataW.trod_struct Try.underlying32 hf
  match xs, hxl with
  | [y0, y1, y2, y3, y4, y5, y6, y7, y8, y9], _ =>
    have h4 : DataW.trod enc Try.prog w base (fun _ => true) held m 27 [.slice hh.la s.glob.length hh.lc] = some y4 := hfd 4 _ rfl
    obtain ⟨hlen, l, hl, hr, hg⟩ := open_recs (m := 1) (R := fun _ cs x => cs = numL x) (G := fun _ => True) 0 Try.underlying27 (by kernel_rfl) (by decide) (fun n cs y hy => by
      obtain ⟨a, e, _⟩ := DataW.trod_int Try.underlying3 hy
      exact ⟨a, e, trivial⟩) h4
    obtain ⟨A', c', hv, hc, hA⟩ := hr.rows
    simp only [Value.slice.injEq] at hv
    omega
end
end Go.Proofs.Ytogcfndhcphpaaa
/-
  A store of a few cells inside a block.
-/
set_option linter.unusedVariables false
set_option linter.unusedSimpArgs false
namespace Go.Proofs.Ytogcfndhcphpaaa
open Go.RowKit

theorem setCells_mid {g : Nat} {T : TypeId} : ∀ (ds : List Value) (w : World) (cs : Array Value) (i : Nat), w.heap[g]? = some (.cells cs T (0, 0)) → i + ds.length ≤ cs.size → ∃ cs', (w.setCells g i ds).heap[g]? = some (.cells cs' T (0, 0)) ∧ cs'.size = cs.size ∧ ∀ j, cs'[j]? = if i ≤ j ∧ j < i + ds.length then ds[j - i]? else cs[j]?
  | [], w, cs, i, h, _ => ⟨cs, h, rfl, fun j => by rw [if_neg (by simp <;> omega)]⟩
  | d :: ds, w, cs, i, h, hl => by
    simp only [List.length_cons] at hl
    obtain ⟨cs', h1, h2, h3⟩ := setCells_mid ds (w.setCell ⟨g, i, none⟩ d) (cs.setIfInBounds i d) (i + 1) (blk_set h i d) (by simp; omega)
    refine ⟨cs', h1, by simpa using h2, fun j => ?_⟩
    rw [h3 j, List.length_cons]
    by_cases hj : j = i
    · subst hj
      rw [if_neg (by omega), if_pos (by omega), Nat.sub_self, List.getElem?_cons_zero, Array.getElem?_setIfInBounds_self_of_lt (by omega)]
    · by_cases hin : i + 1 ≤ j ∧ j < i + 1 + ds.length
      · rw [if_pos hin, if_pos (by omega), show j - i = (j - (i + 1)) + 1 by omega, List.getElem?_cons_succ]
      · rw [if_neg hin, if_neg (by omega), Array.getElem?_setIfInBounds_ne (Ne.symm hj)]
/-- What lies there behind it: the cells stored, the others as they were. -/
theorem setCells_cell {g : Nat} {T : TypeId} {ds : List Value} {w : World} {cs : Array Value} {i : Nat} (h : w.heap[g]? = some (.cells cs T (0, 0))) (hl : i + ds.length ≤ cs.size) {j : Nat} {v : Value} (hv : if i ≤ j ∧ j < i + ds.length then ds[j - i]? = some v else w.cell? ⟨g, j, none⟩ = some v) : (w.setCells g i ds).cell? ⟨g, j, none⟩ = some v := by
  obtain ⟨cs', h1, h2, h3⟩ := setCells_mid ds w cs i h hl
  refine blk_cell h1 j v ?_
  rw [h3 j]
  split
  · rw [if_pos (by assumption)] at hv; exact hv
  · rw [if_neg (by assumption)] at hv
    by_cases hj : j < cs.size
    · have := blk_cell h j _ (Array.getElem?_eq_getElem hj)
      rw [this] at hv
      rw [Array.getElem?_eq_getElem hj]; exact hv
    · exfalso
      simp [World.cell?, h, hj] at hv
/-- A slice's first row stored anew. -/
theorem RowsAt.setHead {α : Type} {m : Nat} {f : α → List Value} {w : World} {b o n c : Nat} {T : TypeId} {cs : Array Value} {x x' : α} {xs : List α} (hf : ∀ x, (f x).length = m) (h : RowsAt m f w (.slice (some ⟨b, o, none⟩) n c) (x :: xs)) (hb : w.heap[b]? = some (.cells cs T (0, 0))) (hl : o + m ≤ cs.size) : RowsAt m f (w.setCells b o (f x')) (.slice (some ⟨b, o, none⟩) n c) (x' :: xs) := by
  obtain ⟨A', c', hv, hc, hA⟩ := h
  obtain ⟨b', o', e, hlt, hcell⟩ := hA (by simp)
  subst e
  simp only [Value.slice.injEq, Option.some.injEq, Addr.mk.injEq, and_true] at hv
  obtain ⟨⟨rfl, rfl⟩, rfl, rfl⟩ := hv
  refine ⟨_, _, rfl, hc, fun _ => ⟨b, o, rfl, Nat.lt_of_lt_of_le hlt (setCells_upd b (f x') w o).size, fun j y hj i u hu => setCells_cell hb (by rw [hf]; exact hl) ?_⟩⟩
  have hi : i < m := by have := (List.getElem?_eq_some_iff.1 hu).1; rwa [hf] at this
  rw [hf]
  match j with
  | 0 =>
    simp only [List.getElem?_cons_zero, Option.some.injEq] at hj
    subst hj
    rw [if_pos (by omega), show o + 0 * m + i - o = i by omega]
    exact hu
  | j + 1 =>
    have hm : (j + 1) * m = j * m + m := Nat.succ_mul j m
    rw [if_neg (by omega)]
    exact hcell (j + 1) y (by simpa using hj) i u hu
end Go.Proofs.Ytogcfndhcphpaaa
