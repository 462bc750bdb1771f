/-
  Several texts in one: Ui, Ul, Um, Un, Lr, Ld, Li, Uo, No, Uw, Uka, Ukb, Uzd.
-/
import Derived.Test.YtogcfndhcphpaaaB15
import Derived.Test.YtogcfndhcphpaaaB14
import Derived.Test.YtogcfndhcphpaaaB01
import Derived.Test.YtogcfndhcphpaaaB13
import Derived.Test.YtogcfndhcphpaaaB12
import Derived.Lib.SmallJoins
import Derived.Test.YtogcfndhcphpaaaB05
import Derived.Test.YtogcfndhcphpaaaB11
import Derived.SizedLaws
import Derived.Test.YtogcfndhcphpaaaB04
set_option linter.unusedVariables false
set_option linter.unusedSimpArgs false
namespace Go.Proofs.Ytogcfndhcphpaaa
open Go.RowKit
theorem own_len (A : Option Addr) (n m c d : Nat) : (Value.slice A n c).ownBlock = (Value.slice A m d).ownBlock := by cases A <;> rfl
theorem Sit.wait0 {w v c : World} {W0 R B : Nat} {h : StH} {s : St} {I : Nat → Nat × Nat} {l : List Int} (k : Sit w W0 R B v h s) (a : StApart B v I h s) (ho : OwnInts c (I 5).1 (.slice h.a0 l.length h.k0) l) (hc : But (fun b => (Value.slice h.a0 s.w0.length h.k0).ownBlock = some b) v c) :
    c.cell? ⟨W0, 9, none⟩ = some (.slice h.a0 s.w0.length h.k0) ∧ c.frozen? ⟨W0, 9, none⟩ = false ∧ Sit w W0 R B (c.setCell ⟨W0, 9, none⟩ (.slice h.a0 l.length h.k0)) h { s with w0 := l } := by
  have kl := k.lo
  have hlow := a.low 5 (by omega)
  have hS : ∀ b, (Value.slice h.a0 s.w0.length h.k0).ownBlock = some b → B ≤ b := fun b hb => by have := (World.ownsRow.lt a.w0.1 b hb).1; omega
  have b1 := hc.blk k.box (fun e => by have := hS _ e; omega)
  have b2 := hc.blk k.res (fun e => by have := hS _ e; omega)
  have a' := a.withW0 hc (fun b _ _ hb => ⟨(World.ownsRow.lt a.w0.1 b hb).1, a.w0.2 b hb⟩) (.inl rfl) (A := h.a0) (cc := h.k0) (l := l) ⟨ho, fun b hb => a.w0.2 b ((own_len _ _ _ _ _).trans hb)⟩
  have hu := (Upd.refl W0 c).set 9 (.slice h.a0 l.length h.k0)
  have hcs := hc.size
  exact ⟨st9 b1, frozen_of_row _ _ 9 _ _ b1, blk_set b1 9 _, blk_set_other b2 _ (by simp only; omega) _, ⟨_, (StApart.putI_same a').far (But.upd (S := fun b => b = W0) hu rfl) (fun b hb => by omega)⟩, (But.after k.ext hc (fun b hb => by have := hS b hb; omega)).upd hu (by omega), by have := hu.size; omega⟩
theorem Sit.wait1 {w v c : World} {W0 R B : Nat} {h : StH} {s : St} {I : Nat → Nat × Nat} {l : List Int} (k : Sit w W0 R B v h s) (a : StApart B v I h s) (ho : OwnInts c (I 6).1 (.slice h.a1 l.length h.k1) l) (hc : But (fun b => (Value.slice h.a1 s.w1.length h.k1).ownBlock = some b) v c) :
    c.cell? ⟨W0, 10, none⟩ = some (.slice h.a1 s.w1.length h.k1) ∧ c.frozen? ⟨W0, 10, none⟩ = false ∧ Sit w W0 R B (c.setCell ⟨W0, 10, none⟩ (.slice h.a1 l.length h.k1)) h { s with w1 := l } := by
  have kl := k.lo
  have hlow := a.low 6 (by omega)
  have hS : ∀ b, (Value.slice h.a1 s.w1.length h.k1).ownBlock = some b → B ≤ b := fun b hb => by have := (World.ownsRow.lt a.w1.1 b hb).1; omega
  have b1 := hc.blk k.box (fun e => by have := hS _ e; omega)
  have b2 := hc.blk k.res (fun e => by have := hS _ e; omega)
  have a' := a.withW1 hc (fun b _ _ hb => ⟨(World.ownsRow.lt a.w1.1 b hb).1, a.w1.2 b hb⟩) (.inl rfl) (A := h.a1) (cc := h.k1) (l := l) ⟨ho, fun b hb => a.w1.2 b ((own_len _ _ _ _ _).trans hb)⟩
  have hu := (Upd.refl W0 c).set 10 (.slice h.a1 l.length h.k1)
  have hcs := hc.size
  exact ⟨st10 b1, frozen_of_row _ _ 10 _ _ b1, blk_set b1 10 _, blk_set_other b2 _ (by simp only; omega) _, ⟨_, (StApart.putI_same a').far (But.upd (S := fun b => b = W0) hu rfl) (fun b hb => by omega)⟩, (But.after k.ext hc (fun b hb => by have := hS b hb; omega)).upd hu (by omega), by have := hu.size; omega⟩
theorem Sit.wait2 {w v c : World} {W0 R B : Nat} {h : StH} {s : St} {I : Nat → Nat × Nat} {l : List Int} (k : Sit w W0 R B v h s) (a : StApart B v I h s) (ho : OwnInts c (I 7).1 (.slice h.a2 l.length h.k2) l) (hc : But (fun b => (Value.slice h.a2 s.w2.length h.k2).ownBlock = some b) v c) :
    c.cell? ⟨W0, 11, none⟩ = some (.slice h.a2 s.w2.length h.k2) ∧ c.frozen? ⟨W0, 11, none⟩ = false ∧ Sit w W0 R B (c.setCell ⟨W0, 11, none⟩ (.slice h.a2 l.length h.k2)) h { s with w2 := l } := by
  have kl := k.lo
  have hlow := a.low 7 (by omega)
  have hS : ∀ b, (Value.slice h.a2 s.w2.length h.k2).ownBlock = some b → B ≤ b := fun b hb => by have := (World.ownsRow.lt a.w2.1 b hb).1; omega
  have b1 := hc.blk k.box (fun e => by have := hS _ e; omega)
  have b2 := hc.blk k.res (fun e => by have := hS _ e; omega)
  have a' := a.withW2 hc (fun b _ _ hb => ⟨(World.ownsRow.lt a.w2.1 b hb).1, a.w2.2 b hb⟩) (.inl rfl) (A := h.a2) (cc := h.k2) (l := l) ⟨ho, fun b hb => a.w2.2 b ((own_len _ _ _ _ _).trans hb)⟩
  have hu := (Upd.refl W0 c).set 11 (.slice h.a2 l.length h.k2)
  have hcs := hc.size
  exact ⟨st11 b1, frozen_of_row _ _ 11 _ _ b1, blk_set b1 11 _, blk_set_other b2 _ (by simp only; omega) _, ⟨_, (StApart.putI_same a').far (But.upd (S := fun b => b = W0) hu rfl) (fun b hb => by omega)⟩, (But.after k.ext hc (fun b hb => by have := hS b hb; omega)).upd hu (by omega), by have := hu.size; omega⟩
theorem Sit.wait3 {w v c : World} {W0 R B : Nat} {h : StH} {s : St} {I : Nat → Nat × Nat} {l : List Int} (k : Sit w W0 R B v h s) (a : StApart B v I h s) (ho : OwnInts c (I 8).1 (.slice h.a3 l.length h.k3) l) (hc : But (fun b => (Value.slice h.a3 s.w3.length h.k3).ownBlock = some b) v c) :
    c.cell? ⟨W0, 12, none⟩ = some (.slice h.a3 s.w3.length h.k3) ∧ c.frozen? ⟨W0, 12, none⟩ = false ∧ Sit w W0 R B (c.setCell ⟨W0, 12, none⟩ (.slice h.a3 l.length h.k3)) h { s with w3 := l } := by
  have kl := k.lo
  have hlow := a.low 8 (by omega)
  have hS : ∀ b, (Value.slice h.a3 s.w3.length h.k3).ownBlock = some b → B ≤ b := fun b hb => by have := (World.ownsRow.lt a.w3.1 b hb).1; omega
  have b1 := hc.blk k.box (fun e => by have := hS _ e; omega)
  have b2 := hc.blk k.res (fun e => by have := hS _ e; omega)
  have a' := a.withW3 hc (fun b _ _ hb => ⟨(World.ownsRow.lt a.w3.1 b hb).1, a.w3.2 b hb⟩) (.inl rfl) (A := h.a3) (cc := h.k3) (l := l) ⟨ho, fun b hb => a.w3.2 b ((own_len _ _ _ _ _).trans hb)⟩
  have hu := (Upd.refl W0 c).set 12 (.slice h.a3 l.length h.k3)
  have hcs := hc.size
  exact ⟨st12 b1, frozen_of_row _ _ 12 _ _ b1, blk_set b1 12 _, blk_set_other b2 _ (by simp only; omega) _, ⟨_, (StApart.putI_same a').far (But.upd (S := fun b => b = W0) hu rfl) (fun b hb => by omega)⟩, (But.after k.ext hc (fun b hb => by have := hS b hb; omega)).upd hu (by omega), by have := hu.size; omega⟩
theorem Sit.times {w v c : World} {W0 R B : Nat} {h : StH} {s : St} {I : Nat → Nat × Nat} {l : List (Int × Int)} (k : Sit w W0 R B v h s) (a : StApart B v I h s) (ho : OwnRows 76 2 pairL c (I 9).1 (.slice h.ta l.length h.tc) l) (hc : But (fun b => (Value.slice h.ta s.timers.length h.tc).ownBlock = some b) v c) :
    c.cell? ⟨W0, 13, none⟩ = some (.slice h.ta s.timers.length h.tc) ∧ c.frozen? ⟨W0, 13, none⟩ = false ∧ Sit w W0 R B (c.setCell ⟨W0, 13, none⟩ (.slice h.ta l.length h.tc)) h { s with timers := l } := by
  have kl := k.lo
  have hlow := a.low 9 (by omega)
  have hS : ∀ b, (Value.slice h.ta s.timers.length h.tc).ownBlock = some b → B ≤ b := fun b hb => by have := (OwnRows.lt a.timers.1 b hb).1; omega
  have b1 := hc.blk k.box (fun e => by have := hS _ e; omega)
  have b2 := hc.blk k.res (fun e => by have := hS _ e; omega)
  have a' := a.withTimers hc (fun b _ _ hb => ⟨(OwnRows.lt a.timers.1 b hb).1, a.timers.2 b hb⟩) (.inl rfl) (A := h.ta) (cc := h.tc) (l := l) ⟨ho, fun b hb => a.timers.2 b ((own_len _ _ _ _ _).trans hb)⟩
  have hu := (Upd.refl W0 c).set 13 (.slice h.ta l.length h.tc)
  have hcs := hc.size
  exact ⟨st13 b1, frozen_of_row _ _ 13 _ _ b1, blk_set b1 13 _, blk_set_other b2 _ (by simp only; omega) _, ⟨_, (StApart.putI_same a').far (But.upd (S := fun b => b = W0) hu rfl) (fun b hb => by omega)⟩, (But.after k.ext hc (fun b hb => by have := hS b hb; omega)).upd hu (by omega), by have := hu.size; omega⟩
def St.outK (s : St) (g : Int) (k : Nat) : St := { s with w0 := if 0 < k then s.w0.filter (· != g) else s.w0, w1 := if 1 < k then s.w1.filter (· != g) else s.w1, w2 := if 2 < k then s.w2.filter (· != g) else s.w2, w3 := if 3 < k then s.w3.filter (· != g) else s.w3 }
theorem St.wake_no {s : St} {p g : Int} (h : ¬ (s.may = true ∧ (1 ≤ p ∧ p ≤ s.procs) ∧ (1 ≤ g ∧ g ≤ s.gs.length) ∧ (s.gAt g).st = 3)) : s.wake p g = (St.nil, 1) := if_neg h
theorem St.wake_yes {s : St} {i k : Nat} {x : Pr} {y : Gr} (hm : s.may = true) (hp : 1 ≤ (i : Int) + 1 ∧ (i : Int) + 1 ≤ s.procs) (hx : s.ps[i]? = some x) (hy : s.gs[k]? = some y) (h3 : y.st = 3) :
    s.wake ((i : Int) + 1) ((k : Int) + 1) = (({ s.out ((k : Int) + 1) with gs := s.gs.set k { y with st := 1, m := 0, seq := y.seq + 1 }, ps := s.ps.set i { x with next := (k : Int) + 1 } } : St).tail ((i : Int) + 1) x.next, 0) := by
  have hl := (List.getElem?_eq_some_iff.1 hy).1
  unfold St.wake
  rw [if_pos ⟨hm, hp, ⟨by omega, by omega⟩, by rw [gAt_of hy]; exact h3⟩]
  have e1 : (s.out ((k : Int) + 1)).turn ((k : Int) + 1) 1 0 = { s.out ((k : Int) + 1) with gs := s.gs.set k { y with st := 1, m := 0, seq := y.seq + 1 } } := by
    unfold St.turn
    rw [show (s.out ((k : Int) + 1)).gAt ((k : Int) + 1) = y from gAt_of hy, show ((k : Int) + 1 - 1).toNat = k by omega]
    rfl
  rw [e1]
  unfold St.next
  rw [show ({ s.out ((k : Int) + 1) with gs := s.gs.set k { y with st := 1, m := 0, seq := y.seq + 1 } } : St).pAt ((i : Int) + 1) = x from pAt_of hx, putP_of]
  rfl
theorem StFew.woken {s : St} (h : StFew s) {g : Int} {gs : List Gr} {ps : List Pr} (h1 : gs.length = s.gs.length) (h2 : ps.length = s.ps.length) : StFew { s.out g with gs := gs, ps := ps } := by
  have hw := h.w
  have f := fun (l : List Int) (hl : l.length ≤ 100000) => show (l.filter (· != g)).length ≤ 100000 from Nat.le_trans (List.length_filter_le _ _) hl
  exact ⟨h.prog, by show gs.length ≤ _; rw [h1]; exact h.gs, by show ps.length ≤ _; rw [h2]; exact h.ps, h.ms, h.glob, ⟨f _ hw.1, f _ hw.2.1, f _ hw.2.2.1, f _ hw.2.2.2⟩, Nat.le_trans (List.length_filter_le _ _) h.timers, fun p hp => h.tnum p (List.mem_filter.1 hp).1⟩
theorem Sit.round {w v : World} {W0 R B n : Nat} {h : StH} {s : St} {g : Int} (k : Sit w W0 R B v h (s.outK g n)) (hn : n < 4) :
    ∃ A cc l, s.wts[n]? = some l ∧ (∀ u, (Instr.index 29 (.agg #[.slice h.a0 s.w0.length h.k0, .slice h.a1 s.w1.length h.k1, .slice h.a2 s.w2.length h.k2, .slice h.a3 s.w3.length h.k3]) (.int .i64 (n : Int))).run Try.prog u = .ok (.slice A l.length cc) u) ∧ ∃ B5, B ≤ B5 ∧ B5 ≤ v.heap.size ∧ OwnInts v B5 (.slice A l.length cc) l ∧
      ∀ c, OwnInts c B5 (.slice A (l.filter (· != g)).length cc) (l.filter (· != g)) → But (fun b => (Value.slice A l.length cc).ownBlock = some b) v c →
        (∃ o, c.cell? ⟨W0, 9 + n, none⟩ = some o) ∧ c.frozen? ⟨W0, 9 + n, none⟩ = false ∧ Sit w W0 R B (c.setCell ⟨W0, 9 + n, none⟩ (.slice A (l.filter (· != g)).length cc)) h (s.outK g (n + 1)) := by
  obtain ⟨I, a⟩ := k.ap
  by_cases h0 : n = 0
  · subst h0
    have hl := a.low 5 (by omega)
    refine ⟨h.a0, h.k0, s.w0, rfl, fun u => by kernel_rfl, (I 5).1, hl.1, Nat.le_trans hl.2.1 hl.2.2, a.w0.1, fun c ho hc => ?_⟩
    have hs := k.wait0 a ho hc
    exact ⟨⟨_, hs.1⟩, hs.2.1, hs.2.2⟩
  by_cases h1 : n = 1
  · subst h1
    have hl := a.low 6 (by omega)
    refine ⟨h.a1, h.k1, s.w1, rfl, fun u => by kernel_rfl, (I 6).1, hl.1, Nat.le_trans hl.2.1 hl.2.2, a.w1.1, fun c ho hc => ?_⟩
    have hs := k.wait1 a ho hc
    exact ⟨⟨_, hs.1⟩, hs.2.1, hs.2.2⟩
  by_cases h2 : n = 2
  · subst h2
    have hl := a.low 7 (by omega)
    refine ⟨h.a2, h.k2, s.w2, rfl, fun u => by kernel_rfl, (I 7).1, hl.1, Nat.le_trans hl.2.1 hl.2.2, a.w2.1, fun c ho hc => ?_⟩
    have hs := k.wait2 a ho hc
    exact ⟨⟨_, hs.1⟩, hs.2.1, hs.2.2⟩
  by_cases h3 : n = 3
  · subst h3
    have hl := a.low 8 (by omega)
    refine ⟨h.a3, h.k3, s.w3, rfl, fun u => by kernel_rfl, (I 8).1, hl.1, Nat.le_trans hl.2.1 hl.2.2, a.w3.1, fun c ho hc => ?_⟩
    have hs := k.wait3 a ho hc
    exact ⟨⟨_, hs.1⟩, hs.2.1, hs.2.2⟩
  omega
theorem St.outK_out (s : St) (g : Int) : { s.outK g 4 with timers := s.timers.filter (fun x => x.2 != g) } = s.out g := rfl
set_option maxRecDepth 100000 in
set_option maxHeartbeats 16000000 in
theorem rdWake_any (h : StH) (s : St) (p g : Int) (r : St × Int) (hrr : s.wake p g = r) (w : World) (hk : StOk w h s) (hf : StFew s) : Calls Try.prog 18 #[stV h s, .int .i64 p, .int .i64 g] w (StRes w r) := by
  have HRS := Lib.hid hrr
  clear hrr
  have HF := Lib.hid hf
  have HK := Lib.hid hk
  obtain ⟨W0, hW0⟩ : ∃ W0, w.heap.size = W0 := ⟨_, rfl⟩
  obtain ⟨G0, hG0⟩ : ∃ G0, W0 + 1 = G0 := ⟨_, rfl⟩
  obtain ⟨R, hR⟩ : ∃ R, G0 + 1 = R := ⟨_, rfl⟩
  obtain ⟨w2, hw2⟩ : ∃ w2, ((w.alloc (.cells #[.slice h.pa s.prog.length h.pc, .slice h.ga s.gs.length h.gc, .slice h.qa s.ps.length h.qc, .slice h.ma s.ms.length h.mc, .slice h.la s.glob.length h.lc, .int .i64 s.c0, .int .i64 s.c1, .int .i64 s.c2, .int .i64 s.c3, .slice h.a0 s.w0.length h.k0, .slice h.a1 s.w1.length h.k1, .slice h.a2 s.w2.length h.k2, .slice h.a3 s.w3.length h.k3, .slice h.ta s.timers.length h.tc, .int .i64 s.clock, .int .i64 s.procs] 32)).alloc (.cells #[.int .i64 g] 3)).alloc (.cells #[.slice none 0 0, .slice none 0 0, .slice none 0 0, .slice none 0 0, .slice none 0 0, .int .i64 0, .int .i64 0, .int .i64 0, .int .i64 0, .slice none 0 0, .slice none 0 0, .slice none 0 0, .slice none 0 0, .slice none 0 0, .int .i64 0, .int .i64 0] 32) = w2 := ⟨_, rfl⟩
  have HX1 : Hid (Ext w w2) := Lib.hid (by rw [← hw2]; exact (((Ext.refl w).alloc _).alloc _).alloc _)
  have HB1 : Hid (w2.heap[W0]? = some (.cells (stC h s) 32 (0, 0))) := Lib.hid (by rw [← hw2, ← hW0]; exact blk_alloc (blk_alloc (blk_new w _) _) _)
  have HG1 : Hid (w2.heap[G0]? = some (.cells #[.int .i64 g] 3 (0, 0))) := Lib.hid (by
    have := blk_alloc (blk_new (w.alloc (.cells #[.slice h.pa s.prog.length h.pc, .slice h.ga s.gs.length h.gc, .slice h.qa s.ps.length h.qc, .slice h.ma s.ms.length h.mc, .slice h.la s.glob.length h.lc, .int .i64 s.c0, .int .i64 s.c1, .int .i64 s.c2, .int .i64 s.c3, .slice h.a0 s.w0.length h.k0, .slice h.a1 s.w1.length h.k1, .slice h.a2 s.w2.length h.k2, .slice h.a3 s.w3.length h.k3, .slice h.ta s.timers.length h.tc, .int .i64 s.clock, .int .i64 s.procs] 32)) (.cells #[.int .i64 g] 3)) (.cells #[.slice none 0 0, .slice none 0 0, .slice none 0 0, .slice none 0 0, .slice none 0 0, .int .i64 0, .int .i64 0, .int .i64 0, .int .i64 0, .slice none 0 0, .slice none 0 0, .slice none 0 0, .slice none 0 0, .slice none 0 0, .int .i64 0, .int .i64 0] 32)
    rw [hw2, World.size_alloc, hW0, hG0] at this
    exact this)
  have HR1 : Hid (w2.heap[R]? = some (.cells #[.slice none 0 0, .slice none 0 0, .slice none 0 0, .slice none 0 0, .slice none 0 0, .int .i64 0, .int .i64 0, .int .i64 0, .int .i64 0, .slice none 0 0, .slice none 0 0, .slice none 0 0, .slice none 0 0, .slice none 0 0, .int .i64 0, .int .i64 0] 32 (0, 0))) := Lib.hid (by
    have := blk_new ((w.alloc (.cells #[.slice h.pa s.prog.length h.pc, .slice h.ga s.gs.length h.gc, .slice h.qa s.ps.length h.qc, .slice h.ma s.ms.length h.mc, .slice h.la s.glob.length h.lc, .int .i64 s.c0, .int .i64 s.c1, .int .i64 s.c2, .int .i64 s.c3, .slice h.a0 s.w0.length h.k0, .slice h.a1 s.w1.length h.k1, .slice h.a2 s.w2.length h.k2, .slice h.a3 s.w3.length h.k3, .slice h.ta s.timers.length h.tc, .int .i64 s.clock, .int .i64 s.procs] 32)).alloc (.cells #[.int .i64 g] 3)) (.cells #[.slice none 0 0, .slice none 0 0, .slice none 0 0, .slice none 0 0, .slice none 0 0, .int .i64 0, .int .i64 0, .int .i64 0, .int .i64 0, .slice none 0 0, .slice none 0 0, .slice none 0 0, .slice none 0 0, .slice none 0 0, .int .i64 0, .int .i64 0] 32)
    rw [hw2, World.size_alloc, World.size_alloc, hW0, hG0, hR] at this
    exact this)
  have HRR := Lib.hid hR
  have HG0 := Lib.hid hG0
  have HW0 := Lib.hid hW0
  have HW2 := Lib.hid hw2
  have HK1 := Lib.hid (hk.ext HX1.out)
  clear hk hf hw2 hW0 hR hG0
  obtain ⟨PQ, hPQ⟩ : ∃ PQ : Ending → World → Prop, PQ = StRes w r := ⟨_, rfl⟩
  rw [← hPQ]
  have HPQ := Lib.hid hPQ
  clear hPQ
  unfold stV
  go_enter Try.func18, Try.ntmps18
  go_upto_region 1 with fail
  rw [HW2.out, HW0.out, HG0.out, HRR.out]
  generalize Value.agg #[.slice h.pa s.prog.length h.pc, .slice h.ga s.gs.length h.gc, .slice h.qa s.ps.length h.qc, .slice h.ma s.ms.length h.mc, .slice h.la s.glob.length h.lc, .int .i64 s.c0, .int .i64 s.c1, .int .i64 s.c2, .int .i64 s.c3, .slice h.a0 s.w0.length h.k0, .slice h.a1 s.w1.length h.k1, .slice h.a2 s.w2.length h.k2, .slice h.a3 s.w3.length h.k3, .slice h.ta s.timers.length h.tc, .int .i64 s.clock, .int .i64 s.procs] = sv0
  go_wp2_with (refine wpList_load_rowW (by rfl) 32 _ rfl W0 (by go_simp) (stL h s) (stV h s) rfl _ (range_row HB1.out) Try.underlying32 rfl (by kernel_rfl) ?_)
  refine (sstmay_any h s _ rfl _ HK1.out HF.out).mono ?_
  rintro e wa ⟨rfl, hxa⟩
  have HXA := Lib.hid (HX1.out.trans hxa)
  have HBA := Lib.hid (hxa.blk HB1.out)
  have HGA := Lib.hid (hxa.blk HG1.out)
  have HRA := Lib.hid (hxa.blk HR1.out)
  clear hxa
  cases bm : s.may with
  | false =>
    have HN : Hid (r = (St.nil, 1)) := Lib.hid (by rw [← HRS.out]; exact St.wake_no (by rw [bm]; simp))
    go_upto_if 40 with fail
    obtain ⟨wf, hwf⟩ : ∃ wf, wa.setCells R 0 (stL StH.nil St.nil) = wf := ⟨_, rfl⟩
    have hfn := fin_nil HRA.out HXA.out (show w.heap.size ≤ R by have := HRR.out; have := HW0.out; have := HG0.out; omega)
    rw [hwf] at hfn
    have HFN := Lib.hid hfn
    have HWF := Lib.hid hwf
    clear hfn hwf
    go_wp2_with (refine wpList_store_row rfl 32 _ _ rfl R (stL StH.nil St.nil) (stV StH.nil St.nil) rfl rfl rfl HFN.out.2.1 (by kernel_rfl) (stL_one _ _) HWF.out ?_)
    refine bodyPost_cell_tmp rfl R _ _ _ _ rfl HFN.out.1 Try.underlying32 rfl (by kernel_rfl) (.int .i64 1) rfl rfl ?_
    rw [HPQ.out]
    show StRes w _ _ _
    rw [HN.out]
    exact StRes.nil HFN.out.2.2
  | true =>
  have HM := Lib.hid bm
  clear bm
  go_wp2_with (refine wpList_load_rowW (by rfl) 32 _ rfl W0 (by go_simp) (stL h s) (stV h s) rfl _ (range_row HBA.out) Try.underlying32 rfl (by kernel_rfl) ?_)
  refine (sinuse_any h s p _ rfl _ (HK.out.ext HXA.out)).mono ?_
  rintro e wb ⟨rfl, hxb⟩
  have HXB := Lib.hid (HXA.out.trans hxb)
  have HBB := Lib.hid (hxb.blk HBA.out)
  have HGB := Lib.hid (hxb.blk HGA.out)
  have HRB := Lib.hid (hxb.blk HRA.out)
  clear hxb
  cases bi : decide (1 ≤ p ∧ p ≤ s.procs) with
  | false =>
    have HN : Hid (r = (St.nil, 1)) := Lib.hid (by rw [← HRS.out]; exact St.wake_no (by intro h; have := of_decide_eq_false bi; exact this h.2.1))
    go_upto_if 40 with fail
    obtain ⟨wf, hwf⟩ : ∃ wf, wb.setCells R 0 (stL StH.nil St.nil) = wf := ⟨_, rfl⟩
    have hfn := fin_nil HRB.out HXB.out (show w.heap.size ≤ R by have := HRR.out; have := HW0.out; have := HG0.out; omega)
    rw [hwf] at hfn
    have HFN := Lib.hid hfn
    have HWF := Lib.hid hwf
    clear hfn hwf
    go_wp2_with (refine wpList_store_row rfl 32 _ _ rfl R (stL StH.nil St.nil) (stV StH.nil St.nil) rfl rfl rfl HFN.out.2.1 (by kernel_rfl) (stL_one _ _) HWF.out ?_)
    refine bodyPost_cell_tmp rfl R _ _ _ _ rfl HFN.out.1 Try.underlying32 rfl (by kernel_rfl) (.int .i64 1) rfl rfl ?_
    rw [HPQ.out]
    show StRes w _ _ _
    rw [HN.out]
    exact StRes.nil HFN.out.2.2
  | true =>
  have hpp := of_decide_eq_true bi
  clear bi
  have q1 := st1 HBB.out
  have qg := blk_cell HGB.out 0 _ rfl
  by_cases a1 : g < 1
  · have HN : Hid (r = (St.nil, 1)) := Lib.hid (by rw [← HRS.out]; exact St.wake_no (by omega))
    go_upto_if 40 with fail
    obtain ⟨wf, hwf⟩ : ∃ wf, wb.setCells R 0 (stL StH.nil St.nil) = wf := ⟨_, rfl⟩
    have hfn := fin_nil HRB.out HXB.out (show w.heap.size ≤ R by have := HRR.out; have := HW0.out; have := HG0.out; omega)
    rw [hwf] at hfn
    have HFN := Lib.hid hfn
    have HWF := Lib.hid hwf
    clear hfn hwf
    go_wp2_with (refine wpList_store_row rfl 32 _ _ rfl R (stL StH.nil St.nil) (stV StH.nil St.nil) rfl rfl rfl HFN.out.2.1 (by kernel_rfl) (stL_one _ _) HWF.out ?_)
    refine bodyPost_cell_tmp rfl R _ _ _ _ rfl HFN.out.1 Try.underlying32 rfl (by kernel_rfl) (.int .i64 1) rfl rfl ?_
    rw [HPQ.out]
    show StRes w _ _ _
    rw [HN.out]
    exact StRes.nil HFN.out.2.2
  by_cases a2 : (s.gs.length : Int) < g
  · have HN : Hid (r = (St.nil, 1)) := Lib.hid (by rw [← HRS.out]; exact St.wake_no (by omega))
    go_upto_if 40 with fail
    obtain ⟨wf, hwf⟩ : ∃ wf, wb.setCells R 0 (stL StH.nil St.nil) = wf := ⟨_, rfl⟩
    have hfn := fin_nil HRB.out HXB.out (show w.heap.size ≤ R by have := HRR.out; have := HW0.out; have := HG0.out; omega)
    rw [hwf] at hfn
    have HFN := Lib.hid hfn
    have HWF := Lib.hid hwf
    clear hfn hwf
    go_wp2_with (refine wpList_store_row rfl 32 _ _ rfl R (stL StH.nil St.nil) (stV StH.nil St.nil) rfl rfl rfl HFN.out.2.1 (by kernel_rfl) (stL_one _ _) HWF.out ?_)
    refine bodyPost_cell_tmp rfl R _ _ _ _ rfl HFN.out.1 Try.underlying32 rfl (by kernel_rfl) (.int .i64 1) rfl rfl ?_
    rw [HPQ.out]
    show StRes w _ _ _
    rw [HN.out]
    exact StRes.nil HFN.out.2.2
  obtain ⟨k, rfl⟩ : ∃ k : Nat, g = (k : Int) + 1 := ⟨(g - 1).toNat, by omega⟩
  obtain ⟨y, hy⟩ : ∃ y, s.gs[k]? = some y := ⟨_, List.getElem?_eq_getElem (by omega)⟩
  obtain ⟨bg0, og0, hA, hbg, hc⟩ := gs_get (HK.out.ext HXB.out).gs hy
  rw [hA] at q1
  have c2 := hc.2.2.1
  have e1 : (k : Int) + 1 - 1 = (k : Int) := by omega
  have e4 : (k : Int) < (s.gs.length : Int) := by omega
  have e5 : (k : Int) < 100000 := by have := HF.out.gs; omega
  have d1 : decide ((k : Int) + 1 < 1) = false := decide_eq_false (by omega)
  have d2 : decide ((s.gs.length : Int) < (k : Int) + 1) = false := decide_eq_false (by omega)
  have HY := Lib.hid hy
  have HKL : Hid (k < s.gs.length) := Lib.hid (by omega)
  have HPP := Lib.hid hpp
  clear hA hbg hc hy a1 a2 hpp
  by_cases a3 : y.st = 3
  case neg =>
    have HN : Hid (r = (St.nil, 1)) := Lib.hid (by rw [← HRS.out]; exact St.wake_no (by rw [St.gAt_of HY.out]; intro h; exact a3 h.2.2.2))
    have d3 : (y.st != 3) = true := by simpa using a3
    clear a3
    go_upto_if 40 with fail
    obtain ⟨wf, hwf⟩ : ∃ wf, wb.setCells R 0 (stL StH.nil St.nil) = wf := ⟨_, rfl⟩
    have hfn := fin_nil HRB.out HXB.out (show w.heap.size ≤ R by have := HRR.out; have := HW0.out; have := HG0.out; omega)
    rw [hwf] at hfn
    have HFN := Lib.hid hfn
    have HWF := Lib.hid hwf
    clear hfn hwf
    go_wp2_with (refine wpList_store_row rfl 32 _ _ rfl R (stL StH.nil St.nil) (stV StH.nil St.nil) rfl rfl rfl HFN.out.2.1 (by kernel_rfl) (stL_one _ _) HWF.out ?_)
    refine bodyPost_cell_tmp rfl R _ _ _ _ rfl HFN.out.1 Try.underlying32 rfl (by kernel_rfl) (.int .i64 1) rfl rfl ?_
    rw [HPQ.out]
    show StRes w _ _ _
    rw [HN.out]
    exact StRes.nil HFN.out.2.2
  have d3 : (y.st != 3) = false := by simpa using a3
  have HY3 := Lib.hid a3
  clear a3
  have hps := St.may_procs HM.out
  have hpp := HPP.out
  obtain ⟨i, rfl⟩ : ∃ i : Nat, p = (i : Int) + 1 := ⟨(p - 1).toNat, by omega⟩
  obtain ⟨x, hp⟩ : ∃ x, s.ps[i]? = some x := ⟨_, List.getElem?_eq_getElem (by omega)⟩
  have HP := Lib.hid hp
  have HIL : Hid (i < s.ps.length) := Lib.hid (by omega)
  have HYQ := Lib.hid (St.may_seq HM.out HY.out)
  clear hps hpp hp
  go_upto_if 40 with fail
  clear c2 q1
  have HLD := Lib.hid (HBB.out)
  go_wp2_with (refine wpList_load_rowW (by rfl) 32 _ rfl W0 (by go_simp) (stL h s) (stV h s) rfl _ (range_row HLD.out) Try.underlying32 rfl (by kernel_rfl) ?_)
  refine (sCopy_any h s _ (HK.out.ext HXB.out) HF.out).mono ?_
  rintro e w3 ⟨h1, L, rfl, ho, hL, hx⟩
  obtain ⟨w4, hw4⟩ : ∃ w4, w3.setCells W0 0 (stL h1 s) = w4 := ⟨_, rfl⟩
  have hst := Sit.start (w := w) rfl HXB.out HLD.out (HRB.out) hx (ho.apart hL) (by have := HRR.out; have := HG0.out; omega) (by have := HW0.out; omega) (by have := HW0.out; have := HRR.out; have := HG0.out; omega)
  rw [hw4] at hst
  have HTH := Lib.hid hst.1
  have S4 := Lib.hid hst.2
  have HW4 := Lib.hid hw4
  have HX3 := Lib.hid hx
  have HU4 : Hid (Upd W0 w3 w4) := Lib.hid (by rw [← hw4]; exact setCells_upd _ _ _ _)
  clear ho hL hx hst hw4 HLD
  have HGL : Hid (G0 < wb.heap.size) := Lib.hid (blk_lt HGB.out)
  have HG4 : Hid (w4.heap[G0]? = some (.cells #[.int .i64 ((k : Int) + 1)] 3 (0, 0))) := Lib.hid ((HU4.out.block G0 (by have := HX3.out.size; have := HGL.out; omega) (fun e => by injection e; have := HG0.out; omega)).trans (HX3.out.blk HGB.out))
  go_upto_region 4 with (refine wpList_store_row rfl 32 _ _ rfl W0 (stL h1 s) (stV h1 s) (by go_simp) (by go_simp) rfl HTH.out (by kernel_rfl) (stL_one _ _) HW4.out ?_)
  clear d1 d2 d3 e1 e4 e5 qg
  have q9 := st9 S4.out.box
  have q10 := st10 S4.out.box
  have q11 := st11 S4.out.box
  have q12 := st12 S4.out.box
  go_wp2_with fail
  clear q9 q10 q11 q12
  obtain ⟨gg, hgg⟩ : ∃ gg : Int, (k : Int) + 1 = gg := ⟨_, rfl⟩
  rw [hgg] at HG4 HRS
  have HGG := Lib.hid hgg
  clear hgg
  go_loopw [46] (fun iv wr => ∃ n : Nat, n ≤ 4 ∧ iv = .int .i64 n ∧ Sit w W0 R wb.heap.size wr h1 (s.outK gg n) ∧ wr.heap[G0]? = some (.cells #[.int .i64 gg] 3 (0, 0))) (fun iv _ => 4 - (intOf iv).toNat)
  case atStart => exact ⟨0, by omega, rfl, S4.out, HG4.out⟩
  case round =>
    obtain ⟨n, hn, rfl, hsit, hgb⟩ := hrel
    have SN := Lib.hid hsit
    have HGN := Lib.hid hgb
    clear hsit hgb
    by_cases hlt : n < 4
    · obtain ⟨A, cc, l, hwl, hidx, B5, hB1, hB2, ho, hfin⟩ := SN.out.round hlt
      have hll : l.length ≤ 100000 := wts_few HF.out.w hwl
      have HD := Lib.hid (delf1_any A cc l gg G0 B5 wr (ints_rows.1 ho) (by omega) (blk_cell HGN.out 0 _ rfl) (by have := HGL.out; omega) hB2)
      have HFIN := Lib.hid hfin
      have HBB5 : Hid (wb.heap.size ≤ B5) := Lib.hid hB1
      have HOW := Lib.hid ho
      clear hwl hB1 hB2 ho hfin hll
      go_wp2_with fail
      refine HD.out.mono ?_
      rintro e c ⟨rfl, ho', hb⟩
      clear hidx
      have hst := HFIN.out c (ints_rows.2 ho') hb
      obtain ⟨ov, r0⟩ := hst.1
      have r1 := hst.2.1
      have NS := Lib.hid hst.2.2
      have NG : Hid ((c.setCell ⟨W0, 9 + n, none⟩ (.slice A (l.filter (· != gg)).length cc)).heap[G0]? = some (.cells #[.int .i64 gg] 3 (0, 0))) := Lib.hid (blk_set_other (hb.blk HGN.out (fun e => by have := (World.ownsRow.lt HOW.out G0 e).1; have := HBB5.out; have := HGL.out; omega)) _ (by have := HG0.out; simp only; omega) _)
      clear ho' hb hst HD HFIN
      go_wp2
      go_roundw
      case rel => exact ⟨n + 1, by omega, by go_num, NS.out, NG.out⟩
      case measure => simp [intOf]; omega
    · obtain rfl : n = 4 := by omega
      obtain ⟨I9, ha9⟩ := SN.out.ap
      have q13 : wr.cell? ⟨W0, 13, none⟩ = some (.slice h1.ta s.timers.length h1.tc) := by have := st13 SN.out.box; exact this
      have hl9 := ha9.low 9 (by omega)
      have HD := Lib.hid (delf2_any h1.ta h1.tc s.timers gg G0 (I9 9).1 wr ha9.timers.1 (by have := HF.out.timers; omega) (blk_cell HGN.out 0 _ rfl) (by have := HGL.out; omega) (by omega))
      have HA9 := Lib.hid ha9
      have HL9 := Lib.hid hl9
      clear ha9 hl9
      go_wp2_with fail
      refine HD.out.mono ?_
      rintro e c ⟨rfl, ho', hb⟩
      have hst := SN.out.times HA9.out ho' hb
      obtain ⟨w9, hw9⟩ : ∃ w9, c.setCell ⟨W0, 13, none⟩ (.slice h1.ta (s.timers.filter (fun x => x.2 != gg)).length h1.tc) = w9 := ⟨_, rfl⟩
      have r0 : c.cell? ⟨W0, 13, none⟩ = some (.slice h1.ta s.timers.length h1.tc) := hst.1
      have r1 := hst.2.1
      have hs9 := hst.2.2
      rw [hw9, St.outK_out] at hs9
      have S9 := Lib.hid hs9
      have HG9 : Hid (w9.heap[G0]? = some (.cells #[.int .i64 gg] 3 (0, 0))) := Lib.hid (by
        rw [← hw9]
        exact blk_set_other (hb.blk HGN.out (fun e => by have := (OwnRows.lt HA9.out.timers.1 G0 e).1; have := HL9.out; have := HGL.out; omega)) _ (by have := HG0.out; simp only; omega) _)
      have HW9 := Lib.hid hw9
      clear ho' hb hst hs9 hw9 HD q13
      go_upto_region 10 with (rw [HW9.out])
      clear r0 r1
      obtain ⟨bg, hga, hgB, hrg⟩ := S9.out.getG (x := y) HY.out
      have hst10 := S9.out.setG' (x := y) HY.out hga (x' := { y with st := 1, m := 0, seq := y.seq + 1 }) (j := 2) (ds := [.int .i64 1, .int .i64 0, .int .i64 (y.seq + 1)]) (by simp) (gL_turn y)
      have qg := blk_cell HG9.out 0 _ rfl
      have HRU := Lib.hid (srun_any W0 bg k gg h1 (s.out gg) y w9 HGG.out.symm S9.out.box hga HKL.out HF.out.gs hrg hst10.1 (by have := HYQ.out; omega))
      have HS10 := Lib.hid hst10.2
      have HGB2 := Lib.hid hgB
      clear hst10 hga hrg hgB
      go_wp2_with fail
      refine HRU.out.mono ?_
      rintro e w10 ⟨rfl, hw10⟩
      have hs10 := HS10.out
      rw [← hw10] at hs10
      have S10 := Lib.hid hs10
      have HG10 : Hid (w10.heap[G0]? = some (.cells #[.int .i64 gg] 3 (0, 0))) := Lib.hid (by
        rw [hw10]
        exact ((setCells_upd bg _ w9 _).block G0 (blk_lt HG9.out) (fun e => by injection e; have := HGB2.out; have := HGL.out; omega)).trans HG9.out)
      clear hs10 hw10 HRU HS10 qg
      have e1 : (i : Int) + 1 - 1 = (i : Int) := by omega
      have e4 : (i : Int) < (s.ps.length : Int) := by have := HIL.out; omega
      have e5 : (i : Int) < 100000 := by have := HF.out.ps; have := HIL.out; omega
      obtain ⟨bq, hqa, hqb, hrp⟩ := S10.out.getP (x := x) HP.out
      have q2 : w10.cell? ⟨W0, 2, none⟩ = some (.slice (some ⟨bq, 0, none⟩) s.ps.length h1.qc) := by rw [← hqa]; have := st2 S10.out.box; exact this
      have r0 : w10.cell? ⟨bq, i * 13 + 1, none⟩ = some (.int .i64 x.next) := hrp 1 _ rfl
      have qg := blk_cell HG10.out 0 _ rfl
      have hst11 := S10.out.setP' (x := x) HP.out hqa (x' := { x with next := gg }) (j := 1) (ds := [.int .i64 gg]) (by simp) (pL_next x gg)
      have r1 := (hst11.1 0 (by simp)).2
      rw [Nat.add_zero] at r1
      obtain ⟨w12, hw12⟩ : ∃ w12, w10.setCell ⟨bq, i * 13 + 1, none⟩ (.int .i64 gg) = w12 := ⟨_, rfl⟩
      obtain ⟨s3, hs3⟩ : ∃ s3 : St, { s.out gg with gs := s.gs.set k { y with st := 1, m := 0, seq := y.seq + 1 }, ps := s.ps.set i { x with next := gg } } = s3 := ⟨_, rfl⟩
      have hs12 := hst11.2
      rw [show w10.setCells bq (i * 13 + 1) [.int .i64 gg] = w12 from hw12] at hs12
      have S12 : Hid (Sit w W0 R wb.heap.size w12 h1 s3) := Lib.hid (by rw [← hs3]; exact hs12)
      have HW12 := Lib.hid hw12
      have HF3 : Hid (StFew s3) := Lib.hid (by rw [← hs3]; exact HF.out.woken (List.length_set) (List.length_set))
      have HOK3 : Hid (StOk w12 h1 s3) := Lib.hid (by
        obtain ⟨I, a⟩ := S12.out.ap
        refine a.ok fun q hq => ?_
        rw [← hs3] at hq
        rcases List.mem_or_eq_of_mem_set hq with hq | rfl
        · exact HK.out.buf q hq
        · exact HK.out.buf x (List.mem_of_getElem? HP.out))
      have HE : Hid (r = (s3.tail ((i : Int) + 1) x.next, 0)) := Lib.hid (by rw [← HRS.out, ← hs3, ← HGG.out]; exact St.wake_yes HM.out HPP.out HP.out HY.out HY3.out)
      clear hqa hrp hst11 hw12 hs12 hs3
      go_upto_region 13 with (rw [HW12.out])
      clear q2 r0 r1 qg e1 e4 e5
      have HB12 := Lib.hid S12.out.box
      go_wp2_with (refine wpList_load_rowW (by rfl) 32 _ rfl W0 (by go_simp) (stL h1 s3) (stV h1 s3) rfl _ (range_row HB12.out) Try.underlying32 rfl (by kernel_rfl) ?_)
      refine (rdTail_any h1 s3 _ x.next w12 HOK3.out HF3.out).mono ?_
      rintro e w13 ⟨h4, I4, rfl, ha4, hx13⟩
      obtain ⟨s4, hs4⟩ : ∃ s4, s3.tail ((i : Int) + 1) x.next = s4 := ⟨_, rfl⟩
      rw [hs4] at ha4 HE ⊢
      obtain ⟨wf, hwf⟩ : ∃ wf, w13.setCells R 0 (stL h4 s4) = wf := ⟨_, rfl⟩
      have hr13 := hx13.blk S12.out.res
      have HTR : Hid (w13.there R 0 (stL h4 s4).length) := Lib.hid (there_row hr13 (Nat.le_refl 16))
      have HRZ : Hid (wf.heap[R]? = some (.cells (stL h4 s4).toArray 32 (0, 0))) := Lib.hid (by rw [← hwf]; exact setCells_at [.slice none 0 0, .slice none 0 0, .slice none 0 0, .slice none 0 0, .slice none 0 0, .int .i64 0, .int .i64 0, .int .i64 0, .int .i64 0, .slice none 0 0, .slice none 0 0, .slice none 0 0, .slice none 0 0, .slice none 0 0, .int .i64 0, .int .i64 0] (stL h4 s4) rfl hr13)
      have HUF : Hid (Upd R w13 wf) := Lib.hid (by rw [← hwf]; exact setCells_upd _ _ _ _)
      have HFI : Hid ((∃ I, StApart w.heap.size wf I h4 s4) ∧ Ext w wf) := Lib.hid (by
        have l := S12.out.lo
        exact ⟨⟨I4, (ha4.far (But.upd (S := fun b => b = R) HUF.out rfl) (fun b hb => by omega)).lower (by omega)⟩, (S12.out.ext.trans hx13).upd HUF.out (by omega)⟩)
      have HWF := Lib.hid hwf
      clear hwf hr13 ha4 hx13 hs4
      go_wp2_with (refine wpList_store_row rfl 32 _ _ rfl R (stL h4 s4) (stV h4 s4) (by go_simp) (by go_simp) rfl HTR.out (by kernel_rfl) (stL_one _ _) HWF.out ?_)
      refine bodyPost_cell_tmp rfl R _ _ _ _ rfl HRZ.out Try.underlying32 rfl (by kernel_rfl) (.int .i64 0) rfl rfl ?_
      rw [HPQ.out]
      show StRes w _ _ _
      rw [HE.out]
      exact ⟨h4, rfl, HFI.out.1, HFI.out.2⟩
def bS : St := { fullS with gs := List.replicate 8 ⟨0, 0, 1, 0, 0⟩ ++ [⟨0, 0, 1, 0, 1⟩], ms := [(1, 0)], glob := [9] }
theorem full_tail : (fullS.tail 1 9).glob = [1, 2, 3, 4, 9] ∧ (fullS.tail 1 9).ps.length = 8 ∧ (fullS.tail 1 9).ps[0]? = some ⟨1, 0, ⟨[0, 0, 0, 0, 5, 6, 7, 8], 4, 4⟩, 0⟩ := ⟨by kernel_rfl, by kernel_rfl, by kernel_rfl⟩
theorem full_yield : fullS.yield 1 = (bS, 0) := by kernel_rfl
theorem full_drain : (bS.drain 1).2 = 0 ∧ (bS.drain 1).1.glob = [9, 1, 2, 3, 4, 5, 6, 7, 8] := ⟨by kernel_rfl, by kernel_rfl⟩
theorem full_wake : fullS.wake 1 1 = (St.nil, 1) := by kernel_rfl
theorem full_few : StFew fullS ∧ StFew bS := by
  refine ⟨⟨?_, ?_, ?_, ?_, ?_, ?_, ?_, ?_⟩, ⟨?_, ?_, ?_, ?_, ?_, ?_, ?_, ?_⟩⟩
  all_goals first | decide | (simp [fullS, bS])
theorem full_buf : (∀ p ∈ bS.ps, p.ring.buf.length = 8) ∧ (∀ p ∈ (fullS.tail 1 9).ps, p.ring.buf.length = 8) ∧ (∀ p ∈ (bS.drain 1).1.ps, p.ring.buf.length = 8) := ⟨by decide +kernel, by decide +kernel, by decide +kernel⟩
set_option maxRecDepth 100000 in
set_option maxHeartbeats 16000000 in
theorem rfixed_yes (w : World) : Calls Try.prog 17 #[] w fun e w' => e = .returned (.bool true) ∧ Ext w w' := by
  obtain ⟨aS, hA⟩ : ∃ aS, fullS.tail 1 9 = aS := ⟨_, rfl⟩
  obtain ⟨⟨cS, cn⟩, hC⟩ : ∃ c, bS.drain 1 = c := ⟨_, rfl⟩
  have FA := Lib.hid full_tail
  have FC := Lib.hid full_drain
  have FB := Lib.hid full_buf
  rw [hA] at FA FB
  rw [hC] at FC FB
  obtain rfl : cn = 0 := FC.out.1
  have HA := Lib.hid hA
  have HC := Lib.hid hC
  clear hA hC
  go_enter Try.func17, Try.ntmps17
  go_wp2_with fail
  refine (full_any w).mono ?_
  rintro e w1 ⟨h1, rfl, hk1, hx1⟩
  go_wp2_with fail
  refine (rdTail_any h1 fullS 1 9 w1 hk1 full_few.1).mono ?_
  rintro e w2 ⟨ha, I, rfl, hap, hx2⟩
  rw [HA.out] at hap ⊢
  have HKA := Lib.hid (hap.ok FB.out.2.1)
  have HX2 := Lib.hid (hx1.trans hx2)
  obtain ⟨wb1, wc1, hwb, hwc, hth, hbc, hxc⟩ := st_box w2 ha aS
  obtain ⟨B1, hB⟩ : ∃ B1, w2.heap.size = B1 := ⟨_, rfl⟩
  rw [hB] at hwc hth hbc
  have HWB1 := Lib.hid hwb
  have HB1 := Lib.hid hB
  have HWC1 := Lib.hid hwc
  have HTH1 := Lib.hid hth
  have HBS1 := Lib.hid hbc
  have HXC1 := Lib.hid hxc
  clear hwb hwc hth hbc hxc hB
  clear hk1 hx1 hap hx2
  go_upto_region 2 with (first | rw [HWB1.out, HB1.out] | (refine wpList_store_row rfl 32 _ _ rfl B1 (stL ha aS) (stV ha aS) (by go_simp) (by go_simp) rfl HTH1.out (by kernel_rfl) (stL_one _ _) HWC1.out ?_))
  go_wp2_with fail
  refine (full_any wc1).mono ?_
  rintro e w3 ⟨h3, rfl, hk3, hx3⟩
  go_wp2_with fail
  refine (rdYield_any h3 fullS 1 _ full_yield w3 hk3 full_few.1).mono ?_
  rintro e w4 ⟨hb, rfl, ⟨I, hap⟩, hx4⟩
  simp only at hap ⊢
  have HKB := Lib.hid (hap.ok FB.out.1)
  have HX4 := Lib.hid (hx3.trans hx4)
  obtain ⟨wb2, wc2, hwb, hwc, hth, hbc, hxc⟩ := st_box w4 hb bS
  obtain ⟨B2, hB⟩ : ∃ B2, w4.heap.size = B2 := ⟨_, rfl⟩
  rw [hB] at hwc hth hbc
  have HWB2 := Lib.hid hwb
  have HB2 := Lib.hid hB
  have HWC2 := Lib.hid hwc
  have HTH2 := Lib.hid hth
  have HBS2 := Lib.hid hbc
  have HXC2 := Lib.hid hxc
  clear hwb hwc hth hbc hxc hB
  clear hk3 hx3 hap hx4
  go_upto_region 3 with (first | rw [HWB2.out, HB2.out] | (refine wpList_store_row rfl 32 _ _ rfl B2 (stL hb bS) (stV hb bS) (by go_simp) (by go_simp) rfl HTH2.out (by kernel_rfl) (stL_one _ _) HWC2.out ?_))
  go_wp2_with (refine wpList_load_rowW (by rfl) 32 _ rfl B2 (by go_simp) (stL hb bS) (stV hb bS) rfl _ (range_row HBS2.out) Try.underlying32 rfl (by kernel_rfl) ?_)
  refine (rdDrain_any hb bS 1 _ HC.out wc2 (HKB.out.ext HXC2.out) full_few.2).mono ?_
  rintro e w5 ⟨hc, rfl, ⟨I, hap⟩, hx5⟩
  simp only at hap ⊢
  have HKC := Lib.hid (hap.ok FB.out.2.2)
  have HX5 := Lib.hid hx5
  obtain ⟨wb3, wc3, hwb, hwc, hth, hbc, hxc⟩ := st_box w5 hc cS
  obtain ⟨B3, hB⟩ : ∃ B3, w5.heap.size = B3 := ⟨_, rfl⟩
  rw [hB] at hwc hth hbc
  have HWB3 := Lib.hid hwb
  have HB3 := Lib.hid hB
  have HWC3 := Lib.hid hwc
  have HTH3 := Lib.hid hth
  have HBS3 := Lib.hid hbc
  have HXC3 := Lib.hid hxc
  clear hwb hwc hth hbc hxc hB
  clear hap hx5
  go_upto_region 4 with (first | rw [HWB3.out, HB3.out] | (refine wpList_store_row rfl 32 _ _ rfl B3 (stL hc cS) (stV hc cS) (by go_simp) (by go_simp) rfl HTH3.out (by kernel_rfl) (stL_one _ _) HWC3.out ?_))
  go_wp2_with fail
  refine (full_any wc3).mono ?_
  rintro e w6 ⟨h6, rfl, hk6, hx6⟩
  go_wp2_with fail
  refine (rdWake_any h6 fullS 1 1 _ full_wake w6 hk6 full_few.1).mono ?_
  rintro e w7 ⟨hd, rfl, -, hx7⟩
  simp only
  have HX7 := Lib.hid (hx6.trans hx7)
  obtain ⟨wb4, wc4, hwb, hwc, hth, hbc, hxc⟩ := st_box w7 hd St.nil
  obtain ⟨B4, hB⟩ : ∃ B4, w7.heap.size = B4 := ⟨_, rfl⟩
  rw [hB] at hwc hth hbc
  have HWB4 := Lib.hid hwb
  have HB4 := Lib.hid hB
  have HWC4 := Lib.hid hwc
  have HTH4 := Lib.hid hth
  have HBS4 := Lib.hid hbc
  have HXC4 := Lib.hid hxc
  clear hwb hwc hth hbc hxc hB
  clear hk6 hx6 hx7
  go_upto_region 5 with (first | rw [HWB4.out, HB4.out] | (refine wpList_store_row rfl 32 _ _ rfl B4 (stL hd St.nil) (stV hd St.nil) (by go_simp) (by go_simp) rfl HTH4.out (by kernel_rfl) (stL_one _ _) HWC4.out ?_))
  have X3 : Hid (Ext wc3 wc4) := Lib.hid (HX7.out.trans HXC4.out)
  have X2 : Hid (Ext wc2 wc4) := Lib.hid (HX5.out.trans (HXC3.out.trans X3.out))
  have X1 : Hid (Ext wc1 wc4) := Lib.hid (HX4.out.trans (HXC2.out.trans X2.out))
  have X0 : Hid (Ext w wc4) := Lib.hid (HX2.out.trans (HXC1.out.trans X1.out))
  have BA := Lib.hid (X1.out.blk HBS1.out)
  have BB := Lib.hid (X2.out.blk HBS2.out)
  have BC := Lib.hid (X3.out.blk HBS3.out)
  have KA := Lib.hid (HKA.out.ext (HXC1.out.trans X1.out))
  have KB := Lib.hid (HKB.out.ext (HXC2.out.trans X2.out))
  have KC := Lib.hid (HKC.out.ext (HXC3.out.trans X3.out))
  obtain ⟨bq, oq, hqa, hqb, hcc⟩ := ps_get KA.out.ps FA.out.2.2
  have HQA := Lib.hid hqa
  have HQB := Lib.hid hqb
  have HQC := Lib.hid hcc
  have q2 : wc4.cell? ⟨B1, 2, none⟩ = some (.slice (some ⟨bq, oq, none⟩) 8 ha.qc) := by have := st2 BA.out; rw [hqa, FA.out.2.1] at this; exact this
  have q4 : wc4.cell? ⟨B1, 4, none⟩ = some (.slice ha.la 5 ha.lc) := by have := st4 BA.out; rw [FA.out.1] at this; exact this
  obtain ⟨wl1, hwl⟩ : ∃ wl1, wc4.alloc (.cells #[.int .i64 1, .int .i64 2, .int .i64 3, .int .i64 4, .int .i64 9] 3) = wl1 := ⟨_, rfl⟩
  have HWL1 := Lib.hid hwl
  have HI1 : Hid (IntsAt wl1 (.slice (some ⟨wc4.heap.size, 0, none⟩) 5 5) [1, 2, 3, 4, 9]) := Lib.hid (by rw [← hwl]; exact ints_lit wc4 [1, 2, 3, 4, 9])
  have HXL1 : Hid (Ext wc4 wl1) := Lib.hid (by rw [← hwl]; exact (Ext.refl _).alloc _)
  clear hwl
  clear hqa hqb hcc
  go_wp2_with (rw [HWL1.out])
  refine (rints_eq _ _ [1, 2, 3, 4, 9] [1, 2, 3, 4, 9] true (by decide) _ (by have := (KA.out.ext HXL1.out).glob; rw [FA.out.1] at this; exact this) HI1.out (by decide)).mono ?_
  rintro e wm1 ⟨rfl, hxm⟩
  have XM1 := Lib.hid (HXL1.out.trans hxm)
  clear hxm q2 q4
  have q2 : wm1.cell? ⟨B1, 2, none⟩ = some (.slice (some ⟨bq, oq, none⟩) 8 ha.qc) := by have := st2 (XM1.out.blk BA.out); rw [HQA.out, FA.out.2.1] at this; exact this
  obtain ⟨⟨p0, p1, p2, p3, p4, p5, p6⟩, p7, p8, p9, p10, p11, p12⟩ := HQC.out
  rw [← bcell XM1.out _ _ HQB.out] at p0 p1 p2 p3 p4 p5 p6 p7 p8 p9 p10 p11 p12
  simp only [Nat.zero_mul, Nat.add_zero] at p0 p1 p2 p3 p4 p5 p6 p7 p8 p9 p10 p11 p12
  go_wp2_with fail
  refine (rrlist_k 0 0 0 0 5 6 7 8 4 4 [5, 6, 7, 8] (by kernel_rfl) wm1).mono ?_
  rintro e wn1 ⟨v, rfl, hov, hxn⟩
  have XN1 := Lib.hid (XM1.out.trans hxn)
  have HOV := Lib.hid hov
  obtain ⟨Av, cv, hv, _⟩ := hov.ints
  subst hv
  clear hxn hov q2 p0 p1 p2 p3 p4 p5 p6 p7 p8 p9 p10 p11 p12
  obtain ⟨wl2, hwl⟩ : ∃ wl2, wn1.alloc (.cells #[.int .i64 5, .int .i64 6, .int .i64 7, .int .i64 8] 3) = wl2 := ⟨_, rfl⟩
  have HWL2 := Lib.hid hwl
  have HI2 : Hid (IntsAt wl2 (.slice (some ⟨wn1.heap.size, 0, none⟩) 4 4) [5, 6, 7, 8]) := Lib.hid (by rw [← hwl]; exact ints_lit wn1 [5, 6, 7, 8])
  have HXL2 : Hid (Ext wn1 wl2) := Lib.hid (by rw [← hwl]; exact (Ext.refl _).alloc _)
  clear hwl
  go_wp2_with (rw [HWL2.out])
  refine (rints_eq _ _ [5, 6, 7, 8] [5, 6, 7, 8] true (by decide) _ (HOV.out.ext HXL2.out).at.2 HI2.out (by decide)).mono ?_
  rintro e wm2 ⟨rfl, hxm⟩
  have XM2 := Lib.hid (XN1.out.trans (HXL2.out.trans hxm))
  clear hxm
  have q4 : wm2.cell? ⟨B2, 4, none⟩ = some (.slice hb.la 1 hb.lc) := st4 (XM2.out.blk BB.out)
  obtain ⟨wl3, hwl⟩ : ∃ wl3, wm2.alloc (.cells #[.int .i64 9] 3) = wl3 := ⟨_, rfl⟩
  have HWL3 := Lib.hid hwl
  have HI3 : Hid (IntsAt wl3 (.slice (some ⟨wm2.heap.size, 0, none⟩) 1 1) [9]) := Lib.hid (by rw [← hwl]; exact ints_lit wm2 [9])
  have HXL3 : Hid (Ext wm2 wl3) := Lib.hid (by rw [← hwl]; exact (Ext.refl _).alloc _)
  clear hwl
  go_wp2_with (rw [HWL3.out])
  refine (rints_eq _ _ [9] [9] true (by decide) _ (KB.out.ext (XM2.out.trans HXL3.out)).glob HI3.out (by decide)).mono ?_
  rintro e wm3 ⟨rfl, hxm⟩
  have XM3 := Lib.hid (XM2.out.trans (HXL3.out.trans hxm))
  clear hxm q4
  have q4 : wm3.cell? ⟨B3, 4, none⟩ = some (.slice hc.la 9 hc.lc) := by have := st4 (XM3.out.blk BC.out); rw [FC.out.2] at this; exact this
  obtain ⟨wl4, hwl⟩ : ∃ wl4, wm3.alloc (.cells #[.int .i64 9, .int .i64 1, .int .i64 2, .int .i64 3, .int .i64 4, .int .i64 5, .int .i64 6, .int .i64 7, .int .i64 8] 3) = wl4 := ⟨_, rfl⟩
  have HWL4 := Lib.hid hwl
  have HI4 : Hid (IntsAt wl4 (.slice (some ⟨wm3.heap.size, 0, none⟩) 9 9) [9, 1, 2, 3, 4, 5, 6, 7, 8]) := Lib.hid (by rw [← hwl]; exact ints_lit wm3 [9, 1, 2, 3, 4, 5, 6, 7, 8])
  have HXL4 : Hid (Ext wm3 wl4) := Lib.hid (by rw [← hwl]; exact (Ext.refl _).alloc _)
  clear hwl
  go_wp2_with (rw [HWL4.out])
  refine (rints_eq _ _ [9, 1, 2, 3, 4, 5, 6, 7, 8] [9, 1, 2, 3, 4, 5, 6, 7, 8] true (by decide) _ (by have := (KC.out.ext (XM3.out.trans HXL4.out)).glob; rw [FC.out.2] at this; exact this) HI4.out (by decide)).mono ?_
  rintro e wm4 ⟨rfl, hxm⟩
  have XM4 := Lib.hid (XM3.out.trans (HXL4.out.trans hxm))
  clear hxm q4
  go_wp2
  go_ret
  exact ⟨rfl, X0.out.trans XM4.out⟩
def St.dried (s : St) (i : Nat) (x : Pr) : St := { s with ps := s.ps.set i { x with next := 0, ring := Ri.zero }, glob := s.glob ++ St.queueOf x }
theorem St.drain_dried {s : St} {i : Nat} {x : Pr} (hm : s.may = true) (hp : 1 ≤ (i : Int) + 1 ∧ (i : Int) + 1 ≤ s.procs) (hi : s.ps[i]? = some x) : s.drain ((i : Int) + 1) = (s.dried i x, 0) := St.drain_yes hm hp hi
theorem St.dried_few {s : St} (h : StFew s) (hg : s.glob.length ≤ 80) {i : Nat} {x : Pr} : StFew (s.dried i x) := by
  have := queueOf_len x
  exact ⟨h.prog, h.gs, by show (s.ps.set i _).length ≤ _; rw [List.length_set]; exact h.ps, h.ms, by show (s.glob ++ St.queueOf x).length ≤ _; rw [List.length_append]; omega, h.w, h.timers, h.tnum⟩
theorem St.dried_buf {s : St} (h : ∀ p ∈ s.ps, p.ring.buf.length = 8) {i : Nat} {x : Pr} : ∀ p ∈ (s.dried i x).ps, p.ring.buf.length = 8 := fun p hp => by
  rcases List.mem_or_eq_of_mem_set hp with hp | rfl
  · exact h p hp
  · rfl
theorem St.small_glob {s : St} (h : s.small = true) : s.glob.length ≤ 80 := by
  unfold St.small St.many at h
  simp only [Bool.and_eq_true, decide_eq_true_eq] at h
  omega
theorem St.small_timers {s : St} (h : s.small = true) : s.timers.length ≤ 9000 := by
  unfold St.small St.many at h
  simp only [Bool.and_eq_true, decide_eq_true_eq] at h
  omega
open Go.ChangeShapes Go.WideShapes Go.Deep Go.RowKit
def RecsAt {α : Type} (m : Nat) (R : World → List Value → α → Prop) (w : World) (v : Value) (xs : List α) : Prop :=
  ∃ A c, v = .slice A xs.length c ∧ xs.length ≤ c ∧ (0 < xs.length → ∃ b o, A = some ⟨b, o, none⟩ ∧ b < w.heap.size ∧ ∀ j x, xs[j]? = some x → ∃ cs : List Value, cs.length = m ∧ R w cs x ∧ ∀ i u, cs[i]? = some u → w.cell? ⟨b, o + j * m + i, none⟩ = some u)
theorem RecsAt.rows {α : Type} {m : Nat} {f : α → List Value} {w : World} {v : Value} {xs : List α} (h : RecsAt m (fun _ cs x => cs = f x) w v xs) : RowsAt m f w v xs := by
  obtain ⟨A, c, rfl, hc, hA⟩ := h
  refine ⟨A, c, rfl, hc, fun h0 => ?_⟩
  obtain ⟨b, o, hb, hlt, hk⟩ := hA h0
  refine ⟨b, o, hb, hlt, fun j x hj i u hu => ?_⟩
  obtain ⟨cs, _, rfl, h3⟩ := hk j x hj
  exact h3 i u hu
section
variable {H : Type} {enc : TypeId × Value → H} {P : Program} {w : World} {base : Nat} {held : Bool}
theorem open_recs {α : Type} {R : World → List Value → α → Prop} {G : α → Prop} {m : Nat} (x0 : α) {t e : TypeId} {fuel len cap : Nat} {A : Option Addr} {x : DataW H × List MemPlace} (ht : P.underlying t = some (.slice e)) (hC : P.cellsOf e = m) (hm0 : 0 < m)
    (elem : ∀ (n : Nat) (cs : List Value) (y : DataW H × List MemPlace), DataW.trod enc P w base (fun _ => true) held n e cs = some y → ∃ x : α, R w cs x ∧ G x)
    (h : DataW.trod enc P w base (fun _ => true) held fuel t [.slice A len cap] = some x) :
    len ≤ maxLen ∧ ∃ l : List α, l.length = len ∧ RecsAt m R w (.slice A len cap) l ∧ ∀ x ∈ l, G x := by
  rcases open_slice ht h with ⟨h0, _⟩ | ⟨a, l, c, mm, n, D, Pl, hcs, _, hl, hm, hmm, _, hi⟩
  · simp at h0
    obtain ⟨rfl, rfl, rfl⟩ := h0
    exact ⟨by simp [maxLen], [], rfl, ⟨none, 0, rfl, Nat.le_refl _, fun h => by simp at h⟩, by simp⟩
  · simp at hcs
    obtain ⟨rfl, rfl, rfl⟩ := hcs
    have hmc : mm = cap := by simpa using hmm
    subst hmc
    have key : ∀ i, i < len → ∃ x : α, G x ∧ ∃ cs : List Value, cs.length = m ∧ R w cs x ∧ ∀ j u, cs[j]? = some u → w.cell? (a.add (i * m + j)) = some u := fun i hi' => by
      obtain ⟨cs', hc, ht'⟩ := hi i (by omega)
      rw [hC] at hc
      obtain ⟨x, hx, hg⟩ := elem _ _ _ ht'
      obtain ⟨_, hcl, hat⟩ := World.cells?_some hc
      refine ⟨x, hg, cs', hcl, hx, fun j u hj => ?_⟩
      have hjl : j < m := by rw [← hcl]; exact (List.getElem?_eq_some_iff.1 hj).1
      rw [← Go.Deep.add_add, hat j hjl, hj]
    refine ⟨by omega, (List.range len).map fun i => if h : i < len then (key i h).choose else x0, by simp, ⟨some a, mm, by simp, by simpa using hl, fun hpos => ?_⟩, ?_⟩
    · obtain ⟨b, o, spot⟩ := a
      have hl0 : 0 < len := by simpa using hpos
      have h00 : ∃ u, w.cell? ((⟨b, o, spot⟩ : Addr).add 0) = some u := by
        obtain ⟨_, _, cs, hcl, _, hat⟩ := key 0 hl0
        refine ⟨cs[0]'(by omega), ?_⟩
        have := hat 0 _ (List.getElem?_eq_getElem (by omega))
        simpa using this
      have hspot : spot = none := by
        obtain ⟨u, hu⟩ := h00
        simpa [Addr.add] using World.cell?_spot hu
      subst hspot
      refine ⟨b, o, rfl, ?_, fun j p hj => ?_⟩
      · obtain ⟨u, hu⟩ := h00
        rw [Addr.add_lit] at hu
        exact block_lt_of_cell hu
      · rw [List.getElem?_map] at hj
        have hjl : j < len := by
          rcases Nat.lt_or_ge j len with h | h
          · exact h
          · rw [List.getElem?_eq_none (by simpa using h)] at hj; simp at hj
        rw [List.getElem?_range hjl] at hj
        simp only [Option.map_some, Option.some.injEq, hjl, dif_pos] at hj
        obtain ⟨_, cs, k0, k1, k2⟩ := (key j hjl).choose_spec
        rw [hj] at k1
        refine ⟨cs, k0, k1, fun i u hu => ?_⟩
        have := k2 i u hu
        rw [Addr.add_lit] at this
        rw [Nat.add_assoc]
        exact this
    · intro x hx
      obtain ⟨i, hi', rfl⟩ := List.mem_map.1 hx
      have hil := List.mem_range.1 hi'
      rw [dif_pos hil]
      exact (key i hil).choose_spec.1
theorem cells_fields {e : TypeId} {fs : Array Field} {n : Nat} {cs : List Value} {y : DataW H × List MemPlace} (he : P.underlying e = some (.struct fs)) (hone : oneCellFields P fs = true) (hC : P.cellsOf e = fs.size)
    (h : DataW.trod enc P w base (fun _ => true) held n e cs = some y) :
    cs.length = fs.size ∧ ∀ (j : Nat) (f : Field), fs[j]? = some f → ∃ (v : Value) (z : DataW H × List MemPlace) (k : Nat), cs[j]? = some v ∧ DataW.trod enc P w base (fun _ => true) held k f.type [v] = some z := by
  obtain ⟨ys, n', hn', hy, hlen, hyl, hf⟩ := DataW.trod_struct he h
  refine ⟨by rw [hlen, hC], fun j f hj => ?_⟩
  obtain ⟨ho, hk⟩ := hone_of hone j f hj
  have hjl : j < fs.size := (Array.getElem?_eq_some_iff.1 hj).1
  have h1 := hf j f hj
  rw [ho, hk] at h1
  have hone' : (cs.drop j).take 1 = [cs[j]'(by omega)] := by
    rw [List.drop_eq_getElem_cons (by omega)]
    rfl
  rw [hone'] at h1
  have hys : ys[j]? = some (ys[j]'(by omega)) := List.getElem?_eq_getElem (by omega)
  exact ⟨_, _, _, List.getElem?_eq_getElem (by omega), h1.trans hys⟩
theorem cells_int {t : TypeId} {n : Nat} {v : Value} {y : DataW H × List MemPlace} (t0 : P.underlying t = some (.int .i64)) (h : DataW.trod enc P w base (fun _ => true) held n t [v] = some y) : ∃ a : Int, v = .int .i64 a ∧ (Lit.int .i64 a).wf = true := by
  obtain ⟨a, e0, _, w0⟩ := DataW.trod_int t0 h
  simp at e0
  exact ⟨a, e0, w0⟩
theorem cells_pair {e : TypeId} {f0 f1 : Field} {n : Nat} {cs : List Value} {y : DataW H × List MemPlace} (he : P.underlying e = some (.struct #[f0, f1])) (hone : oneCellFields P #[f0, f1] = true) (hC : P.cellsOf e = 2)
    (t0 : P.underlying f0.type = some (.int .i64)) (t1 : P.underlying f1.type = some (.int .i64)) (h : DataW.trod enc P w base (fun _ => true) held n e cs = some y) :
    ∃ p : Int × Int, cs = [.int .i64 p.1, .int .i64 p.2] ∧ (Lit.int .i64 p.1).wf = true ∧ (Lit.int .i64 p.2).wf = true := by
  obtain ⟨hl, hf⟩ := cells_fields he hone hC h
  obtain ⟨v0, _, _, c0, h0⟩ := hf 0 f0 rfl
  obtain ⟨v1, _, _, c1, h1⟩ := hf 1 f1 rfl
  obtain ⟨a, rfl, wa⟩ := cells_int t0 h0
  obtain ⟨b, rfl, wb⟩ := cells_int t1 h1
  match cs, hl, c0, c1 with
  | [u0, u1], _, c0, c1 =>
    simp only [List.getElem?_cons_zero, List.getElem?_cons_succ, Option.some.injEq] at c0 c1
    subst c0 c1
    exact ⟨(a, b), rfl, wa, wb⟩
theorem cells_slice {t e : TypeId} {n : Nat} {v : Value} {y : DataW H × List MemPlace} (ht : P.underlying t = some (.slice e)) (h : DataW.trod enc P w base (fun _ => true) held n t [v] = some y) : ∃ A len cap, v = .slice A len cap := by
  rcases open_slice ht h with ⟨h0, _⟩ | ⟨a, l, c, mm, n, D, Pl, hcs, _⟩
  · simp at h0; exact ⟨_, _, _, h0⟩
  · simp at hcs; exact ⟨_, _, _, hcs⟩
end
open Go.ChangeShapes Go.WideShapes Go.Deep Go.RowKit
section
variable {H : Type} {enc : TypeId × Value → H} {P : Program} {w : World} {base : Nat} {held : Bool}
theorem okWide_struct {fs : Array Field} {r : Reach} {b0 : Nat} {t : TypeId} {v : Value} (ht : P.underlying t = some (.struct fs)) (h : Value.okWide P w r b0 t v) : ∃ cs, v = .agg cs ∧ cs.size = P.cellsOf t := by
  simp only [Value.okWide, ht] at h
  obtain ⟨cs, h1, h2, _⟩ := h
  exact ⟨cs, h1, h2⟩
theorem ring_cells {t e : TypeId} {f0 f1 f2 : Field} {n : Nat} {c0 c1 c2 c3 c4 c5 c6 c7 c8 c9 : Value} {x : DataW H × List MemPlace} (hs : P.underlying t = some (.struct #[f0, f1, f2]))
    (o : f0.offset = 0 ∧ f1.offset = 8 ∧ f2.offset = 9) (hc : P.cellsOf f0.type = 8 ∧ P.cellsOf f1.type = 1 ∧ P.cellsOf f2.type = 1) (ta : P.underlying f0.type = some (.array 8 e)) (te : P.underlying e = some (.int .i64)) (hce : P.cellsOf e = 1)
    (t1 : P.underlying f1.type = some (.int .i64)) (t2 : P.underlying f2.type = some (.int .i64)) (h : DataW.trod enc P w base (fun _ => true) held n t [c0, c1, c2, c3, c4, c5, c6, c7, c8, c9] = some x) :
    ∃ b0 b1 b2 b3 b4 b5 b6 b7 hd nn : Int, [c0, c1, c2, c3, c4, c5, c6, c7, c8, c9] = [b0, b1, b2, b3, b4, b5, b6, b7, hd, nn].map (Value.int .i64) ∧ ∀ z ∈ [b0, b1, b2, b3, b4, b5, b6, b7, hd, nn], (Lit.int .i64 z).wf = true := by
  obtain ⟨xs, m, _, _, _, hl, hf⟩ := DataW.trod_struct hs h
  match xs, hl with
  | [y0, y1, y2], _ =>
    have h0 := hf 0 f0 rfl
    have h1 := hf 1 f1 rfl
    have h2 := hf 2 f2 rfl
    rw [o.1, hc.1] at h0
    rw [o.2.1, hc.2.1] at h1
    rw [o.2.2, hc.2.2] at h2
    obtain ⟨x8, e8, _, w8⟩ := DataW.trod_int t1 h1
    obtain ⟨x9, e9, _, w9⟩ := DataW.trod_int t2 h2
    obtain ⟨ys, m', _, _, _, hl', hel⟩ := DataW.trod_array ta h0
    have at8 : ∀ i (hi : i < 8), ∃ z : Int, ([c0, c1, c2, c3, c4, c5, c6, c7, c8, c9] : List Value)[i]? = some (.int .i64 z) ∧ (Lit.int .i64 z).wf = true := fun i hi => by
      have hi1 := hel i hi
      rw [hce, Nat.mul_one] at hi1
      have hy : ys[i]? = some (ys[i]'(by omega)) := List.getElem?_eq_getElem (by omega)
      rw [hy] at hi1
      obtain ⟨z, ez, _, wz⟩ := DataW.trod_int te hi1
      refine ⟨z, ?_, wz⟩
      have e2 := congrArg (·[0]?) ez
      simp only [List.getElem?_take, List.getElem?_drop, List.getElem?_cons_zero] at e2
      have e3 : i < 8 ∧ [c0, c1, c2, c3, c4, c5, c6, c7, c8, c9][i]? = some (Value.int IntKind.i64 z) := by simpa using e2
      exact e3.2
    obtain ⟨z0, e0, w0⟩ := at8 0 (by omega)
    obtain ⟨z1, e1, w1⟩ := at8 1 (by omega)
    obtain ⟨z2, e2, w2⟩ := at8 2 (by omega)
    obtain ⟨z3, e3, w3⟩ := at8 3 (by omega)
    obtain ⟨z4, e4, w4⟩ := at8 4 (by omega)
    obtain ⟨z5, e5, w5⟩ := at8 5 (by omega)
    obtain ⟨z6, e6, w6⟩ := at8 6 (by omega)
    obtain ⟨z7, e7, w7⟩ := at8 7 (by omega)
    simp at e0 e1 e2 e3 e4 e5 e6 e7 e8 e9
    subst e0 e1 e2 e3 e4 e5 e6 e7 e8 e9
    refine ⟨z0, z1, z2, z3, z4, z5, z6, z7, x8, x9, rfl, fun z hz => ?_⟩
    simp only [List.mem_cons, List.not_mem_nil, or_false] at hz
    rcases hz with rfl | rfl | rfl | rfl | rfl | rfl | rfl | rfl | rfl | rfl <;> assumption
end
open Go.ChangeShapes Go.WideShapes Go.Deep Go.RowKit
section
variable {H : Type} {enc : TypeId × Value → H} {P : Program} {w : World} {base : Nat} {held : Bool}
theorem RecsAt.nest {α : Type} {m : Nat} {f : α → List Value} {v : Value} {ks : List (List α)} (hks : RecsAt 1 (fun w cs x => ∃ u, cs = [u] ∧ RowsAt m f w u x) w v ks) : NestAt m f w v ks := by
  obtain ⟨A', c', hv', hc', hA'⟩ := hks
  have key : ∀ i, i < ks.length → ∃ u, (∃ b o, A' = some ⟨b, o, none⟩ ∧ b < w.heap.size ∧ w.cell? ⟨b, o + i, none⟩ = some u) ∧ ∀ l, ks[i]? = some l → RowsAt m f w u l := fun i hi => by
    obtain ⟨b, o, hb, hlt, hcell⟩ := hA' (by omega)
    obtain ⟨cs, h1, ⟨u, rfl, hr⟩, h3⟩ := hcell i _ (List.getElem?_eq_getElem hi)
    refine ⟨u, ⟨b, o, hb, hlt, by have := h3 0 u rfl; rwa [Nat.mul_one, Nat.add_zero] at this⟩, fun l hl => ?_⟩
    rw [List.getElem?_eq_getElem hi] at hl
    rw [← Option.some.inj hl]
    exact hr
  have hlen : ((List.range ks.length).map fun i => if h : i < ks.length then (key i h).choose else Value.nilIface).length = ks.length := by simp
  refine ⟨(List.range ks.length).map fun i => if h : i < ks.length then (key i h).choose else Value.nilIface, hlen, ⟨A', c', by rw [hlen]; exact hv', by rw [hlen]; exact hc', fun h0 => ?_⟩, fun i u xs hu hxs => ?_⟩
  · rw [hlen] at h0
    obtain ⟨b, o, hb, hlt, hcell⟩ := hA' h0
    refine ⟨b, o, hb, hlt, fun j x hj i u hu => ?_⟩
    have hjl : j < ks.length := by have := (List.getElem?_eq_some_iff.1 hj).1; simpa using this
    have hi0 : i = 0 := by have := (List.getElem?_eq_some_iff.1 hu).1; simp [oneL] at this; exact this
    subst hi0
    simp only [oneL, List.getElem?_cons_zero, Option.some.injEq] at hu
    subst hu
    rw [List.getElem?_map, List.getElem?_range hjl] at hj
    simp only [Option.map_some, Option.some.injEq, hjl, dif_pos] at hj
    obtain ⟨⟨b', o', hb', _, hc⟩, _⟩ := (key j hjl).choose_spec
    rw [hb] at hb'
    simp only [Option.some.injEq, Addr.mk.injEq, and_true] at hb'
    obtain ⟨rfl, rfl⟩ := hb'
    rw [← hj, Nat.mul_one, Nat.add_zero]
    exact hc
  · have hil : i < ks.length := (List.getElem?_eq_some_iff.1 hxs).1
    rw [List.getElem?_map, List.getElem?_range hil] at hu
    simp only [Option.map_some, Option.some.injEq, hil, dif_pos] at hu
    rw [← hu]
    exact (key i hil).choose_spec.2 xs hxs
theorem slice_weight {t e : TypeId} {fuel len cap : Nat} {A : Option Addr} {y : DataW H × List MemPlace} (ht : P.underlying t = some (.slice e)) (h : DataW.trod enc P w base (fun _ => true) held fuel t [.slice A len cap] = some y) (hw : (DataW.weights P t y.1).all (· ≤ reachBytes) = true) (hb : 8 ≤ P.bytesOf e) : len ≤ 140737488355328 := by
  rcases open_slice ht h with ⟨h0, _⟩ | ⟨a, l, c, mm, n, D, Pl, hcs, _, hl, hm, hmm, hx, hi⟩
  · simp at h0
    omega
  · simp at hcs
    obtain ⟨rfl, rfl, rfl⟩ := hcs
    rw [hx] at hw
    simp only [DataW.weights, ht, List.all_cons, Bool.and_eq_true, decide_eq_true_eq, List.length_map, List.length_range] at hw
    have h1 := hw.1
    unfold reachBytes at h1
    have h2 : len * 8 ≤ (len + (mm - len)) * P.bytesOf e := Nat.mul_le_mul (by omega) hb
    omega
end
section
variable {H : Type} {enc : TypeId × Value → H} {w : World} {base : Nat} {held : Bool}
theorem cells_code {n : Nat} {cs : List Value} {y : DataW H × List MemPlace} (h : DataW.trod enc Try.prog w base (fun _ => true) held n 69 cs = some y) :
    ∃ l : List (Int × Int), (∃ u, cs = [u] ∧ RowsAt 2 pairL w u l) ∧ l.length ≤ maxLen := by
  obtain ⟨u, rfl⟩ : ∃ u, cs = [u] := by
    rcases open_slice Try.underlying69 h with ⟨h0, _⟩ | ⟨a, l, c, mm, n, D, Pl, hcs, _⟩
    · exact ⟨_, h0⟩
    · exact ⟨_, hcs⟩
  obtain ⟨A, len, cap, rfl⟩ := cells_slice Try.underlying69 h
  obtain ⟨hlen, l, rfl, hr, _⟩ := open_recs (m := 2) (R := fun _ cs x => cs = pairL x) (G := fun _ => True) (0, 0) Try.underlying69 (by kernel_rfl) (by decide) (fun n cs y hy => by
    obtain ⟨p, e, _⟩ := cells_pair Try.underlying68 (by kernel_rfl) (by kernel_rfl) Try.underlying3 Try.underlying3 hy
    exact ⟨p, e, trivial⟩) h
  exact ⟨l, ⟨_, rfl, hr.rows⟩, hlen⟩
theorem prog_of_trod {n : Nat} {v : Value} {y : DataW H × List MemPlace} (h : DataW.trod enc Try.prog w base (fun _ => true) held n 23 [v] = some y) :
    ∃ p, NestAt 2 pairL w v p ∧ p.length ≤ maxLen ∧ ∀ l ∈ p, l.length ≤ maxLen := by
  obtain ⟨A, len, cap, rfl⟩ := cells_slice Try.underlying23 h
  obtain ⟨hlen, p, rfl, hr, hg⟩ := open_recs (m := 1) (R := fun w cs x => ∃ u, cs = [u] ∧ RowsAt 2 pairL w u x) (G := fun l => l.length ≤ maxLen) [] Try.underlying23 (by kernel_rfl) (by decide) (fun n cs y hy => cells_code hy) h
  exact ⟨p, hr.nest, hlen, hg⟩
theorem cells_g {n : Nat} {cs : List Value} {y : DataW H × List MemPlace} (h : DataW.trod enc Try.prog w base (fun _ => true) held n 55 cs = some y) : ∃ g : Gr, cs = gL g ∧ True := by
  obtain ⟨hl, hf⟩ := cells_fields Try.underlying55 (by kernel_rfl) (by kernel_rfl) h
  obtain ⟨v0, _, _, c0, h0⟩ := hf 0 _ rfl
  obtain ⟨v1, _, _, c1, h1⟩ := hf 1 _ rfl
  obtain ⟨v2, _, _, c2, h2⟩ := hf 2 _ rfl
  obtain ⟨v3, _, _, c3, h3⟩ := hf 3 _ rfl
  obtain ⟨v4, _, _, c4, h4⟩ := hf 4 _ rfl
  obtain ⟨a0, rfl, _⟩ := cells_int Try.underlying3 h0
  obtain ⟨a1, rfl, _⟩ := cells_int Try.underlying3 h1
  obtain ⟨a2, rfl, _⟩ := cells_int Try.underlying3 h2
  obtain ⟨a3, rfl, _⟩ := cells_int Try.underlying3 h3
  obtain ⟨a4, rfl, _⟩ := cells_int Try.underlying3 h4
  match cs, hl, c0, c1, c2, c3, c4 with
  | [u0, u1, u2, u3, u4], _, c0, c1, c2, c3, c4 =>
    simp only [List.getElem?_cons_zero, List.getElem?_cons_succ, Option.some.injEq] at c0 c1 c2 c3 c4
    subst c0 c1 c2 c3 c4
    exact ⟨⟨a0, a1, a2, a3, a4⟩, rfl, trivial⟩
set_option maxRecDepth 100000 in
theorem cells_p {n : Nat} {cs : List Value} {y : DataW H × List MemPlace} (h : DataW.trod enc Try.prog w base (fun _ => true) held n 40 cs = some y) : ∃ p : Pr, cs = pL p ∧ p.ring.buf.length = 8 := by
  obtain ⟨xs, m, _, _, hl, hxl, hf⟩ := DataW.trod_struct Try.underlying40 h
  have hl13 : cs.length = 13 := hl.trans (by kernel_rfl)
  match xs, hxl with
  | [y0, y1, y2, y3], _ =>
    have h0 := hf 0 _ rfl
    have h1 := hf 1 _ rfl
    have h2 := hf 2 _ rfl
    have h3 := hf 3 _ rfl
    match cs, hl13 with
    | [c0, c1, c2, c3, c4, c5, c6, c7, c8, c9, c10, c11, c12], _ =>
      obtain ⟨a0, e0, _⟩ := DataW.trod_int Try.underlying3 (show DataW.trod enc Try.prog w base (fun _ => true) held m 3 [c0] = some y0 from h0)
      obtain ⟨a1, e1, _⟩ := DataW.trod_int Try.underlying3 (show DataW.trod enc Try.prog w base (fun _ => true) held m 3 [c1] = some y1 from h1)
      obtain ⟨a3, e3, _⟩ := DataW.trod_int Try.underlying3 (show DataW.trod enc Try.prog w base (fun _ => true) held m 3 [c12] = some y3 from h3)
      obtain ⟨b0, b1, b2, b3, b4, b5, b6, b7, hd, nn, he, _⟩ := ring_cells Try.underlying38 ⟨rfl, rfl, rfl⟩ ⟨by kernel_rfl, by kernel_rfl, by kernel_rfl⟩ Try.underlying36 Try.underlying3 (by kernel_rfl) Try.underlying3 Try.underlying3 (show DataW.trod enc Try.prog w base (fun _ => true) held m 38 [c2, c3, c4, c5, c6, c7, c8, c9, c10, c11] = some y2 from h2)
      simp at e0 e1 e3
      simp only [List.map_cons, List.map_nil, List.cons.injEq, and_true] at he
      obtain ⟨rfl, rfl, rfl, rfl, rfl, rfl, rfl, rfl, rfl, rfl⟩ := he
      subst e0 e1 e3
      exact ⟨⟨a0, a1, ⟨[b0, b1, b2, b3, b4, b5, b6, b7], hd, nn⟩, a3⟩, rfl, rfl⟩
set_option maxRecDepth 100000 in
theorem ints_sized {n : Nat} {v : Value} {y : DataW H × List MemPlace} (h : DataW.trod enc Try.prog w base (fun _ => true) held n 27 [v] = some y) (hw : (DataW.weights Try.prog 27 y.1).all (· ≤ reachBytes) = true) :
    ∃ A c l, v = .slice A l.length c ∧ IntsAt w (.slice A l.length c) l ∧ l.length ≤ 140737488355328 := by
  obtain ⟨A, len, cap, rfl⟩ := cells_slice Try.underlying27 h
  obtain ⟨hlen, l, rfl, hr, hg⟩ := open_recs (m := 1) (R := fun _ cs x => cs = numL x) (G := fun _ => True) 0 Try.underlying27 (by kernel_rfl) (by decide) (fun n cs y hy => by
    obtain ⟨a, e, _⟩ := DataW.trod_int Try.underlying3 hy
    exact ⟨a, e, trivial⟩) h
  refine ⟨A, cap, l, rfl, ?_, slice_weight Try.underlying27 h hw (Nat.le_of_ble_eq_true (by kernel_rfl))⟩
  obtain ⟨A', c', hv, _, hA⟩ := hr.rows
  refine ⟨A', c', hv, fun h0 => ?_⟩
  obtain ⟨b, o, hb, hlt, hc⟩ := hA h0
  exact ⟨b, o, hb, hlt, fun j x hj => by have := hc j x hj 0 _ rfl; rwa [Nat.mul_one, Nat.add_zero] at this⟩
theorem wf_i64ok {a : Int} (h : (Lit.int .i64 a).wf = true) : i64ok a := by
  simp [Lit.wf, IntKind.min, IntKind.max, IntKind.signed, IntKind.bits] at h
  unfold i64ok
  omega
theorem array16 {α : Type} {cs : Array α} (h : cs.size = 16) : ∃ c0 c1 c2 c3 c4 c5 c6 c7 c8 c9 c10 c11 c12 c13 c14 c15, cs = #[c0, c1, c2, c3, c4, c5, c6, c7, c8, c9, c10, c11, c12, c13, c14, c15] := by
  obtain ⟨l⟩ := cs
  match l, h with
  | [c0, c1, c2, c3, c4, c5, c6, c7, c8, c9, c10, c11, c12, c13, c14, c15], _ => exact ⟨c0, c1, c2, c3, c4, c5, c6, c7, c8, c9, c10, c11, c12, c13, c14, c15, rfl⟩
set_option maxRecDepth 100000 in
theorem open_state {r : Reach} {b : Nat} {v : Value} {d : DataW H} {p : List MemPlace} (hv : Value.okWide Try.prog w r b 32 v) (h : DataW.Trod enc Try.prog w base (fun _ => true) held 32 v d p)
    (hw : (DataW.weights Try.prog 32 d).all (· ≤ reachBytes) = true) : ∃ hh s, v = stV hh s ∧ StOk w hh s ∧ StIn s := by
  obtain ⟨cs, rfl, hsz⟩ := okWide_struct Try.underlying32 hv
  obtain ⟨c0, c1, c2, c3, c4, c5, c6, c7, c8, c9, c10, c11, c12, c13, c14, c15, rfl⟩ := array16 (hsz.trans (by kernel_rfl))
  obtain ⟨fuel, hf⟩ := h
  obtain ⟨xs, m, _, hd, _, hxl, hfd⟩ := DataW.trod_struct Try.underlying32 hf
  match xs, hxl with
  | [y0, y1, y2, y3, y4, y5, y6, y7, y8, y9], _ =>
    have h0 : DataW.trod enc Try.prog w base (fun _ => true) held m 23 [c0] = some y0 := hfd 0 _ rfl
    have h1 : DataW.trod enc Try.prog w base (fun _ => true) held m 24 [c1] = some y1 := hfd 1 _ rfl
    have h2 : DataW.trod enc Try.prog w base (fun _ => true) held m 25 [c2] = some y2 := hfd 2 _ rfl
    have h3 : DataW.trod enc Try.prog w base (fun _ => true) held m 26 [c3] = some y3 := hfd 3 _ rfl
    have h4 : DataW.trod enc Try.prog w base (fun _ => true) held m 27 [c4] = some y4 := hfd 4 _ rfl
    have h5 : DataW.trod enc Try.prog w base (fun _ => true) held m 28 [c5, c6, c7, c8] = some y5 := hfd 5 _ rfl
    have h6 : DataW.trod enc Try.prog w base (fun _ => true) held m 29 [c9, c10, c11, c12] = some y6 := hfd 6 _ rfl
    have h7 : DataW.trod enc Try.prog w base (fun _ => true) held m 30 [c13] = some y7 := hfd 7 _ rfl
    have h8 : DataW.trod enc Try.prog w base (fun _ => true) held m 3 [c14] = some y8 := hfd 8 _ rfl
    have h9 : DataW.trod enc Try.prog w base (fun _ => true) held m 3 [c15] = some y9 := hfd 9 _ rfl
    simp only [Prod.mk.injEq] at hd
    rw [hd.1] at hw
    simp only [DataW.weights, Try.underlying32, DataW.weightsEach, List.map_cons, List.map_nil, List.all_append, Bool.and_eq_true] at hw
    obtain ⟨w0, w1, w2, w3, w4, w5, w6, w7, w8, w9, _⟩ := hw
    obtain ⟨pr, hp, hp1, hp2⟩ := prog_of_trod h0
    obtain ⟨A1, n1, k1, rfl⟩ := cells_slice Try.underlying24 h1
    have g1 := slice_weight Try.underlying24 h1 w1 (Nat.le_of_ble_eq_true (by kernel_rfl))
    obtain ⟨_, gs, rfl, hg, _⟩ := open_recs (m := 5) (R := fun _ cs x => cs = gL x) (G := fun _ => True) St.nilG Try.underlying24 (by kernel_rfl) (by decide) (fun n cs y hy => cells_g hy) h1
    obtain ⟨A2, n2, k2, rfl⟩ := cells_slice Try.underlying25 h2
    have g2 := slice_weight Try.underlying25 h2 w2 (Nat.le_of_ble_eq_true (by kernel_rfl))
    obtain ⟨_, ps, rfl, hps, hpb⟩ := open_recs (m := 13) (R := fun _ cs x => cs = pL x) (G := fun p => p.ring.buf.length = 8) St.nilP Try.underlying25 (by kernel_rfl) (by decide) (fun n cs y hy => cells_p hy) h2
    obtain ⟨A3, n3, k3, rfl⟩ := cells_slice Try.underlying26 h3
    have g3 := slice_weight Try.underlying26 h3 w3 (Nat.le_of_ble_eq_true (by kernel_rfl))
    obtain ⟨_, ms, rfl, hms, _⟩ := open_recs (m := 2) (R := fun _ cs x => cs = pairL x) (G := fun _ => True) (0, 0) Try.underlying26 (by kernel_rfl) (by decide) (fun n cs y hy => by
      obtain ⟨p, e, _⟩ := cells_pair Try.underlying57 (by kernel_rfl) (by kernel_rfl) Try.underlying3 Try.underlying3 hy
      exact ⟨p, e, trivial⟩) h3
    obtain ⟨A4, k4, gl, rfl, hgl, g4⟩ := ints_sized h4 w4
    obtain ⟨zs, m5, _, hz5, _, hzl, hz⟩ := DataW.trod_array Try.underlying28 h5
    have ci : Try.prog.cellsOf 3 = 1 := by kernel_rfl
    have cn : Try.prog.cellsOf 27 = 1 := by kernel_rfl
    match zs, hzl with
    | [z0, z1, z2, z3], _ =>
      have i0 := hz 0 (by omega)
      have i1 := hz 1 (by omega)
      have i2 := hz 2 (by omega)
      have i3 := hz 3 (by omega)
      simp only [ci] at i0 i1 i2 i3
      obtain ⟨a0, e0, _⟩ := DataW.trod_int Try.underlying3 (show DataW.trod enc Try.prog w base (fun _ => true) held m5 3 [c5] = some z0 from i0)
      obtain ⟨a1, e1, _⟩ := DataW.trod_int Try.underlying3 (show DataW.trod enc Try.prog w base (fun _ => true) held m5 3 [c6] = some z1 from i1)
      obtain ⟨a2, e2, _⟩ := DataW.trod_int Try.underlying3 (show DataW.trod enc Try.prog w base (fun _ => true) held m5 3 [c7] = some z2 from i2)
      obtain ⟨a3, e3, _⟩ := DataW.trod_int Try.underlying3 (show DataW.trod enc Try.prog w base (fun _ => true) held m5 3 [c8] = some z3 from i3)
      simp only [List.cons.injEq, and_true] at e0 e1 e2 e3
      subst e0 e1 e2 e3
      obtain ⟨qs, m6, _, hq6, _, hql, hq⟩ := DataW.trod_array Try.underlying29 h6
      match qs, hql with
      | [q0, q1, q2, q3], _ =>
        have j0 := hq 0 (by omega)
        have j1 := hq 1 (by omega)
        have j2 := hq 2 (by omega)
        have j3 := hq 3 (by omega)
        simp only [cn] at j0 j1 j2 j3
        rw [hq6] at w6
        simp only [DataW.weights, Try.underlying29, DataW.weightsAll, List.map_cons, List.map_nil, List.all_append, Bool.and_eq_true] at w6
        obtain ⟨v0, v1, v2, v3, _⟩ := w6
        obtain ⟨B0, l0, x0, rfl, hx0, b0⟩ := ints_sized (show DataW.trod enc Try.prog w base (fun _ => true) held m6 27 [c9] = some q0 from j0) v0
        obtain ⟨B1, l1, x1, rfl, hx1, b1⟩ := ints_sized (show DataW.trod enc Try.prog w base (fun _ => true) held m6 27 [c10] = some q1 from j1) v1
        obtain ⟨B2, l2, x2, rfl, hx2, b2⟩ := ints_sized (show DataW.trod enc Try.prog w base (fun _ => true) held m6 27 [c11] = some q2 from j2) v2
        obtain ⟨B3, l3, x3, rfl, hx3, b3⟩ := ints_sized (show DataW.trod enc Try.prog w base (fun _ => true) held m6 27 [c12] = some q3 from j3) v3
        obtain ⟨A7, n7, k7, rfl⟩ := cells_slice Try.underlying30 h7
        have g7 := slice_weight Try.underlying30 h7 w7 (Nat.le_of_ble_eq_true (by kernel_rfl))
        obtain ⟨_, ts, rfl, hts, htn⟩ := open_recs (m := 2) (R := fun _ cs x => cs = pairL x) (G := fun p => i64ok p.1 ∧ i64ok p.2) (0, 0) Try.underlying30 (by kernel_rfl) (by decide) (fun n cs y hy => by
          obtain ⟨p, e, wa, wb⟩ := cells_pair Try.underlying76 (by kernel_rfl) (by kernel_rfl) Try.underlying3 Try.underlying3 hy
          exact ⟨p, e, wf_i64ok wa, wf_i64ok wb⟩) h7
        obtain ⟨ck, e8, _⟩ := DataW.trod_int Try.underlying3 h8
        obtain ⟨pc, e9, _⟩ := DataW.trod_int Try.underlying3 h9
        simp only [List.cons.injEq, and_true] at e8 e9
        subst e8 e9
        obtain ⟨A0, k0, rfl, _⟩ := hp.form
        exact ⟨⟨A0, k0, A1, k1, A2, k2, A3, k3, A4, k4, B0, l0, B1, l1, B2, l2, B3, l3, A7, k7⟩, ⟨pr, gs, ps, ms, gl, a0, a1, a2, a3, x0, x1, x2, x3, ts, ck, pc⟩, rfl, ⟨hp, hg.rows, hps.rows, hms.rows, hgl, hx0, hx1, hx2, hx3, hts.rows.pairs, hpb⟩, ⟨⟨by unfold maxLen at hp1; omega, fun l hl => by have := hp2 l hl; unfold maxLen at this; omega⟩, g1, g2, g3, g4, ⟨b0, b1, b2, b3⟩, g7, htn⟩⟩
set_option maxRecDepth 100000 in
theorem open_prog {r : Reach} {b : Nat} {v : Value} {d : DataW H} {p : List MemPlace} (hv : Value.okWide Try.prog w r b 23 v) (h : DataW.Trod enc Try.prog w base (fun _ => true) held 23 v d p) :
    ∃ q, NestAt 2 pairL w v q ∧ q.length ≤ maxLen ∧ ∀ l ∈ q, l.length ≤ maxLen := by
  obtain ⟨a, n, c, rfl⟩ := okWide_slice Try.underlying23 hv
  obtain ⟨fuel, hf⟩ := h
  exact prog_of_trod (n := fuel) (by simpa [Value.cells] using hf)
end
theorem St.tail_keeps (s : St) (p g : Int) : (s.tail p g).gs = s.gs ∧ (s.tail p g).ps.length = s.ps.length ∧ ∀ (j : Nat) x, s.ps[j]? = some x → ∃ x', (s.tail p g).ps[j]? = some x' ∧ x'.next = x.next ∧ x'.m = x.m ∧ x'.seq = x.seq := by
  have key : ∀ (r : Ri) (gl : List Int), 1 ≤ p ∧ p ≤ s.ps.length → ∀ (j : Nat) x, s.ps[j]? = some x → ∃ x', (s.ps.set (p - 1).toNat { s.pAt p with ring := r })[j]? = some x' ∧ x'.next = x.next ∧ x'.m = x.m ∧ x'.seq = x.seq := fun r gl hp j x hj => by
    by_cases h : j = (p - 1).toNat
    · subst h
      have hl := (List.getElem?_eq_some_iff.1 hj).1
      rw [List.getElem?_set_self hl]
      refine ⟨_, rfl, ?_⟩
      have : s.pAt p = x := by unfold St.pAt; rw [List.getD, hj]; rfl
      rw [this]
      exact ⟨rfl, rfl, rfl⟩
    · rw [List.getElem?_set_ne (Ne.symm h)]
      exact ⟨x, hj, rfl, rfl, rfl⟩
  unfold St.tail
  split
  · rename_i h
    split
    · exact ⟨rfl, List.length_set, key _ [] ⟨h.1, h.2.1⟩⟩
    · exact ⟨rfl, List.length_set, key _ [] ⟨h.1, h.2.1⟩⟩
  · exact ⟨rfl, rfl, fun j x hj => ⟨x, hj, rfl, rfl, rfl⟩⟩
theorem St.drain_cases (s : St) (p : Int) : s.drain p = (St.nil, 1) ∨ ∃ (i : Nat) (x : Pr), p = (i : Int) + 1 ∧ s.may = true ∧ (1 ≤ (i : Int) + 1 ∧ (i : Int) + 1 ≤ s.procs) ∧ s.ps[i]? = some x ∧ s.drain p = (s.dried i x, 0) := by
  by_cases h : s.may = true ∧ (1 ≤ p ∧ p ≤ s.procs)
  · right
    obtain ⟨hm, hp⟩ := h
    have hps := St.may_procs hm
    obtain ⟨i, rfl⟩ : ∃ i : Nat, p = (i : Int) + 1 := ⟨(p - 1).toNat, by omega⟩
    obtain ⟨x, hx⟩ : ∃ x, s.ps[i]? = some x := ⟨_, List.getElem?_eq_getElem (by omega)⟩
    exact ⟨i, x, rfl, hm, hp, hx, St.drain_dried hm hp hx⟩
  · exact .inl (St.drain_no h)
theorem Ri.takes_holds : ∀ (k : Nat) (r : Ri) (l o : List Int), r.Holds l → k ≤ l.length → ∃ r', Ri.takes k r o = (r', o ++ l.take k) ∧ r'.Holds (l.drop k)
  | 0, r, l, o, h, _ => ⟨r, by simp [Ri.takes], by simpa using h⟩
  | k + 1, r, [], o, h, hk => by simp at hk
  | k + 1, r, g :: l, o, h, hk => by
    obtain ⟨r', h1, h2⟩ := Ri.holds_pop h
    obtain ⟨r'', h3, h4⟩ := Ri.takes_holds k r' l (o ++ [g]) h2 (by simpa using hk)
    refine ⟨r'', ?_, by simpa using h4⟩
    unfold Ri.takes
    rw [h1, h3]
    simp
theorem Ri.half_holds {r : Ri} {l : List Int} (h : r.Holds l) : ∃ r', Ri.half r = (r', l.take ((l.length + 1) / 2)) ∧ r'.Holds (l.drop ((l.length + 1) / 2)) := by
  obtain ⟨r', h1, h2⟩ := Ri.takes_holds ((l.length + 1) / 2) r l [] h (by omega)
  refine ⟨r', ?_, h2⟩
  unfold Ri.half
  rw [if_pos (Ri.may_of h), (Ri.holds_n h).1]
  simpa using h1
namespace Ri
theorem laid_get {hd : Nat} (h : hd < 8) {l : List Int} (hl : l.length ≤ 8) : ∀ k, k ≤ l.length → ∀ j, j < 8 → (laid hd l k)[j]?.getD 0 = if (j + 8 - hd) % 8 < k then l[(j + 8 - hd) % 8]?.getD 0 else 0
  | 0, _, j, hj => by
    rw [if_neg (by omega)]
    unfold laid
    obtain rfl | rfl | rfl | rfl | rfl | rfl | rfl | rfl : j = 0 ∨ j = 1 ∨ j = 2 ∨ j = 3 ∨ j = 4 ∨ j = 5 ∨ j = 6 ∨ j = 7 := by omega
    all_goals rfl
  | k + 1, hk, j, hj => by
    have ih := laid_get h hl k (by omega) j hj
    have hlen := laid_len hd l k
    unfold laid
    by_cases he : (hd + k) % 8 = j
    · rw [he, List.getElem?_set_self (by omega), if_pos (by omega)]
      have : (j + 8 - hd) % 8 = k := by omega
      rw [this]
      rfl
    · rw [List.getElem?_set_ne he, ih]
      by_cases hlt : (j + 8 - hd) % 8 < k
      · rw [if_pos hlt, if_pos (by omega)]
      · rw [if_neg hlt, if_neg (by omega)]
theorem at_holds {hd : Nat} (h : hd < 8) {l : List Int} (hl : l.length ≤ 8) (hp : ∀ x ∈ l, 1 ≤ x) : (at' hd l).Holds l := by
  refine ⟨hd, l.length, rfl, rfl, h, hl, laid_len _ _ _, fun j hj => ?_, ?_⟩
  · show if (j + 8 - hd) % 8 < l.length then 0 < (laid hd l l.length)[j]?.getD 0 else (laid hd l l.length)[j]?.getD 0 = 0
    rw [laid_get h hl _ (Nat.le_refl _) j hj]
    by_cases hlt : (j + 8 - hd) % 8 < l.length
    · rw [if_pos hlt, if_pos hlt, List.getElem?_eq_getElem hlt]
      have := hp _ (List.getElem_mem hlt)
      simp only [Option.getD_some]
      omega
    · rw [if_neg hlt, if_neg hlt]
  · show l = (List.range l.length).map fun i => (laid hd l l.length)[(hd + i) % 8]?.getD 0
    apply List.ext_getElem?
    intro i
    by_cases hi : i < l.length
    · rw [List.getElem?_map, List.getElem?_range hi, Option.map_some, laid_get h hl _ (Nat.le_refl _) _ (by omega)]
      have : ((hd + i) % 8 + 8 - hd) % 8 = i := by omega
      rw [this, if_pos hi, List.getElem?_eq_getElem hi]
      rfl
    · rw [List.getElem?_eq_none (by omega), List.getElem?_eq_none (by simp; omega)]
theorem holds_same {r r' : Ri} {l : List Int} (h : r.Holds l) (h' : r'.Holds l) (hh : r.head = r'.head) : r = r' := by
  obtain ⟨hd, nn, h1, h2, h3, h4, h5, h6, h7⟩ := h
  obtain ⟨hd', nn', g1, g2, g3, g4, g5, g6, g7⟩ := h'
  obtain ⟨bs, a, b⟩ := r
  obtain ⟨bs', a', b'⟩ := r'
  simp only at h1 h2 h5 h6 h7 g1 g2 g5 g6 g7 hh
  have e1 : hd = hd' := by omega
  subst e1
  have e2 : nn = nn' := by have a1 := congrArg List.length h7; have a2 := congrArg List.length g7; simp at a1 a2; omega
  subst e2
  have e3 : bs = bs' := by
    apply List.ext_getElem?
    intro j
    by_cases hj : j < 8
    · have a1 := h6 j hj
      have a2 := g6 j hj
      rw [List.getElem?_eq_getElem (by omega), List.getElem?_eq_getElem (by omega)] at *
      simp only [Option.getD_some] at a1 a2
      by_cases hlt : (j + 8 - hd) % 8 < nn
      · have k1 : l[(j + 8 - hd) % 8]? = some (bs[j]?.getD 0) := by
          rw [h7, List.getElem?_map, List.getElem?_range hlt, Option.map_some]
          have : (hd + (j + 8 - hd) % 8) % 8 = j := by omega
          rw [this]
        have k2 : l[(j + 8 - hd) % 8]? = some (bs'[j]?.getD 0) := by
          rw [g7, List.getElem?_map, List.getElem?_range hlt, Option.map_some]
          have : (hd + (j + 8 - hd) % 8) % 8 = j := by omega
          rw [this]
        rw [k1] at k2
        have := Option.some.inj k2
        rw [List.getElem?_eq_getElem (by omega), List.getElem?_eq_getElem (by omega)] at this
        simpa using this
      · rw [if_neg hlt] at a1 a2
        rw [a1, a2]
    · rw [List.getElem?_eq_none (by omega), List.getElem?_eq_none (by omega)]
  subst e3
  rw [h1, h2, g1, g2]
theorem push_at {r : Ri} {l : List Int} (h : r.Holds l) {g : Int} (hg : 1 ≤ g) (h8 : l.length < 8) : r.push g = (at' r.head.toNat (l ++ [g]), true) := by
  obtain ⟨r', h1, h2⟩ := holds_push h hg h8
  have hd := h
  obtain ⟨a, b, d1, d2, d3, d4, _⟩ := hd
  have hh : r'.head = r.head := by
    unfold push at h1
    split at h1
    · have := congrArg (fun q => q.1.head) h1
      exact this.symm
    · simp at h1
  have h3 := at_holds (hd := r.head.toNat) (by omega) (l := l ++ [g]) (by simp; omega) (fun x hx => by
    rcases List.mem_append.1 hx with hx | hx
    · exact holds_pos h x hx
    · have : x = g := by simpa using hx
      omega)
  rw [h1, holds_same h2 h3 (by rw [hh]; show r.head = ((r.head.toNat : Nat) : Int); omega)]
theorem takes_head : ∀ (k : Nat) (r : Ri) (l o : List Int), r.Holds l → k ≤ l.length → (takes k r o).1.head = (r.head + k) % 8
  | 0, r, l, o, h, _ => by
    obtain ⟨a, b, d1, d2, d3, _⟩ := h
    show r.head = (r.head + 0) % 8
    omega
  | k + 1, r, [], o, h, hk => by simp at hk
  | k + 1, r, g :: l, o, h, hk => by
    obtain ⟨r', h1, h2⟩ := holds_pop h
    have hd := h
    obtain ⟨a, b, d1, d2, d3, _⟩ := hd
    have ih := takes_head k r' l (o ++ [g]) h2 (by simpa using hk)
    have hh : r'.head = (r.head + 1) % 8 := by
      unfold pop at h1
      split at h1
      · split at h1
        · simp at h1
        · have := congrArg (fun q => q.1.head) h1
          exact this.symm
      · simp at h1
    unfold takes
    rw [h1]
    simp only
    rw [ih, hh]
    omega
theorem half_at {r : Ri} {l : List Int} (h : r.Holds l) : r.half = (at' ((r.head.toNat + (l.length + 1) / 2) % 8) (l.drop ((l.length + 1) / 2)), l.take ((l.length + 1) / 2)) := by
  obtain ⟨r', h1, h2⟩ := half_holds h
  have hn := holds_n h
  have hd := h
  obtain ⟨a, b, d1, d2, d3, _⟩ := hd
  have hh : r'.head = (r.head + ((l.length + 1) / 2 : Nat)) % 8 := by
    have := takes_head ((l.length + 1) / 2) r l [] h (by omega)
    have e : r.half.1 = (takes ((l.length + 1) / 2) r []).1 := by
      unfold half
      rw [if_pos (may_of h), hn.1]
      simp
    rw [← this, ← e, h1]
  have h3 := at_holds (hd := (r.head.toNat + (l.length + 1) / 2) % 8) (Nat.mod_lt _ (by omega)) (l := l.drop ((l.length + 1) / 2)) (by rw [List.length_drop]; omega) (fun x hx => holds_pos h x (List.mem_of_mem_drop hx))
  rw [h1, holds_same h2 h3 (by rw [hh]; show _ = (((r.head.toNat + (l.length + 1) / 2) % 8 : Nat) : Int); omega)]
end Ri
namespace St
theorem tail_spec (s : St) {i : Nat} {x : Pr} (hx : s.ps[i]? = some x) (hb : x.ring.buf.length = 8) (hm : x.ring.may = true) {g : Int} (hg : 1 ≤ g) : ∃ (r : Ri) (gl : List Int), s.tail ((i : Int) + 1) g = { s with ps := s.ps.set i { x with ring := r }, glob := gl } ∧ r.may = true ∧ r.buf.length = 8 ∧ (∀ n, r.list.count n + gl.count n = x.ring.list.count n + s.glob.count n + [g].count n) ∧ (∀ n ∈ s.glob, n ∈ gl) ∧ ∀ n ∈ r.list, n ∈ x.ring.list ∨ n = g := by
  have hh := Ri.holds_may hb hm
  by_cases h8 : x.ring.list.length < 8
  · obtain ⟨r, h1, h2⟩ := Ri.holds_push hh hg h8
    refine ⟨r, s.glob, ?_, Ri.may_of h2, Ri.holds_len h2, fun n => ?_, fun n hn => hn, fun n hn => ?_⟩
    · rw [tail_push hx hg hm h1]
    · rw [Ri.list_of h2, List.count_append]; omega
    · rw [Ri.list_of h2, List.mem_append, List.mem_singleton] at hn; exact hn
  · have hn8 := Ri.holds_n hh
    have h1 := Ri.push_no hh (g := g) (.inr (by omega))
    obtain ⟨r, h2, h3⟩ := Ri.half_holds hh
    refine ⟨r, s.glob ++ x.ring.list.take ((x.ring.list.length + 1) / 2) ++ [g], ?_, Ri.may_of h3, Ri.holds_len h3, fun n => ?_, fun n hn => by simp [hn], fun n hn => ?_⟩
    · rw [tail_half hx hg hm h1 h2]
    · rw [Ri.list_of h3]
      have : x.ring.list.count n = (x.ring.list.take ((x.ring.list.length + 1) / 2) ++ x.ring.list.drop ((x.ring.list.length + 1) / 2)).count n := by rw [List.take_append_drop]
      rw [this, List.count_append, List.count_append, List.count_append]
      omega
    · rw [Ri.list_of h3] at hn; exact .inl (List.mem_of_mem_drop hn)
end St
namespace St
end St
structure StGood (s : St) : Prop where
  few : StFew s
  buf : ∀ p ∈ s.ps, p.ring.buf.length = 8
  tim : s.timers.length ≤ 9000
namespace St
theorem nil_good : StGood St.nil := by
  refine ⟨⟨?_, ?_, ?_, ?_, ?_, ?_, ?_, ?_⟩, ?_, ?_⟩
  all_goals simp [St.nil]
theorem half_spilt (r : Ri) : r.half.2.length ≤ 8 := by
  cases hm : r.may with
  | true => exact Ri.half_olen hm
  | false => rw [Ri.half, hm]; exact Nat.zero_le _
theorem tail_parts (s : St) (p g : Int) : (s.tail p g).prog = s.prog ∧ (s.tail p g).gs = s.gs ∧ (s.tail p g).ms = s.ms ∧ (s.tail p g).w0 = s.w0 ∧ (s.tail p g).w1 = s.w1 ∧ (s.tail p g).w2 = s.w2 ∧ (s.tail p g).w3 = s.w3 ∧ (s.tail p g).timers = s.timers ∧ (s.tail p g).glob.length ≤ s.glob.length + 9 := by
  have := half_spilt (s.pAt p).ring
  unfold tail
  split
  · split
    · exact ⟨rfl, rfl, rfl, rfl, rfl, rfl, rfl, rfl, by show s.glob.length ≤ _; omega⟩
    · exact ⟨rfl, rfl, rfl, rfl, rfl, rfl, rfl, rfl, by simp only [List.length_append, List.length_singleton]; omega⟩
  · exact ⟨rfl, rfl, rfl, rfl, rfl, rfl, rfl, rfl, by omega⟩
theorem tail_good {s : St} (h : StGood s) (hg : s.glob.length ≤ 90000) (p g : Int) : StGood (s.tail p g) := by
  obtain ⟨e1, e2, e3, e4, e5, e6, e7, e8, e9⟩ := tail_parts s p g
  have hf := h.few
  refine ⟨⟨by rw [e1]; exact hf.prog, by rw [e2]; exact hf.gs, by rw [(tail_keeps s p g).2.1]; exact hf.ps, by rw [e3]; exact hf.ms, by omega, by rw [e4, e5, e6, e7]; exact hf.w, by rw [e8]; exact hf.timers, by rw [e8]; exact hf.tnum⟩, ?_, by rw [e8]; exact h.tim⟩
  by_cases hc : 1 ≤ p ∧ p ≤ s.ps.length ∧ 1 ≤ g ∧ (s.pAt p).ring.may = true
  · obtain ⟨h1, h2, h3, h4⟩ := hc
    obtain ⟨i, rfl⟩ : ∃ i : Nat, p = (i : Int) + 1 := ⟨(p - 1).toNat, by omega⟩
    obtain ⟨x, hx⟩ : ∃ x, s.ps[i]? = some x := ⟨_, List.getElem?_eq_getElem (by omega)⟩
    rw [pAt_of hx] at h4
    obtain ⟨r, gl, e, _, m2, _⟩ := tail_spec s hx (h.buf x (List.mem_of_getElem? hx)) h4 h3
    rw [e]
    intro q hq
    rcases List.mem_or_eq_of_mem_set hq with hq | rfl
    · exact h.buf q hq
    · exact m2
  · rw [tail_no hc]
    exact h.buf
theorem wake_good {s : St} (h : StGood s) (hg : s.glob.length ≤ 80) (p n : Int) : StGood (s.wake p n).1 := by
  by_cases hc : s.may = true ∧ (1 ≤ p ∧ p ≤ s.procs) ∧ (1 ≤ n ∧ n ≤ s.gs.length) ∧ (s.gAt n).st = 3
  · obtain ⟨hm, hp, hn, h3⟩ := hc
    have hps := may_procs hm
    obtain ⟨i, rfl⟩ : ∃ i : Nat, p = (i : Int) + 1 := ⟨(p - 1).toNat, by omega⟩
    obtain ⟨k, rfl⟩ : ∃ k : Nat, n = (k : Int) + 1 := ⟨(n - 1).toNat, by omega⟩
    obtain ⟨x, hx⟩ : ∃ x, s.ps[i]? = some x := ⟨_, List.getElem?_eq_getElem (by omega)⟩
    obtain ⟨y, hy⟩ : ∃ y, s.gs[k]? = some y := ⟨_, List.getElem?_eq_getElem (by omega)⟩
    rw [gAt_of hy] at h3
    rw [wake_yes hm hp hx hy h3]
    refine tail_good ⟨StFew.woken h.few (by rw [List.length_set]) (by rw [List.length_set]), fun q hq => ?_, Nat.le_trans (List.length_filter_le _ _) h.tim⟩ (by show s.glob.length ≤ _; omega) _ _
    rcases List.mem_or_eq_of_mem_set hq with hq | rfl
    · exact h.buf q hq
    · exact h.buf x (List.mem_of_getElem? hx)
  · rw [wake_no hc]
    exact nil_good
theorem yield_good {s : St} (h : StGood s) (hg : s.glob.length ≤ 80) (m : Int) : StGood (s.yield m).1 := by
  by_cases hc : s.may = true ∧ (1 ≤ m ∧ m ≤ s.ms.length) ∧ (s.mAt m).1 ≠ 0 ∧ (s.mAt m).2 ≠ 0
  · obtain ⟨hm, hj, h1, h2⟩ := hc
    obtain ⟨j, rfl⟩ : ∃ j : Nat, m = (j : Int) + 1 := ⟨(m - 1).toNat, by omega⟩
    obtain ⟨⟨mp, mg⟩, hx⟩ : ∃ x, s.ms[j]? = some x := ⟨_, List.getElem?_eq_getElem (by omega)⟩
    rw [mAt_of hx] at h1 h2
    obtain ⟨k, y, rfl, hy⟩ := may_onM hm hx h1 h2
    rw [yield_yes hm hx h1 hy]
    have hf := h.few
    exact ⟨⟨hf.prog, by show (s.gs.set k _).length ≤ _; rw [List.length_set]; exact hf.gs, hf.ps, by show (s.ms.set j _).length ≤ _; rw [List.length_set]; exact hf.ms, by show (s.glob ++ [(k : Int) + 1]).length ≤ _; rw [List.length_append]; simp; omega, hf.w, hf.timers, hf.tnum⟩, h.buf, h.tim⟩
  · rw [yield_no hc]
    exact nil_good
theorem drain_good {s : St} (h : StGood s) (hg : s.glob.length ≤ 80) (p : Int) : StGood (s.drain p).1 := by
  rcases drain_cases s p with e | ⟨i, x, rfl, hm, hp, hx, e⟩
  · rw [e]; exact nil_good
  · rw [e]; exact ⟨dried_few h.few hg, dried_buf h.buf, h.tim⟩
end St
end Go.Proofs.Ytogcfndhcphpaaa
