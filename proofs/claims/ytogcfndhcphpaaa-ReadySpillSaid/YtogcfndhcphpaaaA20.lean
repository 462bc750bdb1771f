/-
  Several texts in one: Tz, Tzk, Tzl, Tzm, Tzr, Gj, Tzp, Tzs, Tzu, Gk, Gl, Ua.
-/
import Derived.Test.YtogcfndhcphpaaaA12
import Derived.Test.YtogcfndhcphpaaaA19
import Derived.Test.YtogcfndhcphpaaaA13
import Derived.Test.YtogcfndhcphpaaaA16
import Derived.Test.YtogcfndhcphpaaaA06
import Derived.Test.YtogcfndhcphpaaaA01
/-
  Where a G of a state is: the program's Place, and the document's; the document's Queue.
-/
set_option linter.unusedVariables false
set_option linter.unusedSimpArgs false
namespace Go.Proofs.Ytogcfndhcphpaaa
open Go.RowKit

/-- Where a G is, of a state that may be. -/
def St.placeOf (s : St) (n : Int) (g : Gr) : Int × Int := if g.st = 1 then placeAt n s.ps 0 else if g.st = 2 then (4, g.m) else if g.st = 4 then (7, g.m) else if g.st = 5 then (8, 0) else waitAt n s.wts 0
def St.place (s : St) (n : Int) : Int × Int := if 1 ≤ n ∧ n ≤ s.gs.length ∧ s.may = true then s.placeOf n (s.gs.getD (n - 1).toNat St.nilG) else (0, 0)
theorem St.may_stands {s : St} (h : s.may = true) {j : Nat} {g : Gr} (hg : s.gs[j]? = some g) : s.stands j g = true := by
  unfold St.may at h
  rw [Bool.and_eq_true] at h
  have := allIx_iff.1 h.2 j g hg
  rwa [Nat.zero_add] at this
set_option maxRecDepth 100000 in
set_option maxHeartbeats 2000000 in
theorem rQueue_any (h : StH) (s : St) (p : Int) (q : List Int) (hq : s.queue p = q) (w : World) (hk : StOk w h s) (hf : StFew s) : Calls Try.prog 29 #[stV h s, .int .i64 p] w (IntsP q w) := by
  have HF := Lib.hid hf
  have f1 := hf.ps
  have HK := Lib.hid hk
  obtain ⟨w1, hw1⟩ : ∃ w1, w.alloc (.cells #[.slice h.pa s.prog.length h.pc, .slice h.ga s.gs.length h.gc, .slice h.qa s.ps.length h.qc, .slice h.ma s.ms.length h.mc, .slice h.la s.glob.length h.lc, .int .i64 s.c0, .int .i64 s.c1, .int .i64 s.c2, .int .i64 s.c3, .slice h.a0 s.w0.length h.k0, .slice h.a1 s.w1.length h.k1, .slice h.a2 s.w2.length h.k2, .slice h.a3 s.w3.length h.k3, .slice h.ta s.timers.length h.tc, .int .i64 s.clock, .int .i64 s.procs] 32) = w1 := ⟨_, rfl⟩
  have HX1 : Hid (Ext w w1) := Lib.hid (by rw [← hw1]; exact (Ext.refl w).alloc _)
  have HB1 : Hid (w1.heap[w.heap.size]? = some (.cells (stC h s) 32 (0, 0))) := Lib.hid (by rw [← hw1]; exact blk_new w _)
  have HK1 := Lib.hid (hk.ext HX1.out)
  have HW1 := Lib.hid hw1
  clear hw1 hk
  clear hf
  have HQ := Lib.hid hq
  have HQN : Hid (¬ (1 ≤ p ∧ p ≤ s.procs ∧ s.may = true) → ∀ w', Ext w1 w' → IntsP q w (.returned (.slice none 0 0)) w') := Lib.hid fun hn w' hx => by
    rw [St.queue_no hn] at hq
    subst hq
    exact IntsP.mk' (OwnInts.nil _ _) (Nat.le_refl _) (HX1.out.trans hx)
  clear hq
  have HLD := Lib.hid HB1.out
  have q15 := st15 HB1.out
  unfold stV
  go_enter Try.func29, Try.ntmps29
  go_upto_region 1 with fail
  rw [HW1.out]
  generalize Value.agg #[.slice h.pa s.prog.length h.pc, .slice h.ga s.gs.length h.gc, .slice h.qa s.ps.length h.qc, .slice h.ma s.ms.length h.mc, .slice h.la s.glob.length h.lc, .int .i64 s.c0, .int .i64 s.c1, .int .i64 s.c2, .int .i64 s.c3, .slice h.a0 s.w0.length h.k0, .slice h.a1 s.w1.length h.k1, .slice h.a2 s.w2.length h.k2, .slice h.a3 s.w3.length h.k3, .slice h.ta s.timers.length h.tc, .int .i64 s.clock, .int .i64 s.procs] = sv0
  by_cases a1 : p < 1
  · have HE := Lib.hid (HQN.out (fun h => by omega) w1 (Ext.refl _))
    go_wp2
    go_ret
    exact HE.out
  by_cases a2 : s.procs < p
  · have HE := Lib.hid (HQN.out (fun h => by omega) w1 (Ext.refl _))
    go_wp2
    go_ret
    exact HE.out
  go_wp2_with (refine wpList_load_rowW rfl 32 _ rfl w.heap.size rfl (stL h s) (stV h s) rfl _ (range_row HLD.out) Try.underlying32 rfl (by kernel_rfl) ?_)
  refine (rstmay_any h s _ rfl _ HK1.out HF.out).mono ?_
  rintro e w3 ⟨rfl, hx3⟩
  have HX3 := Lib.hid hx3
  clear hx3 q15 HLD
  cases bm : s.may with
  | false =>
    have HE := Lib.hid (HQN.out (fun h => by rw [bm] at h; exact absurd h.2.2 (by simp)) w3 HX3.out)
    go_wp2
    go_ret
    exact HE.out
  | true =>
    have hps := St.may_procs bm
    obtain ⟨j, rfl⟩ : ∃ j : Nat, p = (j : Int) + 1 := ⟨(p - 1).toNat, by omega⟩
    obtain ⟨x, hp⟩ : ∃ x, s.ps[j]? = some x := ⟨_, List.getElem?_eq_getElem (by omega)⟩
    obtain ⟨m, nx, r, sq⟩ := x
    obtain ⟨b0, b1, b2, b3, b4, b5, b6, b7, hd, nn, rfl⟩ := Ri.open8 (HK.out.buf _ (List.mem_of_getElem? hp))
    have HQY : Hid (St.queueOf ⟨m, nx, ⟨[b0, b1, b2, b3, b4, b5, b6, b7], hd, nn⟩, sq⟩ = q) := Lib.hid (by rw [← HQ.out]; exact (St.queue_yes (by omega) bm hp).symm)
    obtain ⟨b, o, hA, hb, hc⟩ := ps_get (HK1.out.ext HX3.out).ps hp
    obtain ⟨⟨p0, p1, p2, p3, p4, p5, p6⟩, p7, p8, p9, p10, p11, p12⟩ := hc
    have e1 : (j : Int) + 1 - 1 = (j : Int) := by omega
    have e4 : (j : Int) < (s.ps.length : Int) := by omega
    have q2 := st2 (HX3.out.blk HB1.out)
    clear hps hp hb a1 a2
    go_wp2_with fail
    refine (rqueueOf_any m nx b0 b1 b2 b3 b4 b5 b6 b7 hd nn sq w3).mono ?_
    rintro e w5 he
    rw [HQY.out] at he
    obtain ⟨A3, c3, rfl, ho3, hx3⟩ := he
    have HE : Hid (IntsP q w (.returned (.slice A3 q.length c3)) w5) := Lib.hid (IntsP.mk' ho3 (by have := HX1.out.size; have := HX3.out.size; omega) (HX1.out.trans (HX3.out.trans hx3)))
    clear p0 p1 p2 p3 p4 p5 p6 p7 p8 p9 p10 p11 p12
    go_wp2
    go_ret
    exact HE.out
end Go.Proofs.Ytogcfndhcphpaaa
/-
  The fixed calls of layer 12.
-/
set_option linter.unusedVariables false
set_option linter.unusedSimpArgs false
namespace Go.Proofs.Ytogcfndhcphpaaa
open Go.RowKit
/-- A state in a box of its own. -/
theorem st_box (wa : World) (h : StH) (s : St) : ∃ wb wc, wa.alloc (.cells #[.slice none 0 0, .slice none 0 0, .slice none 0 0, .slice none 0 0, .slice none 0 0, .int .i64 0, .int .i64 0, .int .i64 0, .int .i64 0, .slice none 0 0, .slice none 0 0, .slice none 0 0, .slice none 0 0, .slice none 0 0, .int .i64 0, .int .i64 0] 32) = wb ∧ wb.setCells wa.heap.size 0 (stL h s) = wc ∧ wb.there wa.heap.size 0 (stL h s).length ∧ wc.heap[wa.heap.size]? = some (.cells (stC h s) 32 (0, 0)) ∧ Ext wa wc := by
  have hb := blk_new wa (.cells #[.slice none 0 0, .slice none 0 0, .slice none 0 0, .slice none 0 0, .slice none 0 0, .int .i64 0, .int .i64 0, .int .i64 0, .int .i64 0, .slice none 0 0, .slice none 0 0, .slice none 0 0, .slice none 0 0, .slice none 0 0, .int .i64 0, .int .i64 0] 32)
  refine ⟨_, _, rfl, rfl, there_row hb (Nat.le_refl 16), setCells_at [.slice none 0 0, .slice none 0 0, .slice none 0 0, .slice none 0 0, .slice none 0 0, .int .i64 0, .int .i64 0, .int .i64 0, .int .i64 0, .slice none 0 0, .slice none 0 0, .slice none 0 0, .slice none 0 0, .slice none 0 0, .int .i64 0, .int .i64 0] (stL h s) rfl hb, ?_⟩
  exact ((Ext.refl wa).alloc _).upd (setCells_upd _ _ _ _) (Nat.le_refl _)
theorem nest_one {w : World} {b g n : Nat} {l : List (Int × Int)} (hg : w.heap[g]? = some (.cells #[.slice (some ⟨b, 0, none⟩) n n] 69 (0, 0))) (hr : RowsAt 2 pairL w (.slice (some ⟨b, 0, none⟩) n n) l) : NestAt 2 pairL w (.slice (some ⟨g, 0, none⟩) 1 1) [l] := by
  refine ⟨[.slice (some ⟨b, 0, none⟩) n n], rfl, ⟨_, _, rfl, Nat.le_refl 1, fun _ => ⟨g, 0, rfl, blk_lt hg, fun j x hj i u hu => ?_⟩⟩, fun i u xs hu hx => ?_⟩
  · match j, i with
    | 0, 0 => simp at hj; subst hj; simp [oneL] at hu; subst hu; exact blk_cell hg _ _ rfl
    | 0, i + 1 => simp [oneL] at hu
    | j + 1, _ => simp at hj
  · match i with
    | 0 => simp at hu hx; subst hu hx; exact hr
    | i + 1 => simp at hu
end Go.Proofs.Ytogcfndhcphpaaa
/-
  The walk of the statement StateNew.
-/
set_option linter.unusedVariables false
set_option linter.unusedSimpArgs false
namespace Go.Proofs.Ytogcfndhcphpaaa
open Go.RowKit
end Go.Proofs.Ytogcfndhcphpaaa
/-
  The walk of the statement StateQueues.
-/
set_option linter.unusedVariables false
set_option linter.unusedSimpArgs false
namespace Go.Proofs.Ytogcfndhcphpaaa
open Go.RowKit
theorem St.may_parts {s : St} (h : s.may = true) : s.whole = true ∧ s.goods = true ∧ s.holds = true ∧ s.counts = true ∧ s.allIn = true ∧ ∀ (j : Nat) g, s.gs[j]? = some g → s.stands j g = true := by
  have h0 := h
  unfold St.may at h
  simp only [Bool.and_eq_true] at h
  obtain ⟨⟨⟨⟨⟨h1, h2⟩, h3⟩, h4⟩, h5⟩, h6⟩ := h
  exact ⟨h1, h2, h3, h4, h5, fun j g hg => St.may_stands h0 hg⟩
theorem St.may_holdP {s : St} (h : s.may = true) {j : Nat} {p : Pr} (hp : s.ps[j]? = some p) : s.holdP j p = true := by
  have := (St.may_parts h).2.2.1
  unfold St.holds at this
  rw [Bool.and_eq_true] at this
  have := allIx_iff.1 this.1 j p hp
  rwa [Nat.zero_add] at this
end Go.Proofs.Ytogcfndhcphpaaa
/-
  A state that may be, turned: plain mathematics.
-/
set_option linter.unusedVariables false
set_option linter.unusedSimpArgs false
namespace Go.Proofs.Ytogcfndhcphpaaa
open Go.RowKit
end Go.Proofs.Ytogcfndhcphpaaa
/-
  Boxes of whole structs that a drawn region makes, and stores into. No function of the program is named.
-/
set_option linter.unusedVariables false
set_option linter.unusedSimpArgs false
namespace Go.Proofs.Ytogcfndhcphpaaa
open Go.RowKit

/-- A box of n cells that a region made. -/
def BoxW (T : TypeId) (n : Nat) (w0 w : World) (u : GV) : Prop := ∃ g cs, List.length cs = n ∧ u.v = .pointer (some ⟨g, 0, none⟩) ∧ w0.heap.size ≤ g ∧ (u.s ≤ g ∧ g < u.t) ∧ w.heap[g]? = some (.cells cs.toArray T (0, 0))
theorem BoxW.ext {T : TypeId} {n : Nat} {w0 w w' : World} {u : GV} (h : BoxW T n w0 w u) (hx : Ext w w') : BoxW T n w0 w' u := by
  obtain ⟨g, cs, h0, h1, h2, h3, h4⟩ := h
  exact ⟨g, cs, h0, h1, h2, h3, hx.blk h4⟩
theorem BoxW.chg {T : TypeId} {m : Nat} {w0 w w' : World} {u : GV} {n : Nat} {gs : List GV} (h : BoxW T m w0 w u) (hc : ChgIn w0 n gs w w') : BoxW T m w0 w' u := by
  obtain ⟨g, cs, h0, h1, h2, h3, h4⟩ := h
  obtain ⟨ds, k1, k2, _⟩ := hc.part g _ _ h4
  exact ⟨g, ds.toList, by simpa using k2.trans (by simpa using h0), h1, h2, h3, by simpa using k1⟩
theorem BoxW.made {T : TypeId} {w0 w : World} (h : Ext w0 w) (cs : List Value) : BoxW T cs.length w0 (w.alloc (.cells cs.toArray T)) ⟨.pointer (some ⟨w.heap.size, 0, none⟩), w.heap.size, (w.alloc (.cells cs.toArray T)).heap.size⟩ := ⟨_, cs, rfl, rfl, h.size, ⟨Nat.le_refl _, by simp⟩, blk_new w _⟩
/-- Such a box, its cells told. -/
def HasW (T : TypeId) (w0 w : World) (u : GV) (cs : List Value) : Prop := ∃ g, u.v = .pointer (some ⟨g, 0, none⟩) ∧ w0.heap.size ≤ g ∧ (u.s ≤ g ∧ g < u.t) ∧ w.heap[g]? = some (.cells cs.toArray T (0, 0))
theorem HasW.ext {T : TypeId} {w0 w w' : World} {u : GV} {cs : List Value} (h : HasW T w0 w u cs) (hx : Ext w w') : HasW T w0 w' u cs := by
  obtain ⟨g, h1, h2, h3, h4⟩ := h
  exact ⟨g, h1, h2, h3, hx.blk h4⟩
theorem HasW.far {T : TypeId} {w0 w w' : World} {u : GV} {n : Nat} {gs : List GV} {cs : List Value} (h : HasW T w0 w u cs) (hc : ChgIn w0 n gs w w') (ha : ∀ g ∈ gs, g.apart u) : HasW T w0 w' u cs := by
  obtain ⟨g, h1, h2, h3, h4⟩ := h
  refine ⟨g, h1, h2, h3, (hc.same g (blk_lt h4) fun x hx => ?_).trans h4⟩
  have := ha x hx
  unfold GV.apart at this
  omega
theorem ChgIn.row {w0 w : World} {g : Nat} {u : GV} {T : TypeId} {cs ds : List Value} (hl : cs.length = ds.length) (h0 : Ext w0 w) (hg : w0.heap.size ≤ g) (hi : u.s ≤ g ∧ g < u.t) (hb : w.heap[g]? = some (.cells cs.toArray T (0, 0))) : ChgIn w0 0 [u] w (w.setCells g 0 ds) := by
  have hu := setCells_upd g ds w 0
  refine ⟨h0, h0.upd hu hg, hu.sz, fun b hb' hgs => hu.block b hb' fun he => ?_, fun b es ty hbc => ?_⟩
  · injection he with he
    subst he
    have := hgs u (by simp)
    omega
  · by_cases hbg : b = g
    · subst hbg
      rw [hb] at hbc
      cases hbc
      exact ⟨_, setCells_at cs ds hl hb, by simp [hl], rfl⟩
    · exact ⟨es, hu.blk hbc hbg, rfl, rfl⟩
theorem HasW.get {T : TypeId} {w0 w : World} {v : Value} {s t g : Nat} {cs : List Value} (h : HasW T w0 w ⟨v, s, t⟩ cs) (hv : v = .pointer (some ⟨g, 0, none⟩)) : w0.heap.size ≤ g ∧ w.heap[g]? = some (.cells cs.toArray T (0, 0)) := by
  obtain ⟨g', h1, h2, _, h4⟩ := h
  rw [hv] at h1
  simp only [Value.pointer.injEq, Option.some.injEq, Addr.mk.injEq, and_true] at h1
  subst h1
  exact ⟨h2, h4⟩
end Go.Proofs.Ytogcfndhcphpaaa
/-
  The walk of the statement StatePlaces.
-/
set_option linter.unusedVariables false
set_option linter.unusedSimpArgs false
namespace Go.Proofs.Ytogcfndhcphpaaa
open Go.RowKit
end Go.Proofs.Ytogcfndhcphpaaa
/-
  Copies of a state in a drawn region.
-/
set_option linter.unusedVariables false
set_option linter.unusedSimpArgs false
namespace Go.Proofs.Ytogcfndhcphpaaa
open Go.RowKit

theorem OwnRows.but {α : Type} {e : TypeId} {m : Nat} {f : α → List Value} {w w' : World} {B : Nat} {v : Value} {xs : List α} {S : Nat → Prop} (h : OwnRows e m f w B v xs) (k : But S w w') (hs : ∀ b, v.ownBlock = some b → ¬ S b) : OwnRows e m f w' B v xs := by
  refine ⟨h.1, ?_⟩
  rcases h.2 with h1 | ⟨g, cap, cur, rfl, hb, hg, rest⟩
  · exact .inl h1
  · exact .inr ⟨g, cap, cur, rfl, hb, (k.block g (blk_lt hg) (hs g rfl)).trans hg, rest⟩
theorem OwnInts.but {w w' : World} {B : Nat} {v : Value} {xs : List Int} {S : Nat → Prop} (h : OwnInts w B v xs) (k : But S w w') (hs : ∀ b, v.ownBlock = some b → ¬ S b) : OwnInts w' B v xs := by
  refine ⟨h.1, ?_⟩
  rcases h.2 with h1 | ⟨g, cap, cur, rfl, hb, hg, rest⟩
  · exact .inl h1
  · exact .inr ⟨g, cap, cur, rfl, hb, (k.block g (blk_lt hg) (hs g rfl)).trans hg, rest⟩
/-- Nothing of a copy changes where only other blocks do. -/
theorem StApart.but {B T : Nat} {w w' : World} {I : Nat → Nat × Nat} {h : StH} {s : St} {S : Nat → Prop} (k : StApart B w I h s) (c : But S w w') (hT : ∀ i, i < 10 → (I i).2 ≤ T) (hs : ∀ b, B ≤ b → b < T → ¬ S b) : StApart B w' I h s := by
  have r := fun (i : Nat) (hi : i < 10) (b : Nat) (h1 : (I i).1 ≤ b) (h2 : b < (I i).2) => hs b (Nat.le_trans (k.low i hi).1 h1) (Nat.lt_of_lt_of_le h2 (hT i hi))
  exact ⟨fun i hi => ⟨(k.low i hi).1, (k.low i hi).2.1, Nat.le_trans (k.low i hi).2.2 c.size⟩, k.apart, k.prog.but c (r 0 (by omega)),
    ⟨k.gs.1.but c fun b hb => r 1 (by omega) b (k.gs.1.lt b hb).1 (k.gs.2 b hb), k.gs.2⟩,
    ⟨k.ps.1.but c fun b hb => r 2 (by omega) b (k.ps.1.lt b hb).1 (k.ps.2 b hb), k.ps.2⟩,
    ⟨k.ms.1.but c fun b hb => r 3 (by omega) b (k.ms.1.lt b hb).1 (k.ms.2 b hb), k.ms.2⟩,
    ⟨k.glob.1.but c fun b hb => r 4 (by omega) b (World.ownsRow.lt k.glob.1 b hb).1 (k.glob.2 b hb), k.glob.2⟩,
    ⟨k.w0.1.but c fun b hb => r 5 (by omega) b (World.ownsRow.lt k.w0.1 b hb).1 (k.w0.2 b hb), k.w0.2⟩,
    ⟨k.w1.1.but c fun b hb => r 6 (by omega) b (World.ownsRow.lt k.w1.1 b hb).1 (k.w1.2 b hb), k.w1.2⟩,
    ⟨k.w2.1.but c fun b hb => r 7 (by omega) b (World.ownsRow.lt k.w2.1 b hb).1 (k.w2.2 b hb), k.w2.2⟩,
    ⟨k.w3.1.but c fun b hb => r 8 (by omega) b (World.ownsRow.lt k.w3.1 b hb).1 (k.w3.2 b hb), k.w3.2⟩,
    ⟨OwnRows.but k.timers.1 c fun b hb => r 9 (by omega) b (OwnRows.lt k.timers.1 b hb).1 (k.timers.2 b hb), k.timers.2⟩⟩
/-- A copy that an operation of a region made: its handle, its blocks. -/
def CopW (B : Nat) (s : St) (w : World) (u : GV) (h : StH) : Prop := B ≤ u.s ∧ ∃ I, StApart u.s w I h s ∧ (∀ i, i < 10 → (I i).2 ≤ u.t) ∧ u.t ≤ w.heap.size
theorem CopW.ext {B : Nat} {s : St} {w w' : World} {u : GV} {h : StH} (k : CopW B s w u h) (hx : Ext w w') : CopW B s w' u h := by
  obtain ⟨h0, I, h1, h2, h3⟩ := k
  exact ⟨h0, I, h1.but (S := fun _ => False) (But.ext hx) h2 (fun _ _ _ h => h), h2, Nat.le_trans h3 hx.size⟩
theorem CopW.far {B : Nat} {s : St} {w0 w w' : World} {u : GV} {h : StH} {n : Nat} {gs : List GV} (k : CopW B s w u h) (hc : ChgIn w0 n gs w w') (ha : ∀ g ∈ gs, g.apart u) : CopW B s w' u h := by
  obtain ⟨h0, I, h1, h2, h3⟩ := k
  refine ⟨h0, I, h1.but (S := fun b => ¬ (u.s ≤ b ∧ b < u.t)) ⟨hc.new.os.trans hc.old.os.symm, hc.new.tape.trans hc.old.tape.symm, hc.new.output.trans hc.old.output.symm, hc.size, fun b hb hn => hc.same b hb fun x hx => ?_⟩ h2 (fun b a1 a2 h => h ⟨a1, a2⟩), h2, Nat.le_trans h3 hc.size⟩
  have := ha x hx
  unfold GV.apart at this
  have hin : u.s ≤ b ∧ b < u.t := Classical.not_not.1 hn
  omega
end Go.Proofs.Ytogcfndhcphpaaa
/-
  Parts of a slice of numbers.
-/
set_option linter.unusedVariables false
set_option linter.unusedSimpArgs false
namespace Go.Proofs.Ytogcfndhcphpaaa
open Go.RowKit

def advK (A : Option Addr) (k c : Nat) : Option Addr := if c = k then A else A.map fun a => a.add k
theorem isize_run : ∀ w, (sizeOf 3).run Try.prog w = .ok 1 w := fun w => by kernel_rfl
theorem irun_to (A : Option Addr) (n c k : Nat) (h1 : k ≤ n) (h2 : n ≤ c) (v : World) : (Instr.slice 27 (.slice A n c) none (some (.int .i64 k)) none).run Try.prog v = .ok (.slice A k c) v := by
  have hk : (k : Int) ≤ (c : Int) := by omega
  simp [Instr.slice, run_underlying Try.underlying27, Instr.sliceBounds, Instr.sliceBound, asIntOf, hk, isize_run]
  rw [if_pos (by omega)]
  have hA' : (if c = 0 then A else Option.map (fun x => x.add 0) A) = A := by cases A <;> simp [Addr.add]
  rw [hA']
theorem irun_from (A : Option Addr) (n c k : Nat) (h1 : k ≤ n) (h2 : n ≤ c) (v : World) : (Instr.slice 27 (.slice A n c) (some (.int .i64 k)) none none).run Try.prog v = .ok (.slice (advK A k c) (n - k) (c - k)) v := by
  have hk : (k : Int) ≤ (n : Int) := by omega
  simp [Instr.slice, run_underlying Try.underlying27, Instr.sliceBounds, Instr.sliceBound, asIntOf, hk, isize_run]
  rw [if_pos h1]
  rfl
theorem IntsAt.upto {A : Option Addr} {n c k : Nat} {w : World} {xs : List Int} (h : IntsAt w (.slice A n c) xs) (hk : k ≤ xs.length) : IntsAt w (.slice A k c) (xs.take k) := by
  obtain ⟨A', c', hv, hA⟩ := h
  simp only [Value.slice.injEq] at hv
  obtain ⟨rfl, rfl, rfl⟩ := hv
  refine ⟨A, c, by rw [List.length_take, Nat.min_eq_left hk], fun h0 => ?_⟩
  rw [List.length_take] at h0
  obtain ⟨b, o, hb, hlt, hc⟩ := hA (by omega)
  refine ⟨b, o, hb, hlt, fun j x hj => hc j x ?_⟩
  rw [List.getElem?_take] at hj
  split at hj
  · exact hj
  · cases hj
theorem IntsAt.behind {A : Option Addr} {n c k : Nat} {w : World} {xs : List Int} (h : IntsAt w (.slice A n c) xs) (hk : k ≤ xs.length) (hc : n ≤ c) : IntsAt w (.slice (advK A k c) (n - k) (c - k)) (xs.drop k) := by
  obtain ⟨A', c', hv, hA⟩ := h
  simp only [Value.slice.injEq] at hv
  obtain ⟨rfl, rfl, rfl⟩ := hv
  refine ⟨_, _, by rw [List.length_drop], fun h0 => ?_⟩
  rw [List.length_drop] at h0
  obtain ⟨b, o, hb, hlt, hcell⟩ := hA (by omega)
  refine ⟨b, o + k, ?_, hlt, fun j x hj => ?_⟩
  · unfold advK
    rw [if_neg (by omega), hb]
    simp [Addr.add]
  · rw [List.getElem?_drop] at hj
    have := hcell (k + j) x hj
    rwa [show o + (k + j) = o + k + j by omega] at this
end Go.Proofs.Ytogcfndhcphpaaa
/-
  A store of a few cells inside a block.
-/
set_option linter.unusedVariables false
set_option linter.unusedSimpArgs false
namespace Go.Proofs.Ytogcfndhcphpaaa
open Go.RowKit

theorem setCells_mid {g : Nat} {T : TypeId} : ∀ (ds : List Value) (w : World) (cs : Array Value) (i : Nat), w.heap[g]? = some (.cells cs T (0, 0)) → i + ds.length ≤ cs.size → ∃ cs', (w.setCells g i ds).heap[g]? = some (.cells cs' T (0, 0)) ∧ cs'.size = cs.size ∧ ∀ j, cs'[j]? = if i ≤ j ∧ j < i + ds.length then ds[j - i]? else cs[j]?
  | [], w, cs, i, h, _ => ⟨cs, h, rfl, fun j => by rw [if_neg (by simp <;> omega)]⟩
  | d :: ds, w, cs, i, h, hl => by
    simp only [List.length_cons] at hl
    obtain ⟨cs', h1, h2, h3⟩ := setCells_mid ds (w.setCell ⟨g, i, none⟩ d) (cs.setIfInBounds i d) (i + 1) (blk_set h i d) (by simp; omega)
    refine ⟨cs', h1, by simpa using h2, fun j => ?_⟩
    rw [h3 j, List.length_cons]
    by_cases hj : j = i
    · subst hj
      rw [if_neg (by omega), if_pos (by omega), Nat.sub_self, List.getElem?_cons_zero, Array.getElem?_setIfInBounds_self_of_lt (by omega)]
    · by_cases hin : i + 1 ≤ j ∧ j < i + 1 + ds.length
      · rw [if_pos hin, if_pos (by omega), show j - i = (j - (i + 1)) + 1 by omega, List.getElem?_cons_succ]
      · rw [if_neg hin, if_neg (by omega), Array.getElem?_setIfInBounds_ne (Ne.symm hj)]
end Go.Proofs.Ytogcfndhcphpaaa
/-
  A store into a slice of records of the call's own. No function of the program is named.
-/
set_option linter.unusedVariables false
set_option linter.unusedSimpArgs false
namespace Go.Proofs.Ytogcfndhcphpaaa
open Go.RowKit

theorem OwnRows.setCells {α : Type} {e : TypeId} {m : Nat} {f : α → List Value} {w : World} {B : Nat} {v : Value} {xs : List α} (hf : ∀ x, (f x).length = m) (h : OwnRows e m f w B v xs) {i : Nat} {x x' : α} (hi : xs[i]? = some x) {j : Nat} {ds : List Value} (hj : j + ds.length ≤ m)
    (hx : ∀ t, t < m → (f x')[t]? = if j ≤ t ∧ t < j + ds.length then ds[t - j]? else (f x)[t]?) :
    ∃ g c, v = .slice (some ⟨g, 0, none⟩) xs.length c ∧ v.ownBlock = some g ∧ B ≤ g ∧ g < w.heap.size ∧ w.there g (i * m + j) ds.length ∧ OwnRows e m f (w.setCells g (i * m + j) ds) B v (xs.set i x') ∧ Upd g w (w.setCells g (i * m + j) ds) := by
  have hil := (List.getElem?_eq_some_iff.1 hi).1
  rcases h.2 with ⟨_, h0⟩ | ⟨g, cap, cur, rfl, hb, hg, hnc, hcm, hcs, htake⟩
  · omega
  · have hlt : i * m + j + ds.length ≤ cur.size := by
      have h1 : (i + 1) * m ≤ cap * m := Nat.mul_le_mul_right _ (by omega)
      rw [Nat.add_mul] at h1
      rw [hcs]
      omega
    obtain ⟨cs', h1, h2, h3⟩ := setCells_mid ds w cur (i * m + j) hg hlt
    refine ⟨g, cap, rfl, rfl, hb, blk_lt hg, fun k hk => ⟨?_, frozen_of_row _ _ _ _ _ hg⟩, ⟨?_, .inr ⟨g, cap, cs', ?_, hb, h1, ?_, hcm, h2.trans hcs, ?_⟩⟩, setCells_upd _ _ _ _⟩
    · rw [blk_cell hg _ _ (Array.getElem?_eq_getElem (by omega))]; rfl
    · rw [flatMap_len hf]
    · rw [List.length_set]
    · rw [List.length_set]; exact hnc
    · rw [List.length_set]
      apply List.ext_getElem?
      intro t
      by_cases ht : t < xs.length * m
      · have hm : 0 < m := Nat.pos_of_ne_zero fun e => by subst e; omega
        have hq : t / m < xs.length := Nat.div_lt_of_lt_mul (by rw [Nat.mul_comm]; exact ht)
        have hr : t % m < m := Nat.mod_lt _ hm
        have hjj : t / m * m + t % m = t := by rw [Nat.mul_comm]; exact Nat.div_add_mod t m
        have key : ∀ (y : α), (xs.set i x')[t / m]? = some y → ((xs.set i x').flatMap f)[t]? = (f y)[t % m]? := fun y hy => by
          have := flatMap_get hf (xs.set i x') (t / m) y hy (t % m) _ (List.getElem?_eq_getElem (by rw [hf]; exact hr))
          rw [hjj] at this
          rw [this, List.getElem?_eq_getElem (by rw [hf]; exact hr)]
        have key0 : ∀ (y : α), xs[t / m]? = some y → cur.toList[t]? = (f y)[t % m]? := fun y hy => by
          have := flatMap_get hf xs (t / m) y hy (t % m) _ (List.getElem?_eq_getElem (by rw [hf]; exact hr))
          rw [hjj, ← htake, List.getElem?_take, if_pos ht] at this
          rw [this, List.getElem?_eq_getElem (by rw [hf]; exact hr)]
        rw [List.getElem?_take, if_pos ht, Array.getElem?_toList, h3 t]
        by_cases hqi : t / m = i
        · subst hqi
          rw [key x' (List.getElem?_set_self hq), hx _ hr, ← key0 x hi]
          by_cases hin : j ≤ t % m ∧ t % m < j + ds.length
          · rw [if_pos hin, if_pos (by omega), show t - (t / m * m + j) = t % m - j by omega]
          · rw [if_neg hin, if_neg (by omega), Array.getElem?_toList]
        · have hout : ¬ (i * m + j ≤ t ∧ t < i * m + j + ds.length) := by
            rcases Nat.lt_or_gt_of_ne hqi with hl | hl
            · have h1 : (t / m + 1) * m ≤ i * m := Nat.mul_le_mul_right _ hl
              rw [Nat.add_mul] at h1
              omega
            · have h1 : (i + 1) * m ≤ t / m * m := Nat.mul_le_mul_right _ hl
              rw [Nat.add_mul] at h1
              omega
          rw [if_neg hout, key _ ((List.getElem?_set_ne (Ne.symm hqi)).trans (List.getElem?_eq_getElem hq)), ← key0 _ (List.getElem?_eq_getElem hq), Array.getElem?_toList]
      · rw [List.getElem?_take, if_neg ht, List.getElem?_eq_none (by rw [flatMap_len hf, List.length_set]; omega)]
/-- One cell stored. -/
theorem OwnRows.setCell {α : Type} {e : TypeId} {m : Nat} {f : α → List Value} {w : World} {B : Nat} {v : Value} {xs : List α} (hf : ∀ x, (f x).length = m) (h : OwnRows e m f w B v xs) {i : Nat} {x x' : α} (hi : xs[i]? = some x) {j : Nat} {d : Value} (hj : j < m)
    (hx : f x' = (f x).set j d) :
    ∃ g c, v = .slice (some ⟨g, 0, none⟩) xs.length c ∧ v.ownBlock = some g ∧ B ≤ g ∧ g < w.heap.size ∧ w.there g (i * m + j) 1 ∧ OwnRows e m f (w.setCell ⟨g, i * m + j, none⟩ d) B v (xs.set i x') ∧ Upd g w (w.setCell ⟨g, i * m + j, none⟩ d) :=
  OwnRows.setCells hf h hi (ds := [d]) (by simp only [List.length_singleton]; omega) (fun t ht => by
    rw [hx]
    by_cases htj : t = j
    · subst htj
      rw [List.getElem?_set_self (by rw [hf]; exact ht), if_pos (by simp), Nat.sub_self]
      rfl
    · rw [List.getElem?_set_ne (Ne.symm htj), if_neg (by simp; omega)])
end Go.Proofs.Ytogcfndhcphpaaa
/-
  States in blocks of their own: their parts changed one by one.
-/
set_option linter.unusedVariables false
set_option linter.unusedSimpArgs false
namespace Go.Proofs.Ytogcfndhcphpaaa
open Go.RowKit

/-- The ranges with another one at k. -/
def putI (I : Nat → Nat × Nat) (k : Nat) (J : Nat × Nat) : Nat → Nat × Nat := fun i => if i = k then J else I i
theorem putI_low {B n n' k : Nat} {I : Nat → Nat × Nat} {J : Nat × Nat} (h : ∀ i, i < 10 → B ≤ (I i).1 ∧ (I i).1 ≤ (I i).2 ∧ (I i).2 ≤ n) (hn : n ≤ n') (hJ : J = I k ∨ (n ≤ J.1 ∧ J.1 ≤ J.2 ∧ J.2 ≤ n')) (hk : k < 10) : ∀ i, i < 10 → B ≤ (putI I k J i).1 ∧ (putI I k J i).1 ≤ (putI I k J i).2 ∧ (putI I k J i).2 ≤ n' := fun i hi => by
  have h1 := h i hi
  have h2 := h k hk
  unfold putI
  split
  · rcases hJ with rfl | hJ
    · omega
    · omega
  · omega
theorem putI_apart {B n n' k : Nat} {I : Nat → Nat × Nat} {J : Nat × Nat} (h : ∀ i, i < 10 → B ≤ (I i).1 ∧ (I i).1 ≤ (I i).2 ∧ (I i).2 ≤ n) (ha : ∀ i j, i < 10 → j < 10 → i ≠ j → (I i).2 ≤ (I j).1 ∨ (I j).2 ≤ (I i).1) (hJ : J = I k ∨ (n ≤ J.1 ∧ J.1 ≤ J.2 ∧ J.2 ≤ n')) (hk : k < 10) :
    ∀ i j, i < 10 → j < 10 → i ≠ j → (putI I k J i).2 ≤ (putI I k J j).1 ∨ (putI I k J j).2 ≤ (putI I k J i).1 := fun i j hi hj hne => by
  have h1 := h i hi
  have h2 := h j hj
  have h3 := ha i j hi hj hne
  unfold putI
  split
  · split
    · omega
    · rcases hJ with rfl | hJ
      · rename_i e _; subst e; exact h3
      · omega
  · split
    · rcases hJ with rfl | hJ
      · rename_i e; subst e; exact h3
      · omega
    · exact h3
theorem StApart.withGs {B : Nat} {w w' : World} {I : Nat → Nat × Nat} {h : StH} {s : St} {S : Nat → Prop} (k : StApart B w I h s) (c : But S w w') (hs : ∀ b, B ≤ b → b < w.heap.size → S b → (I 1).1 ≤ b ∧ b < (I 1).2) {J : Nat × Nat} (hJ : J = I 1 ∨ (w.heap.size ≤ J.1 ∧ J.1 ≤ J.2 ∧ J.2 ≤ w'.heap.size)) {A : Option Addr} {cc : Nat} {l : List Gr} (hg : OwnRows 55 5 gL w' J.1 (.slice A l.length cc) l ∧ UnderB (.slice A l.length cc) J.2) : StApart B w' (putI I 1 J) { h with ga := A, gc := cc } { s with gs := l } := by
  have r := fun (i : Nat) (hi : i < 10) (h4 : i ≠ 1) (b : Nat) (h1 : (I i).1 ≤ b) (h2 : b < (I i).2) => show ¬ S b from fun hS => by
    have a1 := k.low i hi
    have a3 := hs b (by omega) (by omega) hS
    have a4 := k.apart i 1 hi (by omega) h4
    omega
  refine ⟨putI_low k.low c.size hJ (by omega), putI_apart k.low k.apart hJ (by omega), ?_, ?_, ?_, ?_, ?_, ?_, ?_, ?_, ?_, ?_⟩
  · exact k.prog.but c (r 0 (by omega) (by omega))
  · exact hg
  · exact ⟨k.ps.1.but c fun b hb => r 2 (by omega) (by omega) b (k.ps.1.lt b hb).1 (k.ps.2 b hb), k.ps.2⟩
  · exact ⟨k.ms.1.but c fun b hb => r 3 (by omega) (by omega) b (k.ms.1.lt b hb).1 (k.ms.2 b hb), k.ms.2⟩
  · exact ⟨k.glob.1.but c fun b hb => r 4 (by omega) (by omega) b (World.ownsRow.lt k.glob.1 b hb).1 (k.glob.2 b hb), k.glob.2⟩
  · exact ⟨k.w0.1.but c fun b hb => r 5 (by omega) (by omega) b (World.ownsRow.lt k.w0.1 b hb).1 (k.w0.2 b hb), k.w0.2⟩
  · exact ⟨k.w1.1.but c fun b hb => r 6 (by omega) (by omega) b (World.ownsRow.lt k.w1.1 b hb).1 (k.w1.2 b hb), k.w1.2⟩
  · exact ⟨k.w2.1.but c fun b hb => r 7 (by omega) (by omega) b (World.ownsRow.lt k.w2.1 b hb).1 (k.w2.2 b hb), k.w2.2⟩
  · exact ⟨k.w3.1.but c fun b hb => r 8 (by omega) (by omega) b (World.ownsRow.lt k.w3.1 b hb).1 (k.w3.2 b hb), k.w3.2⟩
  · exact ⟨OwnRows.but k.timers.1 c fun b hb => r 9 (by omega) (by omega) b (OwnRows.lt k.timers.1 b hb).1 (k.timers.2 b hb), k.timers.2⟩
theorem StApart.withPs {B : Nat} {w w' : World} {I : Nat → Nat × Nat} {h : StH} {s : St} {S : Nat → Prop} (k : StApart B w I h s) (c : But S w w') (hs : ∀ b, B ≤ b → b < w.heap.size → S b → (I 2).1 ≤ b ∧ b < (I 2).2) {J : Nat × Nat} (hJ : J = I 2 ∨ (w.heap.size ≤ J.1 ∧ J.1 ≤ J.2 ∧ J.2 ≤ w'.heap.size)) {A : Option Addr} {cc : Nat} {l : List Pr} (hg : OwnRows 40 13 pL w' J.1 (.slice A l.length cc) l ∧ UnderB (.slice A l.length cc) J.2) : StApart B w' (putI I 2 J) { h with qa := A, qc := cc } { s with ps := l } := by
  have r := fun (i : Nat) (hi : i < 10) (h4 : i ≠ 2) (b : Nat) (h1 : (I i).1 ≤ b) (h2 : b < (I i).2) => show ¬ S b from fun hS => by
    have a1 := k.low i hi
    have a3 := hs b (by omega) (by omega) hS
    have a4 := k.apart i 2 hi (by omega) h4
    omega
  refine ⟨putI_low k.low c.size hJ (by omega), putI_apart k.low k.apart hJ (by omega), ?_, ?_, ?_, ?_, ?_, ?_, ?_, ?_, ?_, ?_⟩
  · exact k.prog.but c (r 0 (by omega) (by omega))
  · exact ⟨k.gs.1.but c fun b hb => r 1 (by omega) (by omega) b (k.gs.1.lt b hb).1 (k.gs.2 b hb), k.gs.2⟩
  · exact hg
  · exact ⟨k.ms.1.but c fun b hb => r 3 (by omega) (by omega) b (k.ms.1.lt b hb).1 (k.ms.2 b hb), k.ms.2⟩
  · exact ⟨k.glob.1.but c fun b hb => r 4 (by omega) (by omega) b (World.ownsRow.lt k.glob.1 b hb).1 (k.glob.2 b hb), k.glob.2⟩
  · exact ⟨k.w0.1.but c fun b hb => r 5 (by omega) (by omega) b (World.ownsRow.lt k.w0.1 b hb).1 (k.w0.2 b hb), k.w0.2⟩
  · exact ⟨k.w1.1.but c fun b hb => r 6 (by omega) (by omega) b (World.ownsRow.lt k.w1.1 b hb).1 (k.w1.2 b hb), k.w1.2⟩
  · exact ⟨k.w2.1.but c fun b hb => r 7 (by omega) (by omega) b (World.ownsRow.lt k.w2.1 b hb).1 (k.w2.2 b hb), k.w2.2⟩
  · exact ⟨k.w3.1.but c fun b hb => r 8 (by omega) (by omega) b (World.ownsRow.lt k.w3.1 b hb).1 (k.w3.2 b hb), k.w3.2⟩
  · exact ⟨OwnRows.but k.timers.1 c fun b hb => r 9 (by omega) (by omega) b (OwnRows.lt k.timers.1 b hb).1 (k.timers.2 b hb), k.timers.2⟩
theorem StApart.withMs {B : Nat} {w w' : World} {I : Nat → Nat × Nat} {h : StH} {s : St} {S : Nat → Prop} (k : StApart B w I h s) (c : But S w w') (hs : ∀ b, B ≤ b → b < w.heap.size → S b → (I 3).1 ≤ b ∧ b < (I 3).2) {J : Nat × Nat} (hJ : J = I 3 ∨ (w.heap.size ≤ J.1 ∧ J.1 ≤ J.2 ∧ J.2 ≤ w'.heap.size)) {A : Option Addr} {cc : Nat} {l : List (Int × Int)} (hg : OwnRows 57 2 pairL w' J.1 (.slice A l.length cc) l ∧ UnderB (.slice A l.length cc) J.2) : StApart B w' (putI I 3 J) { h with ma := A, mc := cc } { s with ms := l } := by
  have r := fun (i : Nat) (hi : i < 10) (h4 : i ≠ 3) (b : Nat) (h1 : (I i).1 ≤ b) (h2 : b < (I i).2) => show ¬ S b from fun hS => by
    have a1 := k.low i hi
    have a3 := hs b (by omega) (by omega) hS
    have a4 := k.apart i 3 hi (by omega) h4
    omega
  refine ⟨putI_low k.low c.size hJ (by omega), putI_apart k.low k.apart hJ (by omega), ?_, ?_, ?_, ?_, ?_, ?_, ?_, ?_, ?_, ?_⟩
  · exact k.prog.but c (r 0 (by omega) (by omega))
  · exact ⟨k.gs.1.but c fun b hb => r 1 (by omega) (by omega) b (k.gs.1.lt b hb).1 (k.gs.2 b hb), k.gs.2⟩
  · exact ⟨k.ps.1.but c fun b hb => r 2 (by omega) (by omega) b (k.ps.1.lt b hb).1 (k.ps.2 b hb), k.ps.2⟩
  · exact hg
  · exact ⟨k.glob.1.but c fun b hb => r 4 (by omega) (by omega) b (World.ownsRow.lt k.glob.1 b hb).1 (k.glob.2 b hb), k.glob.2⟩
  · exact ⟨k.w0.1.but c fun b hb => r 5 (by omega) (by omega) b (World.ownsRow.lt k.w0.1 b hb).1 (k.w0.2 b hb), k.w0.2⟩
  · exact ⟨k.w1.1.but c fun b hb => r 6 (by omega) (by omega) b (World.ownsRow.lt k.w1.1 b hb).1 (k.w1.2 b hb), k.w1.2⟩
  · exact ⟨k.w2.1.but c fun b hb => r 7 (by omega) (by omega) b (World.ownsRow.lt k.w2.1 b hb).1 (k.w2.2 b hb), k.w2.2⟩
  · exact ⟨k.w3.1.but c fun b hb => r 8 (by omega) (by omega) b (World.ownsRow.lt k.w3.1 b hb).1 (k.w3.2 b hb), k.w3.2⟩
  · exact ⟨OwnRows.but k.timers.1 c fun b hb => r 9 (by omega) (by omega) b (OwnRows.lt k.timers.1 b hb).1 (k.timers.2 b hb), k.timers.2⟩
theorem StApart.withGlob {B : Nat} {w w' : World} {I : Nat → Nat × Nat} {h : StH} {s : St} {S : Nat → Prop} (k : StApart B w I h s) (c : But S w w') (hs : ∀ b, B ≤ b → b < w.heap.size → S b → (I 4).1 ≤ b ∧ b < (I 4).2) {J : Nat × Nat} (hJ : J = I 4 ∨ (w.heap.size ≤ J.1 ∧ J.1 ≤ J.2 ∧ J.2 ≤ w'.heap.size)) {A : Option Addr} {cc : Nat} {l : List Int} (hg : OwnInts w' J.1 (.slice A l.length cc) l ∧ UnderB (.slice A l.length cc) J.2) : StApart B w' (putI I 4 J) { h with la := A, lc := cc } { s with glob := l } := by
  have r := fun (i : Nat) (hi : i < 10) (h4 : i ≠ 4) (b : Nat) (h1 : (I i).1 ≤ b) (h2 : b < (I i).2) => show ¬ S b from fun hS => by
    have a1 := k.low i hi
    have a3 := hs b (by omega) (by omega) hS
    have a4 := k.apart i 4 hi (by omega) h4
    omega
  refine ⟨putI_low k.low c.size hJ (by omega), putI_apart k.low k.apart hJ (by omega), ?_, ?_, ?_, ?_, ?_, ?_, ?_, ?_, ?_, ?_⟩
  · exact k.prog.but c (r 0 (by omega) (by omega))
  · exact ⟨k.gs.1.but c fun b hb => r 1 (by omega) (by omega) b (k.gs.1.lt b hb).1 (k.gs.2 b hb), k.gs.2⟩
  · exact ⟨k.ps.1.but c fun b hb => r 2 (by omega) (by omega) b (k.ps.1.lt b hb).1 (k.ps.2 b hb), k.ps.2⟩
  · exact ⟨k.ms.1.but c fun b hb => r 3 (by omega) (by omega) b (k.ms.1.lt b hb).1 (k.ms.2 b hb), k.ms.2⟩
  · exact hg
  · exact ⟨k.w0.1.but c fun b hb => r 5 (by omega) (by omega) b (World.ownsRow.lt k.w0.1 b hb).1 (k.w0.2 b hb), k.w0.2⟩
  · exact ⟨k.w1.1.but c fun b hb => r 6 (by omega) (by omega) b (World.ownsRow.lt k.w1.1 b hb).1 (k.w1.2 b hb), k.w1.2⟩
  · exact ⟨k.w2.1.but c fun b hb => r 7 (by omega) (by omega) b (World.ownsRow.lt k.w2.1 b hb).1 (k.w2.2 b hb), k.w2.2⟩
  · exact ⟨k.w3.1.but c fun b hb => r 8 (by omega) (by omega) b (World.ownsRow.lt k.w3.1 b hb).1 (k.w3.2 b hb), k.w3.2⟩
  · exact ⟨OwnRows.but k.timers.1 c fun b hb => r 9 (by omega) (by omega) b (OwnRows.lt k.timers.1 b hb).1 (k.timers.2 b hb), k.timers.2⟩
theorem StApart.withW0 {B : Nat} {w w' : World} {I : Nat → Nat × Nat} {h : StH} {s : St} {S : Nat → Prop} (k : StApart B w I h s) (c : But S w w') (hs : ∀ b, B ≤ b → b < w.heap.size → S b → (I 5).1 ≤ b ∧ b < (I 5).2) {J : Nat × Nat} (hJ : J = I 5 ∨ (w.heap.size ≤ J.1 ∧ J.1 ≤ J.2 ∧ J.2 ≤ w'.heap.size)) {A : Option Addr} {cc : Nat} {l : List Int} (hg : OwnInts w' J.1 (.slice A l.length cc) l ∧ UnderB (.slice A l.length cc) J.2) : StApart B w' (putI I 5 J) { h with a0 := A, k0 := cc } { s with w0 := l } := by
  have r := fun (i : Nat) (hi : i < 10) (h4 : i ≠ 5) (b : Nat) (h1 : (I i).1 ≤ b) (h2 : b < (I i).2) => show ¬ S b from fun hS => by
    have a1 := k.low i hi
    have a3 := hs b (by omega) (by omega) hS
    have a4 := k.apart i 5 hi (by omega) h4
    omega
  refine ⟨putI_low k.low c.size hJ (by omega), putI_apart k.low k.apart hJ (by omega), ?_, ?_, ?_, ?_, ?_, ?_, ?_, ?_, ?_, ?_⟩
  · exact k.prog.but c (r 0 (by omega) (by omega))
  · exact ⟨k.gs.1.but c fun b hb => r 1 (by omega) (by omega) b (k.gs.1.lt b hb).1 (k.gs.2 b hb), k.gs.2⟩
  · exact ⟨k.ps.1.but c fun b hb => r 2 (by omega) (by omega) b (k.ps.1.lt b hb).1 (k.ps.2 b hb), k.ps.2⟩
  · exact ⟨k.ms.1.but c fun b hb => r 3 (by omega) (by omega) b (k.ms.1.lt b hb).1 (k.ms.2 b hb), k.ms.2⟩
  · exact ⟨k.glob.1.but c fun b hb => r 4 (by omega) (by omega) b (World.ownsRow.lt k.glob.1 b hb).1 (k.glob.2 b hb), k.glob.2⟩
  · exact hg
  · exact ⟨k.w1.1.but c fun b hb => r 6 (by omega) (by omega) b (World.ownsRow.lt k.w1.1 b hb).1 (k.w1.2 b hb), k.w1.2⟩
  · exact ⟨k.w2.1.but c fun b hb => r 7 (by omega) (by omega) b (World.ownsRow.lt k.w2.1 b hb).1 (k.w2.2 b hb), k.w2.2⟩
  · exact ⟨k.w3.1.but c fun b hb => r 8 (by omega) (by omega) b (World.ownsRow.lt k.w3.1 b hb).1 (k.w3.2 b hb), k.w3.2⟩
  · exact ⟨OwnRows.but k.timers.1 c fun b hb => r 9 (by omega) (by omega) b (OwnRows.lt k.timers.1 b hb).1 (k.timers.2 b hb), k.timers.2⟩
theorem StApart.withW1 {B : Nat} {w w' : World} {I : Nat → Nat × Nat} {h : StH} {s : St} {S : Nat → Prop} (k : StApart B w I h s) (c : But S w w') (hs : ∀ b, B ≤ b → b < w.heap.size → S b → (I 6).1 ≤ b ∧ b < (I 6).2) {J : Nat × Nat} (hJ : J = I 6 ∨ (w.heap.size ≤ J.1 ∧ J.1 ≤ J.2 ∧ J.2 ≤ w'.heap.size)) {A : Option Addr} {cc : Nat} {l : List Int} (hg : OwnInts w' J.1 (.slice A l.length cc) l ∧ UnderB (.slice A l.length cc) J.2) : StApart B w' (putI I 6 J) { h with a1 := A, k1 := cc } { s with w1 := l } := by
  have r := fun (i : Nat) (hi : i < 10) (h4 : i ≠ 6) (b : Nat) (h1 : (I i).1 ≤ b) (h2 : b < (I i).2) => show ¬ S b from fun hS => by
    have a1 := k.low i hi
    have a3 := hs b (by omega) (by omega) hS
    have a4 := k.apart i 6 hi (by omega) h4
    omega
  refine ⟨putI_low k.low c.size hJ (by omega), putI_apart k.low k.apart hJ (by omega), ?_, ?_, ?_, ?_, ?_, ?_, ?_, ?_, ?_, ?_⟩
  · exact k.prog.but c (r 0 (by omega) (by omega))
  · exact ⟨k.gs.1.but c fun b hb => r 1 (by omega) (by omega) b (k.gs.1.lt b hb).1 (k.gs.2 b hb), k.gs.2⟩
  · exact ⟨k.ps.1.but c fun b hb => r 2 (by omega) (by omega) b (k.ps.1.lt b hb).1 (k.ps.2 b hb), k.ps.2⟩
  · exact ⟨k.ms.1.but c fun b hb => r 3 (by omega) (by omega) b (k.ms.1.lt b hb).1 (k.ms.2 b hb), k.ms.2⟩
  · exact ⟨k.glob.1.but c fun b hb => r 4 (by omega) (by omega) b (World.ownsRow.lt k.glob.1 b hb).1 (k.glob.2 b hb), k.glob.2⟩
  · exact ⟨k.w0.1.but c fun b hb => r 5 (by omega) (by omega) b (World.ownsRow.lt k.w0.1 b hb).1 (k.w0.2 b hb), k.w0.2⟩
  · exact hg
  · exact ⟨k.w2.1.but c fun b hb => r 7 (by omega) (by omega) b (World.ownsRow.lt k.w2.1 b hb).1 (k.w2.2 b hb), k.w2.2⟩
  · exact ⟨k.w3.1.but c fun b hb => r 8 (by omega) (by omega) b (World.ownsRow.lt k.w3.1 b hb).1 (k.w3.2 b hb), k.w3.2⟩
  · exact ⟨OwnRows.but k.timers.1 c fun b hb => r 9 (by omega) (by omega) b (OwnRows.lt k.timers.1 b hb).1 (k.timers.2 b hb), k.timers.2⟩
theorem StApart.withW2 {B : Nat} {w w' : World} {I : Nat → Nat × Nat} {h : StH} {s : St} {S : Nat → Prop} (k : StApart B w I h s) (c : But S w w') (hs : ∀ b, B ≤ b → b < w.heap.size → S b → (I 7).1 ≤ b ∧ b < (I 7).2) {J : Nat × Nat} (hJ : J = I 7 ∨ (w.heap.size ≤ J.1 ∧ J.1 ≤ J.2 ∧ J.2 ≤ w'.heap.size)) {A : Option Addr} {cc : Nat} {l : List Int} (hg : OwnInts w' J.1 (.slice A l.length cc) l ∧ UnderB (.slice A l.length cc) J.2) : StApart B w' (putI I 7 J) { h with a2 := A, k2 := cc } { s with w2 := l } := by
  have r := fun (i : Nat) (hi : i < 10) (h4 : i ≠ 7) (b : Nat) (h1 : (I i).1 ≤ b) (h2 : b < (I i).2) => show ¬ S b from fun hS => by
    have a1 := k.low i hi
    have a3 := hs b (by omega) (by omega) hS
    have a4 := k.apart i 7 hi (by omega) h4
    omega
  refine ⟨putI_low k.low c.size hJ (by omega), putI_apart k.low k.apart hJ (by omega), ?_, ?_, ?_, ?_, ?_, ?_, ?_, ?_, ?_, ?_⟩
  · exact k.prog.but c (r 0 (by omega) (by omega))
  · exact ⟨k.gs.1.but c fun b hb => r 1 (by omega) (by omega) b (k.gs.1.lt b hb).1 (k.gs.2 b hb), k.gs.2⟩
  · exact ⟨k.ps.1.but c fun b hb => r 2 (by omega) (by omega) b (k.ps.1.lt b hb).1 (k.ps.2 b hb), k.ps.2⟩
  · exact ⟨k.ms.1.but c fun b hb => r 3 (by omega) (by omega) b (k.ms.1.lt b hb).1 (k.ms.2 b hb), k.ms.2⟩
  · exact ⟨k.glob.1.but c fun b hb => r 4 (by omega) (by omega) b (World.ownsRow.lt k.glob.1 b hb).1 (k.glob.2 b hb), k.glob.2⟩
  · exact ⟨k.w0.1.but c fun b hb => r 5 (by omega) (by omega) b (World.ownsRow.lt k.w0.1 b hb).1 (k.w0.2 b hb), k.w0.2⟩
  · exact ⟨k.w1.1.but c fun b hb => r 6 (by omega) (by omega) b (World.ownsRow.lt k.w1.1 b hb).1 (k.w1.2 b hb), k.w1.2⟩
  · exact hg
  · exact ⟨k.w3.1.but c fun b hb => r 8 (by omega) (by omega) b (World.ownsRow.lt k.w3.1 b hb).1 (k.w3.2 b hb), k.w3.2⟩
  · exact ⟨OwnRows.but k.timers.1 c fun b hb => r 9 (by omega) (by omega) b (OwnRows.lt k.timers.1 b hb).1 (k.timers.2 b hb), k.timers.2⟩
theorem StApart.withW3 {B : Nat} {w w' : World} {I : Nat → Nat × Nat} {h : StH} {s : St} {S : Nat → Prop} (k : StApart B w I h s) (c : But S w w') (hs : ∀ b, B ≤ b → b < w.heap.size → S b → (I 8).1 ≤ b ∧ b < (I 8).2) {J : Nat × Nat} (hJ : J = I 8 ∨ (w.heap.size ≤ J.1 ∧ J.1 ≤ J.2 ∧ J.2 ≤ w'.heap.size)) {A : Option Addr} {cc : Nat} {l : List Int} (hg : OwnInts w' J.1 (.slice A l.length cc) l ∧ UnderB (.slice A l.length cc) J.2) : StApart B w' (putI I 8 J) { h with a3 := A, k3 := cc } { s with w3 := l } := by
  have r := fun (i : Nat) (hi : i < 10) (h4 : i ≠ 8) (b : Nat) (h1 : (I i).1 ≤ b) (h2 : b < (I i).2) => show ¬ S b from fun hS => by
    have a1 := k.low i hi
    have a3 := hs b (by omega) (by omega) hS
    have a4 := k.apart i 8 hi (by omega) h4
    omega
  refine ⟨putI_low k.low c.size hJ (by omega), putI_apart k.low k.apart hJ (by omega), ?_, ?_, ?_, ?_, ?_, ?_, ?_, ?_, ?_, ?_⟩
  · exact k.prog.but c (r 0 (by omega) (by omega))
  · exact ⟨k.gs.1.but c fun b hb => r 1 (by omega) (by omega) b (k.gs.1.lt b hb).1 (k.gs.2 b hb), k.gs.2⟩
  · exact ⟨k.ps.1.but c fun b hb => r 2 (by omega) (by omega) b (k.ps.1.lt b hb).1 (k.ps.2 b hb), k.ps.2⟩
  · exact ⟨k.ms.1.but c fun b hb => r 3 (by omega) (by omega) b (k.ms.1.lt b hb).1 (k.ms.2 b hb), k.ms.2⟩
  · exact ⟨k.glob.1.but c fun b hb => r 4 (by omega) (by omega) b (World.ownsRow.lt k.glob.1 b hb).1 (k.glob.2 b hb), k.glob.2⟩
  · exact ⟨k.w0.1.but c fun b hb => r 5 (by omega) (by omega) b (World.ownsRow.lt k.w0.1 b hb).1 (k.w0.2 b hb), k.w0.2⟩
  · exact ⟨k.w1.1.but c fun b hb => r 6 (by omega) (by omega) b (World.ownsRow.lt k.w1.1 b hb).1 (k.w1.2 b hb), k.w1.2⟩
  · exact ⟨k.w2.1.but c fun b hb => r 7 (by omega) (by omega) b (World.ownsRow.lt k.w2.1 b hb).1 (k.w2.2 b hb), k.w2.2⟩
  · exact hg
  · exact ⟨OwnRows.but k.timers.1 c fun b hb => r 9 (by omega) (by omega) b (OwnRows.lt k.timers.1 b hb).1 (k.timers.2 b hb), k.timers.2⟩
theorem StApart.withTimers {B : Nat} {w w' : World} {I : Nat → Nat × Nat} {h : StH} {s : St} {S : Nat → Prop} (k : StApart B w I h s) (c : But S w w') (hs : ∀ b, B ≤ b → b < w.heap.size → S b → (I 9).1 ≤ b ∧ b < (I 9).2) {J : Nat × Nat} (hJ : J = I 9 ∨ (w.heap.size ≤ J.1 ∧ J.1 ≤ J.2 ∧ J.2 ≤ w'.heap.size)) {A : Option Addr} {cc : Nat} {l : List (Int × Int)} (hg : OwnTs w' J.1 (.slice A l.length cc) l ∧ UnderB (.slice A l.length cc) J.2) : StApart B w' (putI I 9 J) { h with ta := A, tc := cc } { s with timers := l } := by
  have r := fun (i : Nat) (hi : i < 10) (h4 : i ≠ 9) (b : Nat) (h1 : (I i).1 ≤ b) (h2 : b < (I i).2) => show ¬ S b from fun hS => by
    have a1 := k.low i hi
    have a3 := hs b (by omega) (by omega) hS
    have a4 := k.apart i 9 hi (by omega) h4
    omega
  refine ⟨putI_low k.low c.size hJ (by omega), putI_apart k.low k.apart hJ (by omega), ?_, ?_, ?_, ?_, ?_, ?_, ?_, ?_, ?_, ?_⟩
  · exact k.prog.but c (r 0 (by omega) (by omega))
  · exact ⟨k.gs.1.but c fun b hb => r 1 (by omega) (by omega) b (k.gs.1.lt b hb).1 (k.gs.2 b hb), k.gs.2⟩
  · exact ⟨k.ps.1.but c fun b hb => r 2 (by omega) (by omega) b (k.ps.1.lt b hb).1 (k.ps.2 b hb), k.ps.2⟩
  · exact ⟨k.ms.1.but c fun b hb => r 3 (by omega) (by omega) b (k.ms.1.lt b hb).1 (k.ms.2 b hb), k.ms.2⟩
  · exact ⟨k.glob.1.but c fun b hb => r 4 (by omega) (by omega) b (World.ownsRow.lt k.glob.1 b hb).1 (k.glob.2 b hb), k.glob.2⟩
  · exact ⟨k.w0.1.but c fun b hb => r 5 (by omega) (by omega) b (World.ownsRow.lt k.w0.1 b hb).1 (k.w0.2 b hb), k.w0.2⟩
  · exact ⟨k.w1.1.but c fun b hb => r 6 (by omega) (by omega) b (World.ownsRow.lt k.w1.1 b hb).1 (k.w1.2 b hb), k.w1.2⟩
  · exact ⟨k.w2.1.but c fun b hb => r 7 (by omega) (by omega) b (World.ownsRow.lt k.w2.1 b hb).1 (k.w2.2 b hb), k.w2.2⟩
  · exact ⟨k.w3.1.but c fun b hb => r 8 (by omega) (by omega) b (World.ownsRow.lt k.w3.1 b hb).1 (k.w3.2 b hb), k.w3.2⟩
  · exact hg
/-- A state one behind the other is one whose parts are apart. -/
theorem StOwn.apart {w : World} {B : Nat} {L : Nat → Nat} {h : StH} {s : St} (k : StOwn w L h s) (hB : B ≤ L 0) : StApart B w (fun i => (L i, L (i + 1))) h s := by
  have up : ∀ n, n ≤ 10 → ∀ i, i ≤ n → L i ≤ L n := fun n => by
    induction n with
    | zero => intro _ i hi; obtain rfl : i = 0 := by omega
              exact Nat.le_refl _
    | succ n ih =>
      intro hn i hi
      by_cases he : i = n + 1
      · subst he; exact Nat.le_refl _
      · exact Nat.le_trans (ih (by omega) i (by omega)) (k.mono n (by omega))
  have top := k.top
  refine ⟨fun i hi => ?_, fun i j hi hj hne => ?_, k.prog, k.gs, k.ps, k.ms, k.glob, k.w0, k.w1, k.w2, k.w3, k.timers⟩
  · have a1 := up i (by omega) 0 (by omega)
    have a2 := up (i + 1) (by omega) i (by omega)
    have a3 := up 10 (by omega) (i + 1) (by omega)
    simp only
    omega
  · simp only
    rcases Nat.lt_or_gt_of_ne hne with hl | hl
    · have := up j (by omega) (i + 1) (by omega); omega
    · have := up i (by omega) (j + 1) (by omega); omega
theorem StApart.lower {B B' : Nat} {w : World} {I : Nat → Nat × Nat} {h : StH} {s : St} (k : StApart B w I h s) (hB : B' ≤ B) : StApart B' w I h s :=
  ⟨fun i hi => ⟨Nat.le_trans hB (k.low i hi).1, (k.low i hi).2⟩, k.apart, k.prog, k.gs, k.ps, k.ms, k.glob, k.w0, k.w1, k.w2, k.w3, k.timers⟩
theorem StApart.far {B : Nat} {w w' : World} {I : Nat → Nat × Nat} {h : StH} {s : St} {S : Nat → Prop} (k : StApart B w I h s) (c : But S w w') (hs : ∀ b, S b → b < B ∨ w.heap.size ≤ b) : StApart B w' I h s :=
  k.but c (T := w.heap.size) (fun i hi => (k.low i hi).2.2) fun b h1 h2 h3 => by have := hs b h3; omega
theorem StApart.ext {B : Nat} {w w' : World} {I : Nat → Nat × Nat} {h : StH} {s : St} (k : StApart B w I h s) (c : Ext w w') : StApart B w' I h s := k.far (S := fun _ => False) (But.ext c) fun _ h => h.elim
theorem StApart.putI_same {B k : Nat} {w : World} {I : Nat → Nat × Nat} {h : StH} {s : St} (a : StApart B w (putI I k (I k)) h s) : StApart B w I h s := by
  have e : putI I k (I k) = I := funext fun i => by unfold putI; split; (· rename_i e; rw [e]); rfl
  rwa [e] at a
/-- A G, a P, an M stored in its place. -/
theorem StApart.setG {B : Nat} {w : World} {I : Nat → Nat × Nat} {h : StH} {s : St} (k : StApart B w I h s) {i : Nat} {x x' : Gr} (hi : s.gs[i]? = some x) {j : Nat} {ds : List Value} (hj : j + ds.length ≤ 5)
    (hx : ∀ t, t < 5 → (gL x')[t]? = if j ≤ t ∧ t < j + ds.length then ds[t - j]? else (gL x)[t]?) :
    ∃ g, h.ga = some ⟨g, 0, none⟩ ∧ B ≤ g ∧ g < w.heap.size ∧ w.there g (i * 5 + j) ds.length ∧ StApart B (w.setCells g (i * 5 + j) ds) I h { s with gs := s.gs.set i x' } ∧ Upd g w (w.setCells g (i * 5 + j) ds) := by
  obtain ⟨g, c, e, hob, hB, hlt, hth, ho, hu⟩ := OwnRows.setCells gL_len k.gs.1 hi hj hx
  have hl := (k.low 1 (by omega)).1
  have hgu := k.gs.2 g hob
  simp only [Value.slice.injEq, true_and] at e
  refine ⟨g, e.1, by omega, hlt, hth, ?_, hu⟩
  have := k.withGs (But.upd (S := fun b => b = g) hu rfl) (fun b _ _ hb => by subst hb; exact ⟨hB, hgu⟩) (.inl rfl) (A := h.ga) (cc := h.gc) (l := s.gs.set i x') (by rw [List.length_set]; exact ⟨ho, k.gs.2⟩)
  exact StApart.putI_same this
theorem StApart.setP {B : Nat} {w : World} {I : Nat → Nat × Nat} {h : StH} {s : St} (k : StApart B w I h s) {i : Nat} {x x' : Pr} (hi : s.ps[i]? = some x) {j : Nat} {ds : List Value} (hj : j + ds.length ≤ 13)
    (hx : ∀ t, t < 13 → (pL x')[t]? = if j ≤ t ∧ t < j + ds.length then ds[t - j]? else (pL x)[t]?) :
    ∃ g, h.qa = some ⟨g, 0, none⟩ ∧ B ≤ g ∧ g < w.heap.size ∧ w.there g (i * 13 + j) ds.length ∧ StApart B (w.setCells g (i * 13 + j) ds) I h { s with ps := s.ps.set i x' } ∧ Upd g w (w.setCells g (i * 13 + j) ds) := by
  obtain ⟨g, c, e, hob, hB, hlt, hth, ho, hu⟩ := OwnRows.setCells pL_len k.ps.1 hi hj hx
  have hl := (k.low 2 (by omega)).1
  have hgu := k.ps.2 g hob
  simp only [Value.slice.injEq, true_and] at e
  refine ⟨g, e.1, by omega, hlt, hth, ?_, hu⟩
  have := k.withPs (But.upd (S := fun b => b = g) hu rfl) (fun b _ _ hb => by subst hb; exact ⟨hB, hgu⟩) (.inl rfl) (A := h.qa) (cc := h.qc) (l := s.ps.set i x') (by rw [List.length_set]; exact ⟨ho, k.ps.2⟩)
  exact StApart.putI_same this
theorem StApart.setM {B : Nat} {w : World} {I : Nat → Nat × Nat} {h : StH} {s : St} (k : StApart B w I h s) {i : Nat} {x x' : Int × Int} (hi : s.ms[i]? = some x) {j : Nat} {ds : List Value} (hj : j + ds.length ≤ 2)
    (hx : ∀ t, t < 2 → (pairL x')[t]? = if j ≤ t ∧ t < j + ds.length then ds[t - j]? else (pairL x)[t]?) :
    ∃ g, h.ma = some ⟨g, 0, none⟩ ∧ B ≤ g ∧ g < w.heap.size ∧ w.there g (i * 2 + j) ds.length ∧ StApart B (w.setCells g (i * 2 + j) ds) I h { s with ms := s.ms.set i x' } ∧ Upd g w (w.setCells g (i * 2 + j) ds) := by
  obtain ⟨g, c, e, hob, hB, hlt, hth, ho, hu⟩ := OwnRows.setCells pairL_len k.ms.1 hi hj hx
  have hl := (k.low 3 (by omega)).1
  have hgu := k.ms.2 g hob
  simp only [Value.slice.injEq, true_and] at e
  refine ⟨g, e.1, by omega, hlt, hth, ?_, hu⟩
  have := k.withMs (But.upd (S := fun b => b = g) hu rfl) (fun b _ _ hb => by subst hb; exact ⟨hB, hgu⟩) (.inl rfl) (A := h.ma) (cc := h.mc) (l := s.ms.set i x') (by rw [List.length_set]; exact ⟨ho, k.ms.2⟩)
  exact StApart.putI_same this
/-- The global queue appended to: what ints_append gives. -/
theorem StApart.newGlob {B : Nat} {w w' : World} {I : Nat → Nat × Nat} {h : StH} {s : St} (k : StApart B w I h s) {A : Option Addr} {cc : Nat} {l : List Int} (ho : OwnInts w' (I 4).1 (.slice A l.length cc) l) (hn : (Value.slice A l.length cc).ownBlock = (Value.slice h.la s.glob.length h.lc).ownBlock ∨ ∀ b, (Value.slice A l.length cc).ownBlock = some b → w.heap.size ≤ b)
    (hc : But (fun b => (Value.slice h.la s.glob.length h.lc).ownBlock = some b) w w') : ∃ I', StApart B w' I' { h with la := A, lc := cc } { s with glob := l } := by
  have hs : ∀ b, B ≤ b → b < w.heap.size → (Value.slice h.la s.glob.length h.lc).ownBlock = some b → (I 4).1 ≤ b ∧ b < (I 4).2 := fun b _ _ hb => ⟨(World.ownsRow.lt k.glob.1 b hb).1, k.glob.2 b hb⟩
  rcases hn with hn | hn
  · exact ⟨_, k.withGlob hc hs (.inl rfl) ⟨ho, fun b hb => k.glob.2 b (hn ▸ hb)⟩⟩
  · refine ⟨_, k.withGlob hc hs (J := (w.heap.size, w'.heap.size)) (.inr ⟨Nat.le_refl _, hc.size, Nat.le_refl _⟩) ⟨?_, fun b hb => (World.ownsRow.lt ho b hb).2⟩⟩
    refine ⟨ho.1, ?_⟩
    rcases ho.2 with h1 | ⟨g, cap, cur, e, _, rest⟩
    · exact .inl h1
    · exact .inr ⟨g, cap, cur, e, hn g (by rw [e]; rfl), rest⟩
end Go.Proofs.Ytogcfndhcphpaaa
