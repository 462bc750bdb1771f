/-
  Several texts in one: Ub, Ud, Uc.
-/
import Derived.Test.YtogcfndhcphpaaaA20
import Derived.Test.YtogcfndhcphpaaaA02
import Derived.Test.YtogcfndhcphpaaaA06
/-
  A state in a box under way, with a result to be stored; what moves to run queues, as plain mathematics.
-/
set_option linter.unusedVariables false
set_option linter.unusedSimpArgs false
namespace Go.Proofs.Ytogcfndhcphpaaa
open Go.RowKit

theorem wpList_store_rowM {P : Program} {ops : Array Oper} {rest : List Oper} {op : Oper} {a : Act} {w : World} {Q : Exit → Act → World → Prop} (hgd : op.guard = none) (ty : TypeId) (x y : Operand) (ho : op.op = .store ty x y)
    (b o : Nat) (ds : List Value) (v : Value) (hx : a.eval x = .pointer (some ⟨b, o, none⟩)) (hy : a.eval y = v) (hv : v = .agg ds.toArray) (ht : w.there b o ds.length) (hi : (P.info? ty).map (·.size) = some ds.length) (h1 : ∀ u ∈ ds, u.oneCell' = true)
    {w' : World} (hw : w.setCells b o ds = w') (h : wpList P ops Q rest (a.put op.dst undef) w') : wpList P ops Q (op :: rest) a w := by
  subst hv hw
  exact wpList_store_mid hgd ty x y ho b o ds.toArray hx hy (by simpa using ht) (by simpa using hi) (all_oneCell_toArray h1) (by simpa using h)
/-- The state lies in box W0, its lists from B on in blocks of their own; box R is still nil. -/
structure Sit (w : World) (W0 R B : Nat) (v : World) (h : StH) (s : St) : Prop where
  box : v.heap[W0]? = some (.cells (stC h s) 32 (0, 0))
  res : v.heap[R]? = some (.cells #[.slice none 0 0, .slice none 0 0, .slice none 0 0, .slice none 0 0, .slice none 0 0, .int .i64 0, .int .i64 0, .int .i64 0, .int .i64 0, .slice none 0 0, .slice none 0 0, .slice none 0 0, .slice none 0 0, .slice none 0 0, .int .i64 0, .int .i64 0] 32 (0, 0))
  ap : ∃ I, StApart B v I h s
  ext : Ext w v
  lo : W0 < B ∧ R < B ∧ W0 ≠ R ∧ w.heap.size ≤ W0 ∧ w.heap.size ≤ R ∧ B ≤ v.heap.size
namespace Sit
variable {w v v' : World} {W0 R B : Nat} {h h' : StH} {s s' : St}
theorem more (k : Sit w W0 R B v h s) (hx : Ext v v') : Sit w W0 R B v' h s :=
  ⟨hx.blk k.box, hx.blk k.res, by obtain ⟨I, a⟩ := k.ap; exact ⟨I, a.ext hx⟩, k.ext.trans hx, by have := k.lo; have := hx.size; omega⟩
/-- A change of blocks from B on. -/
theorem turn (k : Sit w W0 R B v h s) {g : Nat} (hu : Upd g v v') (hg : B ≤ g) (ha : ∃ I, StApart B v' I h s') (e : stC h s' = stC h s) : Sit w W0 R B v' h s' := by
  have l := k.lo
  have hs := hu.size
  exact ⟨by rw [e]; exact (hu.block W0 (by omega) (fun e => by injection e; omega)).trans k.box, (hu.block R (by omega) (fun e => by injection e; omega)).trans k.res, ha, k.ext.upd hu (by omega), by omega⟩
theorem setP (k : Sit w W0 R B v h s) {i : Nat} {x x' : Pr} (hi : s.ps[i]? = some x) {j : Nat} {ds : List Value} (hj : j + ds.length ≤ 13) (hx : ∀ t, t < 13 → (pL x')[t]? = if j ≤ t ∧ t < j + ds.length then ds[t - j]? else (pL x)[t]?) :
    ∃ g, h.qa = some ⟨g, 0, none⟩ ∧ v.there g (i * 13 + j) ds.length ∧ Sit w W0 R B (v.setCells g (i * 13 + j) ds) h { s with ps := s.ps.set i x' } := by
  obtain ⟨I, a⟩ := k.ap
  obtain ⟨g, h1, h2, h3, h4, h5, h6⟩ := a.setP hi hj hx
  exact ⟨g, h1, h4, k.turn h6 h2 ⟨I, h5⟩ (by unfold stC; simp only [List.length_set])⟩
theorem setG (k : Sit w W0 R B v h s) {i : Nat} {x x' : Gr} (hi : s.gs[i]? = some x) {j : Nat} {ds : List Value} (hj : j + ds.length ≤ 5) (hx : ∀ t, t < 5 → (gL x')[t]? = if j ≤ t ∧ t < j + ds.length then ds[t - j]? else (gL x)[t]?) :
    ∃ g, h.ga = some ⟨g, 0, none⟩ ∧ v.there g (i * 5 + j) ds.length ∧ Sit w W0 R B (v.setCells g (i * 5 + j) ds) h { s with gs := s.gs.set i x' } := by
  obtain ⟨I, a⟩ := k.ap
  obtain ⟨g, h1, h2, h3, h4, h5, h6⟩ := a.setG hi hj hx
  exact ⟨g, h1, h4, k.turn h6 h2 ⟨I, h5⟩ (by unfold stC; simp only [List.length_set])⟩
theorem setM (k : Sit w W0 R B v h s) {i : Nat} {x x' : Int × Int} (hi : s.ms[i]? = some x) {j : Nat} {ds : List Value} (hj : j + ds.length ≤ 2) (hx : ∀ t, t < 2 → (pairL x')[t]? = if j ≤ t ∧ t < j + ds.length then ds[t - j]? else (pairL x)[t]?) :
    ∃ g, h.ma = some ⟨g, 0, none⟩ ∧ v.there g (i * 2 + j) ds.length ∧ Sit w W0 R B (v.setCells g (i * 2 + j) ds) h { s with ms := s.ms.set i x' } := by
  obtain ⟨I, a⟩ := k.ap
  obtain ⟨g, h1, h2, h3, h4, h5, h6⟩ := a.setM hi hj hx
  exact ⟨g, h1, h4, k.turn h6 h2 ⟨I, h5⟩ (by unfold stC; simp only [List.length_set])⟩
theorem getP (k : Sit w W0 R B v h s) {i : Nat} {x : Pr} (hi : s.ps[i]? = some x) : ∃ g, h.qa = some ⟨g, 0, none⟩ ∧ B ≤ g ∧ v.rangeAt g (i * 13) (pL x) := by
  obtain ⟨I, a⟩ := k.ap
  obtain ⟨g, h1, h2, h3, h4, h5, h6⟩ := a.setP hi (j := 0) (ds := []) (by simp) (fun t _ => by rw [if_neg (by simp)])
  obtain ⟨b, o, e, hb, hc⟩ := (OwnRows.rows pL_len a.ps.1).get hi
  rw [h1] at e
  simp only [Option.some.injEq, Addr.mk.injEq, and_true] at e
  obtain ⟨rfl, rfl⟩ := e
  exact ⟨g, h1, h2, fun j u hu => by rw [← Nat.zero_add (i * 13)]; exact hc j u hu⟩
theorem getG (k : Sit w W0 R B v h s) {i : Nat} {x : Gr} (hi : s.gs[i]? = some x) : ∃ g, h.ga = some ⟨g, 0, none⟩ ∧ B ≤ g ∧ v.rangeAt g (i * 5) (gL x) := by
  obtain ⟨I, a⟩ := k.ap
  obtain ⟨g, h1, h2, h3, h4, h5, h6⟩ := a.setG hi (j := 0) (ds := []) (by simp) (fun t _ => by rw [if_neg (by simp)])
  obtain ⟨b, o, e, hb, hc⟩ := (OwnRows.rows gL_len a.gs.1).get hi
  rw [h1] at e
  simp only [Option.some.injEq, Addr.mk.injEq, and_true] at e
  obtain ⟨rfl, rfl⟩ := e
  exact ⟨g, h1, h2, fun j u hu => by rw [← Nat.zero_add (i * 5)]; exact hc j u hu⟩
theorem getM (k : Sit w W0 R B v h s) {i : Nat} {x : Int × Int} (hi : s.ms[i]? = some x) : ∃ g, h.ma = some ⟨g, 0, none⟩ ∧ B ≤ g ∧ v.rangeAt g (i * 2) (pairL x) := by
  obtain ⟨I, a⟩ := k.ap
  obtain ⟨g, h1, h2, h3, h4, h5, h6⟩ := a.setM hi (j := 0) (ds := []) (by simp) (fun t _ => by rw [if_neg (by simp)])
  obtain ⟨b, o, e, hb, hc⟩ := (OwnRows.rows pairL_len a.ms.1).get hi
  rw [h1] at e
  simp only [Option.some.injEq, Addr.mk.injEq, and_true] at e
  obtain ⟨rfl, rfl⟩ := e
  exact ⟨g, h1, h2, fun j u hu => by rw [← Nat.zero_add (i * 2)]; exact hc j u hu⟩
theorem getP' (k : Sit w W0 R B v h s) {i : Nat} {x : Pr} (hi : s.ps[i]? = some x) {g : Nat} (hg : h.qa = some ⟨g, 0, none⟩) : v.rangeAt g (i * 13) (pL x) := by
  obtain ⟨g', h1, _, h2⟩ := k.getP hi
  rw [hg] at h1
  simp only [Option.some.injEq, Addr.mk.injEq, and_true] at h1
  subst h1
  exact h2
theorem setP' (k : Sit w W0 R B v h s) {i : Nat} {x x' : Pr} (hi : s.ps[i]? = some x) {g : Nat} (hg : h.qa = some ⟨g, 0, none⟩) {j : Nat} {ds : List Value} (hj : j + ds.length ≤ 13) (hx : ∀ t, t < 13 → (pL x')[t]? = if j ≤ t ∧ t < j + ds.length then ds[t - j]? else (pL x)[t]?) :
    v.there g (i * 13 + j) ds.length ∧ Sit w W0 R B (v.setCells g (i * 13 + j) ds) h { s with ps := s.ps.set i x' } := by
  obtain ⟨g', h1, h2⟩ := k.setP hi hj hx
  rw [hg] at h1
  simp only [Option.some.injEq, Addr.mk.injEq, and_true] at h1
  subst h1
  exact h2
theorem setG' (k : Sit w W0 R B v h s) {i : Nat} {x x' : Gr} (hi : s.gs[i]? = some x) {g : Nat} (hg : h.ga = some ⟨g, 0, none⟩) {j : Nat} {ds : List Value} (hj : j + ds.length ≤ 5) (hx : ∀ t, t < 5 → (gL x')[t]? = if j ≤ t ∧ t < j + ds.length then ds[t - j]? else (gL x)[t]?) :
    v.there g (i * 5 + j) ds.length ∧ Sit w W0 R B (v.setCells g (i * 5 + j) ds) h { s with gs := s.gs.set i x' } := by
  obtain ⟨g', h1, h2⟩ := k.setG hi hj hx
  rw [hg] at h1
  simp only [Option.some.injEq, Addr.mk.injEq, and_true] at h1
  subst h1
  exact h2
theorem setM' (k : Sit w W0 R B v h s) {i : Nat} {x x' : Int × Int} (hi : s.ms[i]? = some x) {g : Nat} (hg : h.ma = some ⟨g, 0, none⟩) {j : Nat} {ds : List Value} (hj : j + ds.length ≤ 2) (hx : ∀ t, t < 2 → (pairL x')[t]? = if j ≤ t ∧ t < j + ds.length then ds[t - j]? else (pairL x)[t]?) :
    v.there g (i * 2 + j) ds.length ∧ Sit w W0 R B (v.setCells g (i * 2 + j) ds) h { s with ms := s.ms.set i x' } := by
  obtain ⟨g', h1, h2⟩ := k.setM hi hj hx
  rw [hg] at h1
  simp only [Option.some.injEq, Addr.mk.injEq, and_true] at h1
  subst h1
  exact h2
theorem ltP (k : Sit w W0 R B v h s) {i : Nat} {x : Pr} (hi : s.ps[i]? = some x) {g : Nat} (hg : h.qa = some ⟨g, 0, none⟩) : g < v.heap.size := by
  obtain ⟨I, a⟩ := k.ap
  obtain ⟨g', h1, h2, h3, _⟩ := a.setP hi (j := 0) (ds := []) (by simp) (fun t _ => by rw [if_neg (by simp)])
  rw [hg] at h1
  simp only [Option.some.injEq, Addr.mk.injEq, and_true] at h1
  subst h1
  exact h3
theorem there (k : Sit w W0 R B v h s) : v.there R 0 (stL h' s').length := there_row k.res (Nat.le_refl 16)
/-- What is stored as the result. -/
theorem fin (k : Sit w W0 R B v h s) : (v.setCells R 0 (stL h s)).heap[R]? = some (.cells (stL h s).toArray 32 (0, 0)) ∧ (∃ I, StApart w.heap.size (v.setCells R 0 (stL h s)) I h s) ∧ Ext w (v.setCells R 0 (stL h s)) := by
  have hu := setCells_upd R (stL h s) v 0
  have l := k.lo
  obtain ⟨I, a⟩ := k.ap
  exact ⟨setCells_at [.slice none 0 0, .slice none 0 0, .slice none 0 0, .slice none 0 0, .slice none 0 0, .int .i64 0, .int .i64 0, .int .i64 0, .int .i64 0, .slice none 0 0, .slice none 0 0, .slice none 0 0, .slice none 0 0, .slice none 0 0, .int .i64 0, .int .i64 0] (stL h s) rfl k.res,
    ⟨I, (a.far (But.upd (S := fun b => b = R) hu rfl) (fun b hb => by omega)).lower (by omega)⟩, k.ext.upd hu (by omega)⟩
/-- The box is stored anew, whole: a copy. -/
theorem start {v0 : World} {c : World} {I : Nat → Nat × Nat} (hB : B = v0.heap.size) (hx0 : Ext w v0) (hb : v0.heap[W0]? = some (.cells (stC h s) 32 (0, 0))) (hr : v0.heap[R]? = some (.cells #[.slice none 0 0, .slice none 0 0, .slice none 0 0, .slice none 0 0, .slice none 0 0, .int .i64 0, .int .i64 0, .int .i64 0, .int .i64 0, .slice none 0 0, .slice none 0 0, .slice none 0 0, .slice none 0 0, .slice none 0 0, .int .i64 0, .int .i64 0] 32 (0, 0))) (hx : Ext v0 c) (ha : StApart B c I h' s') (h1 : W0 ≠ R) (h2 : w.heap.size ≤ W0) (h3 : w.heap.size ≤ R) :
    c.there W0 0 (stL h' s').length ∧ Sit w W0 R B (c.setCells W0 0 (stL h' s')) h' s' := by
  have hbc := hx.blk hb
  have hu := setCells_upd W0 (stL h' s') c 0
  have l1 := blk_lt hb
  have l2 := blk_lt hr
  have l3 := hx.size
  have l4 := hu.size
  exact ⟨there_row hbc (Nat.le_refl 16), setCells_at (stL h s) (stL h' s') rfl hbc, (hu.block R (by omega) (fun e => by injection e; omega)).trans (hx.blk hr), ⟨I, ha.far (But.upd (S := fun b => b = W0) hu rfl) (fun b hb => by omega)⟩, (hx0.trans hx).upd hu h2, by omega⟩
/-- The global queue appended to, then stored into the box. -/
theorem glob {c : World} {A : Option Addr} {cc n : Nat} {l : List Int} {I : Nat → Nat × Nat} (k : Sit w W0 R B v h s) (a : StApart B v I h s) (hn : n = l.length) (ho : OwnInts c (I 4).1 (.slice A n cc) l) (hb : (Value.slice A n cc).ownBlock = (Value.slice h.la s.glob.length h.lc).ownBlock ∨ ∀ b, (Value.slice A n cc).ownBlock = some b → v.heap.size ≤ b)
    (hc : But (fun b => (Value.slice h.la s.glob.length h.lc).ownBlock = some b) v c) : c.cell? ⟨W0, 4, none⟩ = some (.slice h.la s.glob.length h.lc) ∧ c.frozen? ⟨W0, 4, none⟩ = false ∧ Sit w W0 R B (c.setCell ⟨W0, 4, none⟩ (.slice A n cc)) { h with la := A, lc := cc } { s with glob := l } := by
  subst hn
  have kl := k.lo
  have hlow := a.low 4 (by omega)
  have hS : ∀ b, (Value.slice h.la s.glob.length h.lc).ownBlock = some b → B ≤ b := fun b hb => by have := (World.ownsRow.lt a.glob.1 b hb).1; omega
  have b1 := hc.blk k.box (fun e => by have := hS _ e; omega)
  have b2 := hc.blk k.res (fun e => by have := hS _ e; omega)
  obtain ⟨I', a'⟩ := a.newGlob ho hb hc
  have hu := (Upd.refl W0 c).set 4 (.slice A l.length cc)
  have hcs := hc.size
  exact ⟨st4 b1, frozen_of_row _ _ 4 _ _ b1, blk_set b1 4 _, blk_set_other b2 _ (by simp only; omega) _, ⟨I', a'.far (But.upd (S := fun b => b = W0) hu rfl) (fun b hb => by omega)⟩, (But.after k.ext hc (fun b hb => by have := hS b hb; omega)).upd hu (by omega), by have := hu.size; omega⟩
end Sit
/-- A list grown out of u0, one append behind the other, from world v on. -/
structure GlobQ (B4 : Nat) (v : World) (u0 : Value) (c : World) (u : Value) (l : List Int) : Prop where
  own : OwnInts c B4 u l
  blk : u.ownBlock = u0.ownBlock ∨ ∀ b, u.ownBlock = some b → v.heap.size ≤ b
  but : But (fun b => u0.ownBlock = some b) v c
theorem GlobQ.start {B4 : Nat} {v : World} {u0 : Value} {l : List Int} (h : OwnInts v B4 u0 l) : GlobQ B4 v u0 v u0 l := ⟨h, .inl rfl, But.refl _ _⟩
theorem GlobQ.ext {B4 : Nat} {v c c' : World} {u0 u : Value} {l : List Int} (k : GlobQ B4 v u0 c u l) (hx : Ext c c') : GlobQ B4 v u0 c' u l := ⟨k.own.ext hx, k.blk, k.but.trans (But.ext hx)⟩
theorem GlobQ.more {B4 n k0 c0 : Nat} {v c : World} {u0 u : Value} {l m : List Int} {A0 : Option Addr} (k : GlobQ B4 v u0 c u l) (hn : n = l.length) (hk : k0 = m.length) (hv : IntsAt c (.slice A0 k0 c0) m) (hB : B4 ≤ v.heap.size) (hl : l.length + m.length ≤ 100000000) :
    ∃ A cc c', (Builtin.append_ #[27, 27] 27 #[u, .slice A0 k0 c0]).run Try.prog c = .ok (.slice A (n + k0) cc) c' ∧ GlobQ B4 v u0 c' (.slice A (n + k0) cc) (l ++ m) := by
  subst hn hk
  have hcs := k.but.size
  obtain ⟨u', c', hr, ho, hg, hb⟩ := OwnInts.append2 27 k.own hv hl (by omega)
  obtain ⟨A, cc, hu⟩ := ho.form
  rw [List.length_append] at hu
  subst hu
  refine ⟨A, cc, c', hr, ⟨ho, ?_, hg.os.trans k.but.os, hg.tape.trans k.but.tape, hg.output.trans k.but.output, Nat.le_trans hcs hg.size, fun i hi hn => (hg.block i (by omega) fun e => ?_).trans (k.but.block i hi hn)⟩⟩
  · rcases hb with hb | hb
    · rcases k.blk with h1 | h1
      · exact .inl (hb.trans h1)
      · exact .inr fun b e => h1 b (hb.symm.trans e)
    · exact .inr fun b e => by have := Option.some.inj (hb.symm.trans e); omega
  · rcases k.blk with h1 | h1
    · exact hn (h1.symm.trans e.symm)
    · have := h1 i e.symm; omega
theorem Sit.globQ {w v c : World} {W0 R B n cc : Nat} {h : StH} {s : St} {I : Nat → Nat × Nat} {A : Option Addr} {l : List Int} (k : Sit w W0 R B v h s) (a : StApart B v I h s) (q : GlobQ (I 4).1 v (.slice h.la s.glob.length h.lc) c (.slice A n cc) l) (hn : n = l.length) :
    c.cell? ⟨W0, 4, none⟩ = some (.slice h.la s.glob.length h.lc) ∧ c.frozen? ⟨W0, 4, none⟩ = false ∧ Sit w W0 R B (c.setCell ⟨W0, 4, none⟩ (.slice A n cc)) { h with la := A, lc := cc } { s with glob := l } := k.glob a hn q.own q.blk q.but
namespace St
def pAt (s : St) (p : Int) : Pr := s.ps.getD (p - 1).toNat nilP
def gAt (s : St) (n : Int) : Gr := s.gs.getD (n - 1).toNat nilG
def mAt (s : St) (n : Int) : Int × Int := s.ms.getD (n - 1).toNat (0, 0)
def putP (s : St) (p : Int) (x : Pr) : St := { s with ps := s.ps.set (p - 1).toNat x }
def putM (s : St) (p : Int) (x : Int × Int) : St := { s with ms := s.ms.set (p - 1).toNat x }
/-- A G laid behind a P's ring. -/
def tail (s : St) (p g : Int) : St :=
  if 1 ≤ p ∧ p ≤ s.ps.length ∧ 1 ≤ g ∧ (s.pAt p).ring.may = true then
    if ((s.pAt p).ring.push g).2 = true then s.putP p { s.pAt p with ring := ((s.pAt p).ring.push g).1 }
    else { s.putP p { s.pAt p with ring := (s.pAt p).ring.half.1 } with glob := s.glob ++ (s.pAt p).ring.half.2 ++ [g] }
  else s
def turn (s : St) (n st m : Int) : St := { s with gs := s.gs.set (n - 1).toNat { s.gAt n with st := st, m := m, seq := (s.gAt n).seq + 1 } }
/-- A state in which a G waits no more. -/
def out (s : St) (g : Int) : St := { s with w0 := s.w0.filter (· != g), w1 := s.w1.filter (· != g), w2 := s.w2.filter (· != g), w3 := s.w3.filter (· != g), timers := s.timers.filter (·.2 != g) }
def next (s : St) (p g : Int) : St := (s.putP p { s.pAt p with next := g }).tail p (s.pAt p).next
def wake (s : St) (p g : Int) : St × Int := if s.may = true ∧ (1 ≤ p ∧ p ≤ s.procs) ∧ (1 ≤ g ∧ g ≤ s.gs.length) ∧ (s.gAt g).st = 3 then (((s.out g).turn g 1 0).next p g, 0) else (St.nil, 1)
def yield (s : St) (m : Int) : St × Int := if s.may = true ∧ (1 ≤ m ∧ m ≤ s.ms.length) ∧ (s.mAt m).1 ≠ 0 ∧ (s.mAt m).2 ≠ 0 then ({ (s.putM m ((s.mAt m).1, 0)).turn (s.mAt m).2 1 0 with glob := s.glob ++ [(s.mAt m).2] }, 0) else (St.nil, 1)
def drain (s : St) (p : Int) : St × Int := if s.may = true ∧ (1 ≤ p ∧ p ≤ s.procs) then ({ s.putP p { s.pAt p with next := 0, ring := Ri.zero } with glob := s.glob ++ queueOf (s.pAt p) }, 0) else (St.nil, 1)
theorem pAt_of {s : St} {i : Nat} {x : Pr} (hi : s.ps[i]? = some x) : s.pAt ((i : Int) + 1) = x := by
  unfold pAt
  rw [show ((i : Int) + 1 - 1).toNat = i by omega, List.getD, hi]
  rfl
theorem gAt_of {s : St} {i : Nat} {x : Gr} (hi : s.gs[i]? = some x) : s.gAt ((i : Int) + 1) = x := by
  unfold gAt
  rw [show ((i : Int) + 1 - 1).toNat = i by omega, List.getD, hi]
  rfl
theorem mAt_of {s : St} {i : Nat} {x : Int × Int} (hi : s.ms[i]? = some x) : s.mAt ((i : Int) + 1) = x := by
  unfold mAt
  rw [show ((i : Int) + 1 - 1).toNat = i by omega, List.getD, hi]
  rfl
theorem putP_of {s : St} {i : Nat} {x : Pr} : s.putP ((i : Int) + 1) x = { s with ps := s.ps.set i x } := by
  unfold putP
  rw [show ((i : Int) + 1 - 1).toNat = i by omega]
theorem putM_of {s : St} {i : Nat} {x : Int × Int} : s.putM ((i : Int) + 1) x = { s with ms := s.ms.set i x } := by
  unfold putM
  rw [show ((i : Int) + 1 - 1).toNat = i by omega]
theorem tail_no {s : St} {p g : Int} (h : ¬ (1 ≤ p ∧ p ≤ s.ps.length ∧ 1 ≤ g ∧ (s.pAt p).ring.may = true)) : s.tail p g = s := if_neg h
theorem tail_push {s : St} {i : Nat} {x : Pr} {g : Int} {r : Ri} (hi : s.ps[i]? = some x) (hg : 1 ≤ g) (hm : x.ring.may = true) (hr : x.ring.push g = (r, true)) : s.tail ((i : Int) + 1) g = { s with ps := s.ps.set i { x with ring := r } } := by
  have hl := (List.getElem?_eq_some_iff.1 hi).1
  unfold tail
  rw [pAt_of hi, if_pos ⟨by omega, by omega, hg, hm⟩, hr, if_pos rfl, putP_of]
theorem tail_half {s : St} {i : Nat} {x : Pr} {g : Int} {r r' : Ri} {o : List Int} (hi : s.ps[i]? = some x) (hg : 1 ≤ g) (hm : x.ring.may = true) (hr : x.ring.push g = (r', false)) (hh : x.ring.half = (r, o)) : s.tail ((i : Int) + 1) g = { s with ps := s.ps.set i { x with ring := r }, glob := s.glob ++ o ++ [g] } := by
  have hl := (List.getElem?_eq_some_iff.1 hi).1
  unfold tail
  rw [pAt_of hi, if_pos ⟨by omega, by omega, hg, hm⟩, hr, if_neg (by simp), putP_of, hh]
end St
end Go.Proofs.Ytogcfndhcphpaaa
/-
  The contract of ring.Half: the half's list is new.
-/
set_option linter.unusedVariables false
set_option linter.unusedSimpArgs false
namespace Go.Proofs.Ytogcfndhcphpaaa
open Go.RowKit
set_option maxRecDepth 100000 in
set_option maxHeartbeats 6000000 in
theorem rhalf_own_in (b0 b1 b2 b3 b4 b5 b6 b7 : Int) (hd nn : Nat) (hhd : hd < 8) (hnn : nn ≤ 8) (hm : Ri.may ⟨[b0, b1, b2, b3, b4, b5, b6, b7], hd, nn⟩ = true) (e0 e1 e2 e3 e4 e5 e6 e7 eh en : Int) (o : List Int) (h : Ri.takes ((nn + 1) / 2) ⟨[b0, b1, b2, b3, b4, b5, b6, b7], hd, nn⟩ [] = (⟨[e0, e1, e2, e3, e4, e5, e6, e7], eh, en⟩, o)) (w : World) :
    Calls Try.prog 69 #[.agg #[.int .i64 b0, .int .i64 b1, .int .i64 b2, .int .i64 b3, .int .i64 b4, .int .i64 b5, .int .i64 b6, .int .i64 b7, .int .i64 (hd : Int), .int .i64 (nn : Int)]] w fun e w' => ∃ A c, e = .returned (.tuple #[.agg #[.int .i64 e0, .int .i64 e1, .int .i64 e2, .int .i64 e3, .int .i64 e4, .int .i64 e5, .int .i64 e6, .int .i64 e7, .int .i64 eh, .int .i64 en], .slice A o.length c]) ∧ OwnInts w' w.heap.size (.slice A o.length c) o ∧ Ext w w' := by
  have HM := Lib.hid hm
  have H := Lib.hid h
  clear hm h
  have f1 : IntKind.i64.wrap ((nn : Int) + 1) = ((nn + 1 : Nat) : Int) := IntWalk.i64_in _ (by omega)
  have f2 : ((nn + 1 : Nat) : Int).tdiv 2 = (((nn + 1) / 2 : Nat) : Int) := by rw [Int.tdiv_eq_ediv_of_nonneg (by omega)]; omega
  have f3 : IntKind.i64.wrap (((nn + 1) / 2 : Nat) : Int) = (((nn + 1) / 2 : Nat) : Int) := IntWalk.i64_in _ (by omega)
  go_enter Try.func69, Try.ntmps69
  go_wp2_with fail
  refine (rmay_eq b0 b1 b2 b3 b4 b5 b6 b7 hd nn _ HM.out _).mono ?_
  rintro r w1 ⟨rfl, hx1⟩
  have HX := Lib.hid ((((Ext.refl w).alloc (.cells #[.int .i64 b0, .int .i64 b1, .int .i64 b2, .int .i64 b3, .int .i64 b4, .int .i64 b5, .int .i64 b6, .int .i64 b7, .int .i64 (hd : Int), .int .i64 (nn : Int)] 38)).alloc (.cells #[.int .i64 0, .int .i64 0, .int .i64 0, .int .i64 0, .int .i64 0, .int .i64 0, .int .i64 0, .int .i64 0, .int .i64 0, .int .i64 0] 38)).trans hx1)
  have HB := Lib.hid (hx1.blk (blk_alloc (blk_new w (.cells #[.int .i64 b0, .int .i64 b1, .int .i64 b2, .int .i64 b3, .int .i64 b4, .int .i64 b5, .int .i64 b6, .int .i64 b7, .int .i64 (hd : Int), .int .i64 (nn : Int)] 38)) (.cells #[.int .i64 0, .int .i64 0, .int .i64 0, .int .i64 0, .int .i64 0, .int .i64 0, .int .i64 0, .int .i64 0, .int .i64 0, .int .i64 0] 38)))
  have HZ : Hid (w1.heap[w.heap.size + 1]? = some (.cells #[.int .i64 0, .int .i64 0, .int .i64 0, .int .i64 0, .int .i64 0, .int .i64 0, .int .i64 0, .int .i64 0, .int .i64 0, .int .i64 0] 38 (0, 0))) := Lib.hid (hx1.blk (by have := blk_new (w.alloc (.cells #[.int .i64 b0, .int .i64 b1, .int .i64 b2, .int .i64 b3, .int .i64 b4, .int .i64 b5, .int .i64 b6, .int .i64 b7, .int .i64 (hd : Int), .int .i64 (nn : Int)] 38)) (.cells #[.int .i64 0, .int .i64 0, .int .i64 0, .int .i64 0, .int .i64 0, .int .i64 0, .int .i64 0, .int .i64 0, .int .i64 0, .int .i64 0] 38); rwa [World.size_alloc] at this))
  have hsz := hx1.size
  rw [World.size_alloc, World.size_alloc] at hsz
  have p9 := blk_cell HB.out 9 (.int .i64 (nn : Int)) rfl
  clear hx1
  generalize hK : (nn + 1) / 2 = K at *
  go_wp2
  clear p9 f1 f2 f3
  have hK4 : K ≤ 4 := by omega
  go_loopw [4, 16] (fun ov iv wr => ∃ (u : Value) (j : Nat) (c0 c1 c2 c3 c4 c5 c6 c7 ch cn : Int) (l : List Int), u = ov ∧ j ≤ K ∧ iv = .int .i64 j ∧ l.length = j ∧ Ri.takes K ⟨[b0, b1, b2, b3, b4, b5, b6, b7], hd, nn⟩ [] = Ri.takes (K - j) ⟨[c0, c1, c2, c3, c4, c5, c6, c7], ch, cn⟩ l ∧ OwnInts wr (w.heap.size + 2) u l ∧ wr.heap[(w.heap.size + 1)]? = some (.cells #[.int .i64 0, .int .i64 0, .int .i64 0, .int .i64 0, .int .i64 0, .int .i64 0, .int .i64 0, .int .i64 0, .int .i64 0, .int .i64 0] 38 (0, 0)) ∧ wr.heap[w.heap.size]? = some (.cells #[.int .i64 c0, .int .i64 c1, .int .i64 c2, .int .i64 c3, .int .i64 c4, .int .i64 c5, .int .i64 c6, .int .i64 c7, .int .i64 ch, .int .i64 cn] 38 (0, 0)) ∧ Ext w wr ∧ w.heap.size + 2 ≤ wr.heap.size) (fun _ iv _ => K - (intOf iv).toNat)
  case atStart => exact ⟨_, 0, b0, b1, b2, b3, b4, b5, b6, b7, hd, nn, [], rfl, by omega, rfl, rfl, rfl, OwnInts.nil _ _, HZ.out, HB.out, HX.out, hsz⟩
  case round =>
    obtain ⟨u, j, c0, c1, c2, c3, c4, c5, c6, c7, ch, cn, l, hu, hj, rfl, hll, hs, hown, hb1, hb0, hx, hsz⟩ := hrel
    subst hu
    have HS := Lib.hid hs
    have HOWN := Lib.hid hown
    have HLL := Lib.hid hll
    have HZB := Lib.hid hb1
    have HB0 := Lib.hid hb0
    have HX := Lib.hid hx
    obtain ⟨A0, a0, rfl⟩ := OwnInts.form HOWN.out
    clear hs hown hb0 hb1 hx hll
    by_cases hlt : j < K
    · obtain ⟨d0, d1, d2, d3, d4, d5, d6, d7, hds⟩ := list8 (Ri.pop_len (r := ⟨[c0, c1, c2, c3, c4, c5, c6, c7], ch, cn⟩) rfl)
      rcases hp : Ri.pop ⟨[c0, c1, c2, c3, c4, c5, c6, c7], ch, cn⟩ with ⟨⟨ds, dh, dn⟩, x, k⟩
      rw [hp] at hds
      simp only at hds
      subst hds
      have HP := Lib.hid hp
      have hofs := HS.out
      rw [show K - j = (K - (j + 1)) + 1 by omega] at hofs
      simp only [Ri.takes, hp] at hofs
      have HO := Lib.hid hofs
      clear hp hofs HS
      obtain ⟨⟨q0, q1, q2, q3, q4⟩, q5, q6, q7, q8, q9⟩ := cells10 HB0.out
      go_wp2_with fail
      refine (rpop_k c0 c1 c2 c3 c4 c5 c6 c7 ch cn d0 d1 d2 d3 d4 d5 d6 d7 dh dn x k HP.out _).mono ?_
      rintro r wq ⟨rfl, hx5⟩
      clear q0 q1 q2 q3 q4 q5 q6 q7 q8 q9
      have hsz5 := hx5.size
      have HX5 : Hid (Ext w (wq.alloc (.cells #[.int .i64 d0, .int .i64 d1, .int .i64 d2, .int .i64 d3, .int .i64 d4, .int .i64 d5, .int .i64 d6, .int .i64 d7, .int .i64 dh, .int .i64 dn] 38))) := Lib.hid ((HX.out.trans hx5).alloc _)
      have HZ5 : Hid ((wq.alloc (.cells #[.int .i64 d0, .int .i64 d1, .int .i64 d2, .int .i64 d3, .int .i64 d4, .int .i64 d5, .int .i64 d6, .int .i64 d7, .int .i64 dh, .int .i64 dn] 38)).heap[(w.heap.size + 1)]? = some (.cells #[.int .i64 0, .int .i64 0, .int .i64 0, .int .i64 0, .int .i64 0, .int .i64 0, .int .i64 0, .int .i64 0, .int .i64 0, .int .i64 0] 38 (0, 0))) := Lib.hid (blk_alloc (hx5.blk HZB.out) _)
      have HB5 : Hid ((wq.alloc (.cells #[.int .i64 d0, .int .i64 d1, .int .i64 d2, .int .i64 d3, .int .i64 d4, .int .i64 d5, .int .i64 d6, .int .i64 d7, .int .i64 dh, .int .i64 dn] 38)).heap[w.heap.size]? = some (.cells #[.int .i64 c0, .int .i64 c1, .int .i64 c2, .int .i64 c3, .int .i64 c4, .int .i64 c5, .int .i64 c6, .int .i64 c7, .int .i64 ch, .int .i64 cn] 38 (0, 0))) := Lib.hid (blk_alloc (hx5.blk HB0.out) _)
      have HN5 : Hid ((wq.alloc (.cells #[.int .i64 d0, .int .i64 d1, .int .i64 d2, .int .i64 d3, .int .i64 d4, .int .i64 d5, .int .i64 d6, .int .i64 d7, .int .i64 dh, .int .i64 dn] 38)).heap[wq.heap.size]? = some (.cells #[.int .i64 d0, .int .i64 d1, .int .i64 d2, .int .i64 d3, .int .i64 d4, .int .i64 d5, .int .i64 d6, .int .i64 d7, .int .i64 dh, .int .i64 dn] 38 (0, 0))) := Lib.hid (blk_new _ _)
      have HO5 : Hid (OwnInts (wq.alloc (.cells #[.int .i64 d0, .int .i64 d1, .int .i64 d2, .int .i64 d3, .int .i64 d4, .int .i64 d5, .int .i64 d6, .int .i64 d7, .int .i64 dh, .int .i64 dn] 38)) (w.heap.size + 2) (.slice A0 l.length a0) l) := Lib.hid ((HOWN.out.ext hx5).alloc _)
      have hs5 : w.heap.size + 2 ≤ (wq.alloc (.cells #[.int .i64 d0, .int .i64 d1, .int .i64 d2, .int .i64 d3, .int .i64 d4, .int .i64 d5, .int .i64 d6, .int .i64 d7, .int .i64 dh, .int .i64 dn] 38)).heap.size := by rw [World.size_alloc]; omega
      clear hx5 HZB HB0 HX HOWN hsz5
      generalize hw5 : wq.alloc (.cells #[.int .i64 d0, .int .i64 d1, .int .i64 d2, .int .i64 d3, .int .i64 d4, .int .i64 d5, .int .i64 d6, .int .i64 d7, .int .i64 dh, .int .i64 dn] 38) = w5 at *
      have HU := Lib.hid (upd10 w.heap.size w5 (.int .i64 d0) (.int .i64 d1) (.int .i64 d2) (.int .i64 d3) (.int .i64 d4) (.int .i64 d5) (.int .i64 d6) (.int .i64 d7) (.int .i64 dh) (.int .i64 dn))
      have HB7 := Lib.hid (set10_at HB5.out (.int .i64 d0) (.int .i64 d1) (.int .i64 d2) (.int .i64 d3) (.int .i64 d4) (.int .i64 d5) (.int .i64 d6) (.int .i64 d7) (.int .i64 dh) (.int .i64 dn))
      have HX7 := Lib.hid (set10_ext HX5.out (Nat.le_refl _) (.int .i64 d0) (.int .i64 d1) (.int .i64 d2) (.int .i64 d3) (.int .i64 d4) (.int .i64 d5) (.int .i64 d6) (.int .i64 d7) (.int .i64 dh) (.int .i64 dn))
      have HZB := HB5
      obtain ⟨⟨z0, z1, z2, z3, z4⟩, z5, z6, z7, z8, z9⟩ := cells10 HZB.out
      obtain ⟨⟨y0, y1, y2, y3, y4⟩, y5, y6, y7, y8, y9⟩ := frozen10 HZB.out
      obtain ⟨⟨q0, q1, q2, q3, q4⟩, q5, q6, q7, q8, q9⟩ := cells10 HN5.out
      go_upto_region 8 with fail
      generalize hw7 : ((((((((((w5.setCell ⟨w.heap.size, 0, none⟩ (.int .i64 d0)).setCell ⟨w.heap.size, 1, none⟩ (.int .i64 d1)).setCell ⟨w.heap.size, 2, none⟩ (.int .i64 d2)).setCell ⟨w.heap.size, 3, none⟩ (.int .i64 d3)).setCell ⟨w.heap.size, 4, none⟩ (.int .i64 d4)).setCell ⟨w.heap.size, 5, none⟩ (.int .i64 d5)).setCell ⟨w.heap.size, 6, none⟩ (.int .i64 d6)).setCell ⟨w.heap.size, 7, none⟩ (.int .i64 d7)).setCell ⟨w.heap.size, 8, none⟩ (.int .i64 dh)).setCell ⟨w.heap.size, 9, none⟩ (.int .i64 dn)) = w7 at *
      have HZ7 : Hid (w7.heap[(w.heap.size + 1)]? = some (.cells #[.int .i64 0, .int .i64 0, .int .i64 0, .int .i64 0, .int .i64 0, .int .i64 0, .int .i64 0, .int .i64 0, .int .i64 0, .int .i64 0] 38 (0, 0))) := Lib.hid (HU.out.blk HZ5.out (by omega))
      have HO7 : Hid (OwnInts w7 (w.heap.size + 2) (.slice A0 l.length a0) l) := Lib.hid (OwnInts.kept HO5.out HU.out (by omega))
      have hs7 := HU.out.sz
      clear z0 z1 z2 z3 z4 z5 z6 z7 z8 z9 y0 y1 y2 y3 y4 y5 y6 y7 y8 y9
      clear q0 q1 q2 q3 q4 q5 q6 q7 q8 q9
      clear hw7 hw5 HZB HB5 HZ5 HN5 HO5 HX5
      obtain ⟨u, w8, hr8, ho8, hg8⟩ := OwnInts.appendS 27 (OwnInts.alloc HO7.out (.cells #[.int .i64 x] 3)) (m := [x]) (ints_one w7 x) (by have := HLL.out; simp; omega) (by simp; omega)
      simp only [List.length_singleton] at hr8
      have HR8 := Lib.hid hr8
      have hub : ∀ k, (Value.slice A0 l.length a0).ownBlock = some k → w.heap.size + 2 ≤ k := fun k hk => (World.ownsRow.lt HO7.out k hk).1
      have hX8 := Below.grown (HX7.out.alloc (.cells #[.int .i64 x] 3)) hg8 (by rw [World.size_alloc]; omega) (fun k hk => by have := hub k hk; omega)
      have hz8 : w8.heap[(w.heap.size + 1)]? = some (.cells #[.int .i64 0, .int .i64 0, .int .i64 0, .int .i64 0, .int .i64 0, .int .i64 0, .int .i64 0, .int .i64 0, .int .i64 0, .int .i64 0] 38 (0, 0)) := (hg8.block (w.heap.size + 1) (by rw [World.size_alloc]; omega) (fun hk => by have := hub _ hk.symm; omega)).trans (blk_alloc HZ7.out _)
      have hb8 : w8.heap[w.heap.size]? = some (.cells #[.int .i64 d0, .int .i64 d1, .int .i64 d2, .int .i64 d3, .int .i64 d4, .int .i64 d5, .int .i64 d6, .int .i64 d7, .int .i64 dh, .int .i64 dn] 38 (0, 0)) := (hg8.block w.heap.size (by rw [World.size_alloc]; omega) (fun hk => by have := hub _ hk.symm; omega)).trans (blk_alloc HB7.out _)
      have hs8 := hg8.size
      rw [World.size_alloc] at hs8
      have HEND : Hid (OwnInts w8 (w.heap.size + 2) u (l ++ [x]) ∧ w8.heap[(w.heap.size + 1)]? = some (.cells #[.int .i64 0, .int .i64 0, .int .i64 0, .int .i64 0, .int .i64 0, .int .i64 0, .int .i64 0, .int .i64 0, .int .i64 0, .int .i64 0] 38 (0, 0)) ∧ w8.heap[w.heap.size]? = some (.cells #[.int .i64 d0, .int .i64 d1, .int .i64 d2, .int .i64 d3, .int .i64 d4, .int .i64 d5, .int .i64 d6, .int .i64 d7, .int .i64 dh, .int .i64 dn] 38 (0, 0)) ∧ Ext w w8 ∧ w.heap.size + 2 ≤ w8.heap.size) := Lib.hid ⟨ho8, hz8, hb8, hX8, by omega⟩
      clear hr8 ho8 hg8 hub hX8 hz8 hb8 HU HB7 HX7 HZ7
      go_wp2_with (at_builtin; refine wpList_append_run rfl _ _ 27 rfl _ _ rfl rfl HR8.out ?_)
      go_roundw
      case rel => exact ⟨u, j + 1, d0, d1, d2, d3, d4, d5, d6, d7, dh, dn, l ++ [x], rfl, by omega, by go_num, by simp [HLL.out], HO.out, HEND.out⟩
      case measure => simp [intOf]; omega
    · obtain rfl : j = K := by omega
      have hofs := H.out.symm.trans HS.out
      rw [Nat.sub_self] at hofs
      simp only [Ri.takes, Prod.mk.injEq, Ri.mk.injEq, List.cons.injEq, and_true] at hofs
      obtain ⟨⟨⟨rfl, rfl, rfl, rfl, rfl, rfl, rfl, rfl⟩, rfl, rfl⟩, rfl⟩ := hofs
      obtain ⟨⟨z0, z1, z2, z3, z4⟩, z5, z6, z7, z8, z9⟩ := cells10 HZB.out
      obtain ⟨⟨y0, y1, y2, y3, y4⟩, y5, y6, y7, y8, y9⟩ := frozen10 HZB.out
      obtain ⟨⟨q0, q1, q2, q3, q4⟩, q5, q6, q7, q8, q9⟩ := cells10 HB0.out
      go_wp2
      have hzz := set10_at HZB.out (.int .i64 e0) (.int .i64 e1) (.int .i64 e2) (.int .i64 e3) (.int .i64 e4) (.int .i64 e5) (.int .i64 e6) (.int .i64 e7) (.int .i64 eh) (.int .i64 en)
      have HO9 := OwnInts.kept HOWN.out (upd10 (w.heap.size + 1) wr (.int .i64 e0) (.int .i64 e1) (.int .i64 e2) (.int .i64 e3) (.int .i64 e4) (.int .i64 e5) (.int .i64 e6) (.int .i64 e7) (.int .i64 eh) (.int .i64 en)) (by omega)
      clear z0 z1 z2 z3 z4 z5 z6 z7 z8 z9 y0 y1 y2 y3 y4 y5 y6 y7 y8 y9
      clear q0 q1 q2 q3 q4 q5 q6 q7 q8 q9
      obtain ⟨⟨t0, t1, t2, t3, t4⟩, t5, t6, t7, t8, t9⟩ := cells10 hzz
      refine bodyPost_ret (v := .tuple #[.agg #[.int .i64 e0, .int .i64 e1, .int .i64 e2, .int .i64 e3, .int .i64 e4, .int .i64 e5, .int .i64 e6, .int .i64 e7, .int .i64 eh, .int .i64 en], .slice A0 o.length a0]) (by simp [results, Try.results69, go_sem, t0, t1, t2, t3, t4, t5, t6, t7, t8, t9]) rfl ⟨_, _, rfl, ?_, ?_⟩
      · exact OwnInts.lower HO9 (by omega)
      · exact set10_ext HX.out (by omega) _ _ _ _ _ _ _ _ _ _

theorem rhalf_own (b0 b1 b2 b3 b4 b5 b6 b7 hd nn : Int) (e0 e1 e2 e3 e4 e5 e6 e7 eh en : Int) (o : List Int) (h : Ri.half ⟨[b0, b1, b2, b3, b4, b5, b6, b7], hd, nn⟩ = (⟨[e0, e1, e2, e3, e4, e5, e6, e7], eh, en⟩, o)) (w : World) :
    Calls Try.prog 69 #[.agg #[.int .i64 b0, .int .i64 b1, .int .i64 b2, .int .i64 b3, .int .i64 b4, .int .i64 b5, .int .i64 b6, .int .i64 b7, .int .i64 hd, .int .i64 nn]] w fun e w' => ∃ A c, e = .returned (.tuple #[.agg #[.int .i64 e0, .int .i64 e1, .int .i64 e2, .int .i64 e3, .int .i64 e4, .int .i64 e5, .int .i64 e6, .int .i64 e7, .int .i64 eh, .int .i64 en], .slice A o.length c]) ∧ OwnInts w' w.heap.size (.slice A o.length c) o ∧ Ext w w' := by
  unfold Ri.half at h
  split at h
  · rename_i hm
    have hi : Ri.inside ⟨[b0, b1, b2, b3, b4, b5, b6, b7], hd, nn⟩ = true := by have := hm; unfold Ri.may at this; rw [Bool.and_eq_true] at this; exact this.1
    obtain ⟨a, n, rfl, rfl, h1, h2⟩ := Ri.inside_nat hi
    exact rhalf_own_in b0 b1 b2 b3 b4 b5 b6 b7 a n h1 h2 hm e0 e1 e2 e3 e4 e5 e6 e7 eh en o h w
  · rename_i hm
    simp only [Prod.mk.injEq, Ri.zero, Ri.mk.injEq, List.cons.injEq, and_true] at h
    obtain ⟨⟨⟨rfl, rfl, rfl, rfl, rfl, rfl, rfl, rfl⟩, rfl, rfl⟩, rfl⟩ := h
    refine (rhalf_no b0 b1 b2 b3 b4 b5 b6 b7 hd nn (by simpa using hm) w).mono ?_
    rintro e w' ⟨rfl, hx⟩
    exact ⟨none, 0, rfl, OwnInts.nil _ _, hx⟩
theorem Ri.takes_olen : ∀ (k : Nat) (r : Ri) (o : List Int), (Ri.takes k r o).2.length = o.length + k
  | 0, r, o => rfl
  | k + 1, r, o => by
    unfold Ri.takes
    rw [Ri.takes_olen k, List.length_append, List.length_singleton]
    omega
theorem Ri.half_olen {r : Ri} (h : r.may = true) : r.half.2.length ≤ 8 := by
  unfold Ri.half
  rw [if_pos h, Ri.takes_olen]
  have hi : r.inside = true := by unfold Ri.may at h; rw [Bool.and_eq_true] at h; exact h.1
  have := (Ri.inside_iff r).1 hi
  simp only [List.length_nil]
  omega
end Go.Proofs.Ytogcfndhcphpaaa
/-
  A G laid behind a P's ring: the program's Tail.
-/
set_option linter.unusedVariables false
set_option linter.unusedSimpArgs false
namespace Go.Proofs.Ytogcfndhcphpaaa
open Go.RowKit

theorem Ri.takes_len : ∀ (k : Nat) (r : Ri) (o : List Int), r.buf.length = 8 → (Ri.takes k r o).1.buf.length = 8
  | 0, r, o, h => h
  | k + 1, r, o, h => by
    unfold Ri.takes
    exact Ri.takes_len k _ _ (Ri.pop_len h)
theorem Ri.half_len {r : Ri} (h : r.buf.length = 8) : r.half.1.buf.length = 8 := by
  unfold Ri.half
  split
  · exact Ri.takes_len _ _ _ h
  · rfl
def rL (r : Ri) : List Value := r.buf.map (Value.int .i64) ++ [.int .i64 r.head, .int .i64 r.n]
theorem rL_len {r : Ri} (h : r.buf.length = 8) : (rL r).length = 10 := by simp [rL, h]
theorem rL_one (r : Ri) : ∀ u ∈ rL r, u.oneCell' = true := by
  intro u hu
  simp only [rL, List.mem_append, List.mem_map, List.mem_cons, List.not_mem_nil, or_false] at hu
  rcases hu with ⟨x, _, rfl⟩ | rfl | rfl <;> rfl
theorem pL_ring {x : Pr} {r : Ri} (hb : x.ring.buf.length = 8) (hr : r.buf.length = 8) : ∀ t, t < 13 → (pL { x with ring := r })[t]? = if 2 ≤ t ∧ t < 2 + (rL r).length then (rL r)[t - 2]? else (pL x)[t]? := by
  obtain ⟨m, nx, r0, sq⟩ := x
  obtain ⟨b0, b1, b2, b3, b4, b5, b6, b7, hd, nn, rfl⟩ := Ri.open8 hb
  obtain ⟨c0, c1, c2, c3, c4, c5, c6, c7, hd', nn', rfl⟩ := Ri.open8 hr
  intro t ht
  obtain rfl | rfl | rfl | rfl | rfl | rfl | rfl | rfl | rfl | rfl | rfl | rfl | rfl : t = 0 ∨ t = 1 ∨ t = 2 ∨ t = 3 ∨ t = 4 ∨ t = 5 ∨ t = 6 ∨ t = 7 ∨ t = 8 ∨ t = 9 ∨ t = 10 ∨ t = 11 ∨ t = 12 := by omega
  all_goals rfl
theorem range_ring {v : World} {g o : Nat} {m nx sq : Int} {b0 b1 b2 b3 b4 b5 b6 b7 hd nn : Int} (h : v.rangeAt g o (pL ⟨m, nx, ⟨[b0, b1, b2, b3, b4, b5, b6, b7], hd, nn⟩, sq⟩)) : v.rangeAt g (o + 2) (rL ⟨[b0, b1, b2, b3, b4, b5, b6, b7], hd, nn⟩) := fun j u hu => by
  rw [Nat.add_assoc]
  have hj := (List.getElem?_eq_some_iff.1 hu).1
  have hj10 : j < 10 := hj
  refine h (2 + j) u ?_
  obtain rfl | rfl | rfl | rfl | rfl | rfl | rfl | rfl | rfl | rfl : j = 0 ∨ j = 1 ∨ j = 2 ∨ j = 3 ∨ j = 4 ∨ j = 5 ∨ j = 6 ∨ j = 7 ∨ j = 8 ∨ j = 9 := by omega
  all_goals exact hu
/-- A new box of a ring, stored into. -/
theorem ring_box (v : World) {r : Ri} (hr : r.buf.length = 8) : ∃ va vb, v.alloc (.cells #[.int .i64 0, .int .i64 0, .int .i64 0, .int .i64 0, .int .i64 0, .int .i64 0, .int .i64 0, .int .i64 0, .int .i64 0, .int .i64 0] 38) = va ∧ va.setCells v.heap.size 0 (rL r) = vb ∧ va.there v.heap.size 0 (rL r).length ∧ vb.heap[v.heap.size]? = some (.cells (rL r).toArray 38 (0, 0)) ∧ Ext v vb := by
  have hb := blk_new v (.cells #[.int .i64 0, .int .i64 0, .int .i64 0, .int .i64 0, .int .i64 0, .int .i64 0, .int .i64 0, .int .i64 0, .int .i64 0, .int .i64 0] 38)
  refine ⟨_, _, rfl, rfl, there_row hb (by rw [rL_len hr]; exact Nat.le_refl 10), setCells_at [.int .i64 0, .int .i64 0, .int .i64 0, .int .i64 0, .int .i64 0, .int .i64 0, .int .i64 0, .int .i64 0, .int .i64 0, .int .i64 0] (rL r) (by rw [rL_len hr]; rfl) hb, Ext.upd (a := v) ((Ext.refl v).alloc _) (setCells_upd _ _ _ _) (Nat.le_refl _)⟩
set_option maxRecDepth 100000 in
set_option maxHeartbeats 16000000 in
theorem rdTail_any (h : StH) (s : St) (p g : Int) (w : World) (hk : StOk w h s) (hf : StFew s) : Calls Try.prog 25 #[stV h s, .int .i64 p, .int .i64 g] w fun e w' => ∃ h' I, e = .returned (stV h' (s.tail p g)) ∧ StApart w.heap.size w' I h' (s.tail p g) ∧ Ext w w' := by
  have HF := Lib.hid hf
  have HK := Lib.hid hk
  obtain ⟨W0, hW0⟩ : ∃ W0, w.heap.size = W0 := ⟨_, rfl⟩
  obtain ⟨R, hR⟩ : ∃ R, W0 + 1 = R := ⟨_, rfl⟩
  obtain ⟨w2, hw2⟩ : ∃ w2, (w.alloc (.cells #[.slice h.pa s.prog.length h.pc, .slice h.ga s.gs.length h.gc, .slice h.qa s.ps.length h.qc, .slice h.ma s.ms.length h.mc, .slice h.la s.glob.length h.lc, .int .i64 s.c0, .int .i64 s.c1, .int .i64 s.c2, .int .i64 s.c3, .slice h.a0 s.w0.length h.k0, .slice h.a1 s.w1.length h.k1, .slice h.a2 s.w2.length h.k2, .slice h.a3 s.w3.length h.k3, .slice h.ta s.timers.length h.tc, .int .i64 s.clock, .int .i64 s.procs] 32)).alloc (.cells #[.slice none 0 0, .slice none 0 0, .slice none 0 0, .slice none 0 0, .slice none 0 0, .int .i64 0, .int .i64 0, .int .i64 0, .int .i64 0, .slice none 0 0, .slice none 0 0, .slice none 0 0, .slice none 0 0, .slice none 0 0, .int .i64 0, .int .i64 0] 32) = w2 := ⟨_, rfl⟩
  have HX1 : Hid (Ext w w2) := Lib.hid (by rw [← hw2]; exact ((Ext.refl w).alloc _).alloc _)
  have HB1 : Hid (w2.heap[W0]? = some (.cells (stC h s) 32 (0, 0))) := Lib.hid (by rw [← hw2, ← hW0]; exact blk_alloc (blk_new w _) _)
  have HR1 : Hid (w2.heap[R]? = some (.cells #[.slice none 0 0, .slice none 0 0, .slice none 0 0, .slice none 0 0, .slice none 0 0, .int .i64 0, .int .i64 0, .int .i64 0, .int .i64 0, .slice none 0 0, .slice none 0 0, .slice none 0 0, .slice none 0 0, .slice none 0 0, .int .i64 0, .int .i64 0] 32 (0, 0))) := Lib.hid (by
    have := blk_new (w.alloc (.cells #[.slice h.pa s.prog.length h.pc, .slice h.ga s.gs.length h.gc, .slice h.qa s.ps.length h.qc, .slice h.ma s.ms.length h.mc, .slice h.la s.glob.length h.lc, .int .i64 s.c0, .int .i64 s.c1, .int .i64 s.c2, .int .i64 s.c3, .slice h.a0 s.w0.length h.k0, .slice h.a1 s.w1.length h.k1, .slice h.a2 s.w2.length h.k2, .slice h.a3 s.w3.length h.k3, .slice h.ta s.timers.length h.tc, .int .i64 s.clock, .int .i64 s.procs] 32)) (.cells #[.slice none 0 0, .slice none 0 0, .slice none 0 0, .slice none 0 0, .slice none 0 0, .int .i64 0, .int .i64 0, .int .i64 0, .int .i64 0, .slice none 0 0, .slice none 0 0, .slice none 0 0, .slice none 0 0, .slice none 0 0, .int .i64 0, .int .i64 0] 32)
    rw [hw2, World.size_alloc, hW0, hR] at this
    exact this)
  have HRR := Lib.hid hR
  have HW0 := Lib.hid hW0
  have HW2 := Lib.hid hw2
  have HK1 := Lib.hid (hk.ext HX1.out)
  clear hk hf hw2 hW0 hR
  obtain ⟨PQ, hPQ⟩ : ∃ PQ : Ending → World → Prop, PQ = fun e w' => ∃ h' I, e = .returned (stV h' (s.tail p g)) ∧ StApart w.heap.size w' I h' (s.tail p g) ∧ Ext w w' := ⟨_, rfl⟩
  rw [← hPQ]
  have HPQ := Lib.hid hPQ
  clear hPQ
  unfold stV
  go_enter Try.func25, Try.ntmps25
  go_upto_region 1 with fail
  rw [HW2.out, HW0.out, HRR.out]
  generalize Value.agg #[.slice h.pa s.prog.length h.pc, .slice h.ga s.gs.length h.gc, .slice h.qa s.ps.length h.qc, .slice h.ma s.ms.length h.mc, .slice h.la s.glob.length h.lc, .int .i64 s.c0, .int .i64 s.c1, .int .i64 s.c2, .int .i64 s.c3, .slice h.a0 s.w0.length h.k0, .slice h.a1 s.w1.length h.k1, .slice h.a2 s.w2.length h.k2, .slice h.a3 s.w3.length h.k3, .slice h.ta s.timers.length h.tc, .int .i64 s.clock, .int .i64 s.procs] = sv0
  go_wp2_with (refine wpList_load_rowW (by rfl) 32 _ rfl W0 (by go_simp) (stL h s) (stV h s) rfl _ (range_row HB1.out) Try.underlying32 rfl (by kernel_rfl) ?_)
  refine (sCopy_any h s _ HK1.out HF.out).mono ?_
  rintro e w3 ⟨h1, L, rfl, ho, hL, hx⟩
  obtain ⟨w4, hw4⟩ : ∃ w4, w3.setCells W0 0 (stL h1 s) = w4 := ⟨_, rfl⟩
  have hst := Sit.start (w := w) rfl HX1.out HB1.out HR1.out hx (ho.apart hL) (by have := HRR.out; omega) (by have := HW0.out; omega) (by have := HW0.out; have := HRR.out; omega)
  rw [hw4] at hst
  have HTH := Lib.hid hst.1
  have S4 := Lib.hid hst.2
  have HW4 := Lib.hid hw4
  clear ho hL hx hst hw4
  go_upto_region 2 with (refine wpList_store_row rfl 32 _ _ rfl W0 (stL h1 s) (stV h1 s) (by go_simp) (by go_simp) rfl HTH.out (by kernel_rfl) (stL_one _ _) HW4.out ?_)
  have q2 := st2 S4.out.box
  by_cases a1 : p < 1
  · have HE : Hid (s.tail p g = s) := Lib.hid (St.tail_no (by omega))
    go_upto_if 37 with fail
    obtain ⟨wf, hwf⟩ : ∃ wf, w4.setCells R 0 (stL h1 s) = wf := ⟨_, rfl⟩
    have HWF := Lib.hid hwf
    have hfi := S4.out.fin
    rw [hwf] at hfi
    have HFI := Lib.hid hfi
    have HTR := Lib.hid (S4.out.there (h' := h1) (s' := s))
    clear hwf hfi
    go_wp2_with (first | (refine wpList_load_rowW (by rfl) 32 _ rfl W0 (by go_simp) (stL h1 s) (stV h1 s) rfl _ (range_row S4.out.box) Try.underlying32 rfl (by kernel_rfl) ?_) | (refine wpList_store_row rfl 32 _ _ rfl R (stL h1 s) (stV h1 s) (by go_simp) (by go_simp) rfl HTR.out (by kernel_rfl) (stL_one _ _) HWF.out ?_))
    refine bodyPost_ret (v := .agg (stL h1 s).toArray) (results_cell_row rfl _ _ R _ _ _ _ rfl HFI.out.1 Try.underlying32 rfl (by kernel_rfl)) rfl ?_
    obtain ⟨I, hI⟩ := HFI.out.2.1
    rw [HPQ.out, HE.out]
    exact ⟨h1, I, rfl, hI, HFI.out.2.2⟩
  by_cases a2 : (s.ps.length : Int) < p
  · have HE : Hid (s.tail p g = s) := Lib.hid (St.tail_no (by omega))
    go_upto_if 37 with fail
    obtain ⟨wf, hwf⟩ : ∃ wf, w4.setCells R 0 (stL h1 s) = wf := ⟨_, rfl⟩
    have HWF := Lib.hid hwf
    have hfi := S4.out.fin
    rw [hwf] at hfi
    have HFI := Lib.hid hfi
    have HTR := Lib.hid (S4.out.there (h' := h1) (s' := s))
    clear hwf hfi
    go_wp2_with (first | (refine wpList_load_rowW (by rfl) 32 _ rfl W0 (by go_simp) (stL h1 s) (stV h1 s) rfl _ (range_row S4.out.box) Try.underlying32 rfl (by kernel_rfl) ?_) | (refine wpList_store_row rfl 32 _ _ rfl R (stL h1 s) (stV h1 s) (by go_simp) (by go_simp) rfl HTR.out (by kernel_rfl) (stL_one _ _) HWF.out ?_))
    refine bodyPost_ret (v := .agg (stL h1 s).toArray) (results_cell_row rfl _ _ R _ _ _ _ rfl HFI.out.1 Try.underlying32 rfl (by kernel_rfl)) rfl ?_
    obtain ⟨I, hI⟩ := HFI.out.2.1
    rw [HPQ.out, HE.out]
    exact ⟨h1, I, rfl, hI, HFI.out.2.2⟩
  by_cases a3 : g < 1
  · have HE : Hid (s.tail p g = s) := Lib.hid (St.tail_no (by omega))
    go_upto_if 37 with fail
    obtain ⟨wf, hwf⟩ : ∃ wf, w4.setCells R 0 (stL h1 s) = wf := ⟨_, rfl⟩
    have HWF := Lib.hid hwf
    have hfi := S4.out.fin
    rw [hwf] at hfi
    have HFI := Lib.hid hfi
    have HTR := Lib.hid (S4.out.there (h' := h1) (s' := s))
    clear hwf hfi
    go_wp2_with (first | (refine wpList_load_rowW (by rfl) 32 _ rfl W0 (by go_simp) (stL h1 s) (stV h1 s) rfl _ (range_row S4.out.box) Try.underlying32 rfl (by kernel_rfl) ?_) | (refine wpList_store_row rfl 32 _ _ rfl R (stL h1 s) (stV h1 s) (by go_simp) (by go_simp) rfl HTR.out (by kernel_rfl) (stL_one _ _) HWF.out ?_))
    refine bodyPost_ret (v := .agg (stL h1 s).toArray) (results_cell_row rfl _ _ R _ _ _ _ rfl HFI.out.1 Try.underlying32 rfl (by kernel_rfl)) rfl ?_
    obtain ⟨I, hI⟩ := HFI.out.2.1
    rw [HPQ.out, HE.out]
    exact ⟨h1, I, rfl, hI, HFI.out.2.2⟩
  obtain ⟨i, rfl⟩ : ∃ i : Nat, p = (i : Int) + 1 := ⟨(p - 1).toNat, by omega⟩
  obtain ⟨x, hp⟩ : ∃ x, s.ps[i]? = some x := ⟨_, List.getElem?_eq_getElem (by omega)⟩
  have hb8 := HK.out.buf _ (List.mem_of_getElem? hp)
  obtain ⟨m, nx, r, sq⟩ := x
  obtain ⟨b0, b1, b2, b3, b4, b5, b6, b7, hd, nn, rfl⟩ := Ri.open8 hb8
  have HG1 : Hid (1 ≤ g) := Lib.hid (by omega)
  have HP := Lib.hid hp
  have HB8 := Lib.hid hb8
  clear hb8 hp q2
  have e1 : (i : Int) + 1 - 1 = (i : Int) := by omega
  have e4 : (i : Int) < (s.ps.length : Int) := by omega
  have e5 : (i : Int) < 100000 := by have := HF.out.ps; omega
  obtain ⟨bq, hqa, hqb, hrg⟩ := S4.out.getP HP.out
  have q2 : w4.cell? ⟨W0, 2, none⟩ = some (.slice (some ⟨bq, 0, none⟩) s.ps.length h1.qc) := by rw [← hqa]; exact st2 S4.out.box
  have HQA := Lib.hid hqa
  have HRG := Lib.hid (range_ring hrg)
  obtain ⟨rv, hrv⟩ : ∃ rv, Value.agg #[.int .i64 b0, .int .i64 b1, .int .i64 b2, .int .i64 b3, .int .i64 b4, .int .i64 b5, .int .i64 b6, .int .i64 b7, .int .i64 hd, .int .i64 nn] = rv := ⟨_, rfl⟩
  have HRV := Lib.hid hrv
  clear hqa hrg hrv
  go_wp2_with (refine wpList_load_rowM (by rfl) 38 _ rfl bq (i * 13 + 2) (by go_simp) (rL ⟨[b0, b1, b2, b3, b4, b5, b6, b7], hd, nn⟩) rv HRV.out.symm _ HRG.out Try.underlying38 rfl (by kernel_rfl) ?_)
  rw [← HRV.out]
  refine (rmay_eq b0 b1 b2 b3 b4 b5 b6 b7 hd nn _ rfl _).mono ?_
  rintro e w5 ⟨rfl, hx5⟩
  have S5 := Lib.hid (S4.out.more hx5)
  clear hx5 q2
  cases bm : Ri.may ⟨[b0, b1, b2, b3, b4, b5, b6, b7], hd, nn⟩ with
  | false =>
    have HE : Hid (s.tail ((i : Int) + 1) g = s) := Lib.hid (St.tail_no (by rw [St.pAt_of HP.out]; simp [bm]))
    go_upto_if 37 with fail
    obtain ⟨wf, hwf⟩ : ∃ wf, w5.setCells R 0 (stL h1 s) = wf := ⟨_, rfl⟩
    have HWF := Lib.hid hwf
    have hfi := S5.out.fin
    rw [hwf] at hfi
    have HFI := Lib.hid hfi
    have HTR := Lib.hid (S5.out.there (h' := h1) (s' := s))
    clear hwf hfi
    go_wp2_with (first | (refine wpList_load_rowW (by rfl) 32 _ rfl W0 (by go_simp) (stL h1 s) (stV h1 s) rfl _ (range_row S5.out.box) Try.underlying32 rfl (by kernel_rfl) ?_) | (refine wpList_store_row rfl 32 _ _ rfl R (stL h1 s) (stV h1 s) (by go_simp) (by go_simp) rfl HTR.out (by kernel_rfl) (stL_one _ _) HWF.out ?_))
    refine bodyPost_ret (v := .agg (stL h1 s).toArray) (results_cell_row rfl _ _ R _ _ _ _ rfl HFI.out.1 Try.underlying32 rfl (by kernel_rfl)) rfl ?_
    obtain ⟨I, hI⟩ := HFI.out.2.1
    rw [HPQ.out, HE.out]
    exact ⟨h1, I, rfl, hI, HFI.out.2.2⟩
  | true =>
  have HBM := Lib.hid bm
  clear bm
  have q2 : w5.cell? ⟨W0, 2, none⟩ = some (.slice (some ⟨bq, 0, none⟩) s.ps.length h1.qc) := by rw [← HQA.out]; exact st2 S5.out.box
  have HRG5 := Lib.hid (range_ring (S5.out.getP' HP.out HQA.out))
  go_upto_if 37 with fail
  go_wp2_with (refine wpList_load_rowM (by rfl) 38 _ rfl bq (i * 13 + 2) (by go_simp) (rL ⟨[b0, b1, b2, b3, b4, b5, b6, b7], hd, nn⟩) rv HRV.out.symm _ HRG5.out Try.underlying38 rfl (by kernel_rfl) ?_)
  obtain ⟨⟨r1, ok⟩, hpush⟩ : ∃ q, Ri.push ⟨[b0, b1, b2, b3, b4, b5, b6, b7], hd, nn⟩ g = q := ⟨_, rfl⟩
  have hl1 := Ri.push_len (r := ⟨[b0, b1, b2, b3, b4, b5, b6, b7], hd, nn⟩) (g := g) rfl
  rw [hpush] at hl1
  obtain ⟨c0, c1, c2, c3, c4, c5, c6, c7, hd1, nn1, rfl⟩ := Ri.open8 hl1
  rw [← HRV.out]
  refine (rpush_k b0 b1 b2 b3 b4 b5 b6 b7 hd nn g c0 c1 c2 c3 c4 c5 c6 c7 hd1 nn1 ok hpush w5).mono ?_
  rintro e w6 ⟨rfl, hx6⟩
  have S6 := Lib.hid (S5.out.more hx6)
  have HPU := Lib.hid hpush
  obtain ⟨B8, hB8⟩ : ∃ B8, w6.heap.size = B8 := ⟨_, rfl⟩
  obtain ⟨va, vb, hva, hvb, hth, hbx, hxb⟩ := ring_box w6 (r := ⟨[c0, c1, c2, c3, c4, c5, c6, c7], hd1, nn1⟩) rfl
  rw [hB8] at hvb hth hbx
  have HB8 := Lib.hid hB8
  have HVA := Lib.hid hva
  have HVB := Lib.hid hvb
  have HTHA := Lib.hid hth
  have HBX := Lib.hid hbx
  have S7 := Lib.hid (S6.out.more hxb)
  obtain ⟨rv1, hrv1⟩ : ∃ rv1, Value.agg #[.int .i64 c0, .int .i64 c1, .int .i64 c2, .int .i64 c3, .int .i64 c4, .int .i64 c5, .int .i64 c6, .int .i64 c7, .int .i64 hd1, .int .i64 nn1] = rv1 := ⟨_, rfl⟩
  have HRV1 := Lib.hid hrv1
  rw [hrv1]
  clear hx6 hpush hB8 hva hvb hth hbx hxb hrv1 hl1 q2
  go_upto_if 53 with (first | rw [HVA.out, HB8.out] | (refine wpList_store_rowM rfl 38 _ _ rfl B8 0 (rL ⟨[c0, c1, c2, c3, c4, c5, c6, c7], hd1, nn1⟩) rv1 (by go_simp) (by go_simp) HRV1.out.symm HTHA.out (by kernel_rfl) (rL_one _) HVB.out ?_))
  have q2 : vb.cell? ⟨W0, 2, none⟩ = some (.slice (some ⟨bq, 0, none⟩) s.ps.length h1.qc) := by rw [← HQA.out]; exact st2 S7.out.box
  cases ok with
  | true =>
    obtain ⟨w8, hw8⟩ : ∃ w8, vb.setCells bq (i * 13 + 2) (rL ⟨[c0, c1, c2, c3, c4, c5, c6, c7], hd1, nn1⟩) = w8 := ⟨_, rfl⟩
    have hst := S7.out.setP' HP.out HQA.out (x' := ⟨m, nx, ⟨[c0, c1, c2, c3, c4, c5, c6, c7], hd1, nn1⟩, sq⟩) (j := 2) (ds := rL ⟨[c0, c1, c2, c3, c4, c5, c6, c7], hd1, nn1⟩) (by rw [rL_len rfl]; decide) (pL_ring (x := ⟨m, nx, ⟨[b0, b1, b2, b3, b4, b5, b6, b7], hd, nn⟩, sq⟩) rfl rfl)
    rw [hw8] at hst
    have HE := Lib.hid (St.tail_push HP.out HG1.out HBM.out HPU.out)
    obtain ⟨s', hs'⟩ : ∃ s' : St, { s with ps := s.ps.set i ⟨m, nx, ⟨[c0, c1, c2, c3, c4, c5, c6, c7], hd1, nn1⟩, sq⟩ } = s' := ⟨_, rfl⟩
    rw [hs'] at hst HE
    have HTH8 := Lib.hid hst.1
    have S8 := Lib.hid hst.2
    have HW8 := Lib.hid hw8
    clear hst hs' hw8
    have HRB := Lib.hid (range_row HBX.out)
    go_upto_region 8 with (first | (refine wpList_load_rowM (by rfl) 38 _ rfl B8 0 (by go_simp) (rL ⟨[c0, c1, c2, c3, c4, c5, c6, c7], hd1, nn1⟩) rv1 HRV1.out.symm _ HRB.out Try.underlying38 rfl (by kernel_rfl) ?_) | (refine wpList_store_rowM rfl 38 _ _ rfl bq (i * 13 + 2) (rL ⟨[c0, c1, c2, c3, c4, c5, c6, c7], hd1, nn1⟩) rv1 (by go_simp) (by go_simp) HRV1.out.symm HTH8.out (by kernel_rfl) (rL_one _) HW8.out ?_))
    obtain ⟨wf, hwf⟩ : ∃ wf, w8.setCells R 0 (stL h1 s') = wf := ⟨_, rfl⟩
    have HWF := Lib.hid hwf
    have hfi := S8.out.fin
    rw [hwf] at hfi
    have HFI := Lib.hid hfi
    have HTR := Lib.hid (S8.out.there (h' := h1) (s' := s'))
    clear hwf hfi
    go_wp2_with (first | (refine wpList_load_rowW (by rfl) 32 _ rfl W0 (by go_simp) (stL h1 s') (stV h1 s') rfl _ (range_row S8.out.box) Try.underlying32 rfl (by kernel_rfl) ?_) | (refine wpList_store_row rfl 32 _ _ rfl R (stL h1 s') (stV h1 s') (by go_simp) (by go_simp) rfl HTR.out (by kernel_rfl) (stL_one _ _) HWF.out ?_))
    refine bodyPost_ret (v := .agg (stL h1 s').toArray) (results_cell_row rfl _ _ R _ _ _ _ rfl HFI.out.1 Try.underlying32 rfl (by kernel_rfl)) rfl ?_
    obtain ⟨I, hI⟩ := HFI.out.2.1
    rw [HPQ.out, HE.out]
    exact ⟨h1, I, rfl, hI, HFI.out.2.2⟩
  | false =>
    obtain ⟨⟨r2, o⟩, hhalf⟩ : ∃ q, Ri.half ⟨[b0, b1, b2, b3, b4, b5, b6, b7], hd, nn⟩ = q := ⟨_, rfl⟩
    have hl2 := Ri.half_len (r := ⟨[b0, b1, b2, b3, b4, b5, b6, b7], hd, nn⟩) rfl
    rw [hhalf] at hl2
    obtain ⟨d0, d1, d2, d3, d4, d5, d6, d7, hd2, nn2, rfl⟩ := Ri.open8 hl2
    have HHA := Lib.hid hhalf
    have HOL : Hid (o.length ≤ 8) := Lib.hid (by have := Ri.half_olen (r := ⟨[b0, b1, b2, b3, b4, b5, b6, b7], hd, nn⟩) HBM.out; rwa [hhalf] at this)
    have HRG7 := Lib.hid (range_ring (S7.out.getP' HP.out HQA.out))
    clear hl2 hhalf
    go_wp2_with (refine wpList_load_rowM (by rfl) 38 _ rfl bq (i * 13 + 2) (by go_simp) (rL ⟨[b0, b1, b2, b3, b4, b5, b6, b7], hd, nn⟩) rv HRV.out.symm _ HRG7.out Try.underlying38 rfl (by kernel_rfl) ?_)
    rw [← HRV.out]
    refine (rhalf_own b0 b1 b2 b3 b4 b5 b6 b7 hd nn d0 d1 d2 d3 d4 d5 d6 d7 hd2 nn2 o HHA.out vb).mono ?_
    rintro e w9 ⟨Ao, co, rfl, hio, hx9⟩
    have S9 := Lib.hid (S7.out.more hx9)
    obtain ⟨B10, hB10⟩ : ∃ B10, w9.heap.size = B10 := ⟨_, rfl⟩
    obtain ⟨vc, vd, hvc, hvd, hth2, hbx2, hxd⟩ := ring_box w9 (r := ⟨[d0, d1, d2, d3, d4, d5, d6, d7], hd2, nn2⟩) rfl
    rw [hB10] at hvd hth2 hbx2
    have HB10 := Lib.hid hB10
    have HVC := Lib.hid hvc
    have HVD := Lib.hid hvd
    have HTHC := Lib.hid hth2
    have HBX2 := Lib.hid hbx2
    have HIO := Lib.hid (hio.ext hxd)
    have HBL : Hid (bq < vb.heap.size) := Lib.hid (S7.out.ltP HP.out HQA.out)
    have S10 := Lib.hid (S9.out.more hxd)
    obtain ⟨rv2, hrv2⟩ : ∃ rv2, Value.agg #[.int .i64 d0, .int .i64 d1, .int .i64 d2, .int .i64 d3, .int .i64 d4, .int .i64 d5, .int .i64 d6, .int .i64 d7, .int .i64 hd2, .int .i64 nn2] = rv2 := ⟨_, rfl⟩
    have HRV2 := Lib.hid hrv2
    rw [hrv2]
    clear hx9 hB10 hvc hvd hth2 hbx2 hxd hrv2 hio q2
    go_upto_region 10 with (first | rw [HVC.out, HB10.out] | (refine wpList_store_rowM rfl 38 _ _ rfl B10 0 (rL ⟨[d0, d1, d2, d3, d4, d5, d6, d7], hd2, nn2⟩) rv2 (by go_simp) (by go_simp) HRV2.out.symm HTHC.out (by kernel_rfl) (rL_one _) HVD.out ?_))
    have q2 : vd.cell? ⟨W0, 2, none⟩ = some (.slice (some ⟨bq, 0, none⟩) s.ps.length h1.qc) := by rw [← HQA.out]; exact st2 S10.out.box
    obtain ⟨w11, hw11⟩ : ∃ w11, vd.setCells bq (i * 13 + 2) (rL ⟨[d0, d1, d2, d3, d4, d5, d6, d7], hd2, nn2⟩) = w11 := ⟨_, rfl⟩
    have hst := S10.out.setP' HP.out HQA.out (x' := ⟨m, nx, ⟨[d0, d1, d2, d3, d4, d5, d6, d7], hd2, nn2⟩, sq⟩) (j := 2) (ds := rL ⟨[d0, d1, d2, d3, d4, d5, d6, d7], hd2, nn2⟩) (by rw [rL_len rfl]; decide) (pL_ring (x := ⟨m, nx, ⟨[b0, b1, b2, b3, b4, b5, b6, b7], hd, nn⟩, sq⟩) rfl rfl)
    rw [hw11] at hst
    have HE := Lib.hid (St.tail_half HP.out HG1.out HBM.out HPU.out HHA.out)
    have HTH11 := Lib.hid hst.1
    have S11 := Lib.hid hst.2
    have HIO11 : Hid (OwnInts w11 vb.heap.size (.slice Ao o.length co) o) := Lib.hid (HIO.out.but (But.upd (S := fun b => b = bq) (by rw [← hw11]; exact setCells_upd _ _ _ _) rfl) (fun b hb h => by
      have h1 := (World.ownsRow.lt HIO.out b hb).1
      have h2 := HBL.out
      omega))
    have HW11 := Lib.hid hw11
    clear hst hw11
    have HRB2 := Lib.hid (range_row HBX2.out)
    go_upto_region 11 with (first | (refine wpList_load_rowM (by rfl) 38 _ rfl B10 0 (by go_simp) (rL ⟨[d0, d1, d2, d3, d4, d5, d6, d7], hd2, nn2⟩) rv2 HRV2.out.symm _ HRB2.out Try.underlying38 rfl (by kernel_rfl) ?_) | (refine wpList_store_rowM rfl 38 _ _ rfl bq (i * 13 + 2) (rL ⟨[d0, d1, d2, d3, d4, d5, d6, d7], hd2, nn2⟩) rv2 (by go_simp) (by go_simp) HRV2.out.symm HTH11.out (by kernel_rfl) (rL_one _) HW11.out ?_))
    clear q2
    obtain ⟨I11, ha11⟩ := S11.out.ap
    have q4 : w11.cell? ⟨W0, 4, none⟩ = some (.slice h1.la s.glob.length h1.lc) := by have := st4 S11.out.box; exact this
    have hlo4 := ha11.low 4 (by omega)
    have hgf := HF.out.glob
    have hol := HOL.out
    obtain ⟨A12, c12, w12, hr12, hq12⟩ := GlobQ.more (n := s.glob.length) (GlobQ.start (v := w11) (B4 := (I11 4).1) (u0 := .slice h1.la s.glob.length h1.lc) (l := s.glob) ha11.glob.1) rfl rfl HIO11.out.at.2 (by omega) (by show s.glob.length + o.length ≤ _; omega)
    obtain ⟨A13, c13, w13, hr13, hq13⟩ := GlobQ.more (n := s.glob.length + o.length) (hq12.ext ((Ext.refl w12).alloc (.cells #[.int .i64 g] 3))) (m := [g]) (by rw [List.length_append]) rfl (ints_one w12 g) (by omega) (by rw [List.length_append]; show s.glob.length + o.length + 1 ≤ _; omega)
    have hsg := S11.out.globQ ha11 hq13 (by rw [List.length_append, List.length_append])
    obtain ⟨w14, hw14⟩ : ∃ w14, w13.setCell ⟨W0, 4, none⟩ (.slice A13 (s.glob.length + o.length + 1) c13) = w14 := ⟨_, rfl⟩
    obtain ⟨h', hh'⟩ : ∃ h' : StH, { h1 with la := A13, lc := c13 } = h' := ⟨_, rfl⟩
    obtain ⟨s', hs'⟩ : ∃ s' : St, { s with ps := s.ps.set i ⟨m, nx, ⟨[d0, d1, d2, d3, d4, d5, d6, d7], hd2, nn2⟩, sq⟩, glob := s.glob ++ o ++ [g] } = s' := ⟨_, rfl⟩
    have hsit := hsg.2.2
    simp only [List.length_singleton] at hsit
    rw [hw14, hh', hs'] at hsit
    rw [hs'] at HE
    have S14 := Lib.hid hsit
    have HW14 := Lib.hid hw14
    have q5 : w13.cell? ⟨W0, 4, none⟩ = some (.slice h1.la s.glob.length h1.lc) := hsg.1
    have q6 := hsg.2.1
    simp only [List.length_singleton] at hr13
    clear hsg hsit hh' hs' hw14 ha11 hq12 hq13 hlo4 hgf hol
    have HR12 := Lib.hid hr12
    have HR13 := Lib.hid hr13
    clear hr12 hr13
    go_upto_region 12 with (first | (at_builtin; refine wpList_append_run rfl _ _ 27 rfl _ _ (by go_simp) (by go_simp) HR12.out ?_) | (at_builtin; refine wpList_append_run rfl _ _ 27 rfl _ _ (by go_simp) (by go_simp) HR13.out ?_) | rw [HW14.out])
    clear q4 q5 q6
    obtain ⟨wf, hwf⟩ : ∃ wf, w14.setCells R 0 (stL h' s') = wf := ⟨_, rfl⟩
    have HWF := Lib.hid hwf
    have hfi := S14.out.fin
    rw [hwf] at hfi
    have HFI := Lib.hid hfi
    have HTR := Lib.hid (S14.out.there (h' := h') (s' := s'))
    clear hwf hfi
    go_wp2_with (first | (refine wpList_load_rowW (by rfl) 32 _ rfl W0 (by go_simp) (stL h' s') (stV h' s') rfl _ (range_row S14.out.box) Try.underlying32 rfl (by kernel_rfl) ?_) | (refine wpList_store_row rfl 32 _ _ rfl R (stL h' s') (stV h' s') (by go_simp) (by go_simp) rfl HTR.out (by kernel_rfl) (stL_one _ _) HWF.out ?_))
    refine bodyPost_ret (v := .agg (stL h' s').toArray) (results_cell_row rfl _ _ R _ _ _ _ rfl HFI.out.1 Try.underlying32 rfl (by kernel_rfl)) rfl ?_
    obtain ⟨I, hI⟩ := HFI.out.2.1
    rw [HPQ.out, HE.out]
    exact ⟨h', I, rfl, hI, HFI.out.2.2⟩
end Go.Proofs.Ytogcfndhcphpaaa
