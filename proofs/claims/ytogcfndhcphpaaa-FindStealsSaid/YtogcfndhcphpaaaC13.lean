/-
  Several texts in one: Ub, Ud, Uc, Uj, Uk, Ue, Uf, Gs, Ug, Uh, Ui, Ul, Um, Un, Uo, No.
-/
import Derived.Test.YtogcfndhcphpaaaC12
import Derived.Test.YtogcfndhcphpaaaC02
import Derived.Test.YtogcfndhcphpaaaC05
import Derived.Test.YtogcfndhcphpaaaC08
import Derived.Lib.SliceRun
import Derived.Test.YtogcfndhcphpaaaC01
import Derived.Test.YtogcfndhcphpaaaC04
set_option linter.unusedVariables false
set_option linter.unusedSimpArgs false
namespace Go.Proofs.Ytogcfndhcphpaaa
open Go.RowKit
theorem wpList_store_rowM {P : Program} {ops : Array Oper} {rest : List Oper} {op : Oper} {a : Act} {w : World} {Q : Exit → Act → World → Prop} (hgd : op.guard = none) (ty : TypeId) (x y : Operand) (ho : op.op = .store ty x y)
    (b o : Nat) (ds : List Value) (v : Value) (hx : a.eval x = .pointer (some ⟨b, o, none⟩)) (hy : a.eval y = v) (hv : v = .agg ds.toArray) (ht : w.there b o ds.length) (hi : (P.info? ty).map (·.size) = some ds.length) (h1 : ∀ u ∈ ds, u.oneCell' = true)
    {w' : World} (hw : w.setCells b o ds = w') (h : wpList P ops Q rest (a.put op.dst undef) w') : wpList P ops Q (op :: rest) a w := by
  subst hv hw
  exact wpList_store_mid hgd ty x y ho b o ds.toArray hx hy (by simpa using ht) (by simpa using hi) (all_oneCell_toArray h1) (by simpa using h)
structure Sit (w : World) (W0 R B : Nat) (v : World) (h : StH) (s : St) : Prop where
  box : v.heap[W0]? = some (.cells (stC h s) 32 (0, 0))
  res : v.heap[R]? = some (.cells #[.slice none 0 0, .slice none 0 0, .slice none 0 0, .slice none 0 0, .slice none 0 0, .int .i64 0, .int .i64 0, .int .i64 0, .int .i64 0, .slice none 0 0, .slice none 0 0, .slice none 0 0, .slice none 0 0, .slice none 0 0, .int .i64 0, .int .i64 0] 32 (0, 0))
  ap : ∃ I, StApart B v I h s
  ext : Ext w v
  lo : W0 < B ∧ R < B ∧ W0 ≠ R ∧ w.heap.size ≤ W0 ∧ w.heap.size ≤ R ∧ B ≤ v.heap.size
namespace Sit
variable {w v v' : World} {W0 R B : Nat} {h h' : StH} {s s' : St}
theorem more (k : Sit w W0 R B v h s) (hx : Ext v v') : Sit w W0 R B v' h s :=
  ⟨hx.blk k.box, hx.blk k.res, by obtain ⟨I, a⟩ := k.ap; exact ⟨I, a.ext hx⟩, k.ext.trans hx, by have := k.lo; have := hx.size; omega⟩
theorem turn (k : Sit w W0 R B v h s) {g : Nat} (hu : Upd g v v') (hg : B ≤ g) (ha : ∃ I, StApart B v' I h s') (e : stC h s' = stC h s) : Sit w W0 R B v' h s' := by
  have l := k.lo
  have hs := hu.size
  exact ⟨by rw [e]; exact (hu.block W0 (by omega) (fun e => by injection e; omega)).trans k.box, (hu.block R (by omega) (fun e => by injection e; omega)).trans k.res, ha, k.ext.upd hu (by omega), by omega⟩
theorem setP (k : Sit w W0 R B v h s) {i : Nat} {x x' : Pr} (hi : s.ps[i]? = some x) {j : Nat} {ds : List Value} (hj : j + ds.length ≤ 13) (hx : ∀ t, t < 13 → (pL x')[t]? = if j ≤ t ∧ t < j + ds.length then ds[t - j]? else (pL x)[t]?) :
    ∃ g, h.qa = some ⟨g, 0, none⟩ ∧ v.there g (i * 13 + j) ds.length ∧ Sit w W0 R B (v.setCells g (i * 13 + j) ds) h { s with ps := s.ps.set i x' } := by
  obtain ⟨I, a⟩ := k.ap
  obtain ⟨g, h1, h2, h3, h4, h5, h6⟩ := a.setP hi hj hx
  exact ⟨g, h1, h4, k.turn h6 h2 ⟨I, h5⟩ (by unfold stC; simp only [List.length_set])⟩
theorem getP (k : Sit w W0 R B v h s) {i : Nat} {x : Pr} (hi : s.ps[i]? = some x) : ∃ g, h.qa = some ⟨g, 0, none⟩ ∧ B ≤ g ∧ v.rangeAt g (i * 13) (pL x) := by
  obtain ⟨I, a⟩ := k.ap
  obtain ⟨g, h1, h2, h3, h4, h5, h6⟩ := a.setP hi (j := 0) (ds := []) (by simp) (fun t _ => by rw [if_neg (by simp)])
  obtain ⟨b, o, e, hb, hc⟩ := (OwnRows.rows pL_len a.ps.1).get hi
  rw [h1] at e
  simp only [Option.some.injEq, Addr.mk.injEq, and_true] at e
  obtain ⟨rfl, rfl⟩ := e
  exact ⟨g, h1, h2, fun j u hu => by rw [← Nat.zero_add (i * 13)]; exact hc j u hu⟩
theorem getP' (k : Sit w W0 R B v h s) {i : Nat} {x : Pr} (hi : s.ps[i]? = some x) {g : Nat} (hg : h.qa = some ⟨g, 0, none⟩) : v.rangeAt g (i * 13) (pL x) := by
  obtain ⟨g', h1, _, h2⟩ := k.getP hi
  rw [hg] at h1
  simp only [Option.some.injEq, Addr.mk.injEq, and_true] at h1
  subst h1
  exact h2
theorem setP' (k : Sit w W0 R B v h s) {i : Nat} {x x' : Pr} (hi : s.ps[i]? = some x) {g : Nat} (hg : h.qa = some ⟨g, 0, none⟩) {j : Nat} {ds : List Value} (hj : j + ds.length ≤ 13) (hx : ∀ t, t < 13 → (pL x')[t]? = if j ≤ t ∧ t < j + ds.length then ds[t - j]? else (pL x)[t]?) :
    v.there g (i * 13 + j) ds.length ∧ Sit w W0 R B (v.setCells g (i * 13 + j) ds) h { s with ps := s.ps.set i x' } := by
  obtain ⟨g', h1, h2⟩ := k.setP hi hj hx
  rw [hg] at h1
  simp only [Option.some.injEq, Addr.mk.injEq, and_true] at h1
  subst h1
  exact h2
theorem ltP (k : Sit w W0 R B v h s) {i : Nat} {x : Pr} (hi : s.ps[i]? = some x) {g : Nat} (hg : h.qa = some ⟨g, 0, none⟩) : g < v.heap.size := by
  obtain ⟨I, a⟩ := k.ap
  obtain ⟨g', h1, h2, h3, _⟩ := a.setP hi (j := 0) (ds := []) (by simp) (fun t _ => by rw [if_neg (by simp)])
  rw [hg] at h1
  simp only [Option.some.injEq, Addr.mk.injEq, and_true] at h1
  subst h1
  exact h3
theorem there (k : Sit w W0 R B v h s) : v.there R 0 (stL h' s').length := there_row k.res (Nat.le_refl 16)
theorem fin (k : Sit w W0 R B v h s) : (v.setCells R 0 (stL h s)).heap[R]? = some (.cells (stL h s).toArray 32 (0, 0)) ∧ (∃ I, StApart w.heap.size (v.setCells R 0 (stL h s)) I h s) ∧ Ext w (v.setCells R 0 (stL h s)) := by
  have hu := setCells_upd R (stL h s) v 0
  have l := k.lo
  obtain ⟨I, a⟩ := k.ap
  exact ⟨setCells_at [.slice none 0 0, .slice none 0 0, .slice none 0 0, .slice none 0 0, .slice none 0 0, .int .i64 0, .int .i64 0, .int .i64 0, .int .i64 0, .slice none 0 0, .slice none 0 0, .slice none 0 0, .slice none 0 0, .slice none 0 0, .int .i64 0, .int .i64 0] (stL h s) rfl k.res,
    ⟨I, (a.far (But.upd (S := fun b => b = R) hu rfl) (fun b hb => by omega)).lower (by omega)⟩, k.ext.upd hu (by omega)⟩
theorem start {v0 : World} {c : World} {I : Nat → Nat × Nat} (hB : B = v0.heap.size) (hx0 : Ext w v0) (hb : v0.heap[W0]? = some (.cells (stC h s) 32 (0, 0))) (hr : v0.heap[R]? = some (.cells #[.slice none 0 0, .slice none 0 0, .slice none 0 0, .slice none 0 0, .slice none 0 0, .int .i64 0, .int .i64 0, .int .i64 0, .int .i64 0, .slice none 0 0, .slice none 0 0, .slice none 0 0, .slice none 0 0, .slice none 0 0, .int .i64 0, .int .i64 0] 32 (0, 0))) (hx : Ext v0 c) (ha : StApart B c I h' s') (h1 : W0 ≠ R) (h2 : w.heap.size ≤ W0) (h3 : w.heap.size ≤ R) :
    c.there W0 0 (stL h' s').length ∧ Sit w W0 R B (c.setCells W0 0 (stL h' s')) h' s' := by
  have hbc := hx.blk hb
  have hu := setCells_upd W0 (stL h' s') c 0
  have l1 := blk_lt hb
  have l2 := blk_lt hr
  have l3 := hx.size
  have l4 := hu.size
  exact ⟨there_row hbc (Nat.le_refl 16), setCells_at (stL h s) (stL h' s') rfl hbc, (hu.block R (by omega) (fun e => by injection e; omega)).trans (hx.blk hr), ⟨I, ha.far (But.upd (S := fun b => b = W0) hu rfl) (fun b hb => by omega)⟩, (hx0.trans hx).upd hu h2, by omega⟩
theorem glob {c : World} {A : Option Addr} {cc n : Nat} {l : List Int} {I : Nat → Nat × Nat} (k : Sit w W0 R B v h s) (a : StApart B v I h s) (hn : n = l.length) (ho : OwnInts c (I 4).1 (.slice A n cc) l) (hb : (Value.slice A n cc).ownBlock = (Value.slice h.la s.glob.length h.lc).ownBlock ∨ ∀ b, (Value.slice A n cc).ownBlock = some b → v.heap.size ≤ b)
    (hc : But (fun b => (Value.slice h.la s.glob.length h.lc).ownBlock = some b) v c) : c.cell? ⟨W0, 4, none⟩ = some (.slice h.la s.glob.length h.lc) ∧ c.frozen? ⟨W0, 4, none⟩ = false ∧ Sit w W0 R B (c.setCell ⟨W0, 4, none⟩ (.slice A n cc)) { h with la := A, lc := cc } { s with glob := l } := by
  subst hn
  have kl := k.lo
  have hlow := a.low 4 (by omega)
  have hS : ∀ b, (Value.slice h.la s.glob.length h.lc).ownBlock = some b → B ≤ b := fun b hb => by have := (World.ownsRow.lt a.glob.1 b hb).1; omega
  have b1 := hc.blk k.box (fun e => by have := hS _ e; omega)
  have b2 := hc.blk k.res (fun e => by have := hS _ e; omega)
  obtain ⟨I', a'⟩ := a.newGlob ho hb hc
  have hu := (Upd.refl W0 c).set 4 (.slice A l.length cc)
  have hcs := hc.size
  exact ⟨st4 b1, frozen_of_row _ _ 4 _ _ b1, blk_set b1 4 _, blk_set_other b2 _ (by simp only; omega) _, ⟨I', a'.far (But.upd (S := fun b => b = W0) hu rfl) (fun b hb => by omega)⟩, (But.after k.ext hc (fun b hb => by have := hS b hb; omega)).upd hu (by omega), by have := hu.size; omega⟩
end Sit
structure GlobQ (B4 : Nat) (v : World) (u0 : Value) (c : World) (u : Value) (l : List Int) : Prop where
  own : OwnInts c B4 u l
  blk : u.ownBlock = u0.ownBlock ∨ ∀ b, u.ownBlock = some b → v.heap.size ≤ b
  but : But (fun b => u0.ownBlock = some b) v c
theorem GlobQ.start {B4 : Nat} {v : World} {u0 : Value} {l : List Int} (h : OwnInts v B4 u0 l) : GlobQ B4 v u0 v u0 l := ⟨h, .inl rfl, But.refl _ _⟩
theorem GlobQ.ext {B4 : Nat} {v c c' : World} {u0 u : Value} {l : List Int} (k : GlobQ B4 v u0 c u l) (hx : Ext c c') : GlobQ B4 v u0 c' u l := ⟨k.own.ext hx, k.blk, k.but.trans (But.ext hx)⟩
theorem GlobQ.more {B4 n k0 c0 : Nat} {v c : World} {u0 u : Value} {l m : List Int} {A0 : Option Addr} (k : GlobQ B4 v u0 c u l) (hn : n = l.length) (hk : k0 = m.length) (hv : IntsAt c (.slice A0 k0 c0) m) (hB : B4 ≤ v.heap.size) (hl : l.length + m.length ≤ 100000000) :
    ∃ A cc c', (Builtin.append_ #[27, 27] 27 #[u, .slice A0 k0 c0]).run Try.prog c = .ok (.slice A (n + k0) cc) c' ∧ GlobQ B4 v u0 c' (.slice A (n + k0) cc) (l ++ m) := by
  subst hn hk
  have hcs := k.but.size
  obtain ⟨u', c', hr, ho, hg, hb⟩ := OwnInts.append2 27 k.own hv hl (by omega)
  obtain ⟨A, cc, hu⟩ := ho.form
  rw [List.length_append] at hu
  subst hu
  refine ⟨A, cc, c', hr, ⟨ho, ?_, hg.os.trans k.but.os, hg.tape.trans k.but.tape, hg.output.trans k.but.output, Nat.le_trans hcs hg.size, fun i hi hn => (hg.block i (by omega) fun e => ?_).trans (k.but.block i hi hn)⟩⟩
  · rcases hb with hb | hb
    · rcases k.blk with h1 | h1
      · exact .inl (hb.trans h1)
      · exact .inr fun b e => h1 b (hb.symm.trans e)
    · exact .inr fun b e => by have := Option.some.inj (hb.symm.trans e); omega
  · rcases k.blk with h1 | h1
    · exact hn (h1.symm.trans e.symm)
    · have := h1 i e.symm; omega
theorem Sit.globQ {w v c : World} {W0 R B n cc : Nat} {h : StH} {s : St} {I : Nat → Nat × Nat} {A : Option Addr} {l : List Int} (k : Sit w W0 R B v h s) (a : StApart B v I h s) (q : GlobQ (I 4).1 v (.slice h.la s.glob.length h.lc) c (.slice A n cc) l) (hn : n = l.length) :
    c.cell? ⟨W0, 4, none⟩ = some (.slice h.la s.glob.length h.lc) ∧ c.frozen? ⟨W0, 4, none⟩ = false ∧ Sit w W0 R B (c.setCell ⟨W0, 4, none⟩ (.slice A n cc)) { h with la := A, lc := cc } { s with glob := l } := k.glob a hn q.own q.blk q.but
namespace St
def pAt (s : St) (p : Int) : Pr := s.ps.getD (p - 1).toNat nilP
def gAt (s : St) (n : Int) : Gr := s.gs.getD (n - 1).toNat nilG
def mAt (s : St) (n : Int) : Int × Int := s.ms.getD (n - 1).toNat (0, 0)
def putP (s : St) (p : Int) (x : Pr) : St := { s with ps := s.ps.set (p - 1).toNat x }
def tail (s : St) (p g : Int) : St :=
  if 1 ≤ p ∧ p ≤ s.ps.length ∧ 1 ≤ g ∧ (s.pAt p).ring.may = true then
    if ((s.pAt p).ring.push g).2 = true then s.putP p { s.pAt p with ring := ((s.pAt p).ring.push g).1 }
    else { s.putP p { s.pAt p with ring := (s.pAt p).ring.half.1 } with glob := s.glob ++ (s.pAt p).ring.half.2 ++ [g] }
  else s
def out (s : St) (g : Int) : St := { s with w0 := s.w0.filter (· != g), w1 := s.w1.filter (· != g), w2 := s.w2.filter (· != g), w3 := s.w3.filter (· != g), timers := s.timers.filter (·.2 != g) }
def next (s : St) (p g : Int) : St := (s.putP p { s.pAt p with next := g }).tail p (s.pAt p).next
theorem pAt_of {s : St} {i : Nat} {x : Pr} (hi : s.ps[i]? = some x) : s.pAt ((i : Int) + 1) = x := by
  unfold pAt
  rw [show ((i : Int) + 1 - 1).toNat = i by omega, List.getD, hi]
  rfl
theorem gAt_of {s : St} {i : Nat} {x : Gr} (hi : s.gs[i]? = some x) : s.gAt ((i : Int) + 1) = x := by
  unfold gAt
  rw [show ((i : Int) + 1 - 1).toNat = i by omega, List.getD, hi]
  rfl
theorem mAt_of {s : St} {i : Nat} {x : Int × Int} (hi : s.ms[i]? = some x) : s.mAt ((i : Int) + 1) = x := by
  unfold mAt
  rw [show ((i : Int) + 1 - 1).toNat = i by omega, List.getD, hi]
  rfl
theorem putP_of {s : St} {i : Nat} {x : Pr} : s.putP ((i : Int) + 1) x = { s with ps := s.ps.set i x } := by
  unfold putP
  rw [show ((i : Int) + 1 - 1).toNat = i by omega]
theorem tail_no {s : St} {p g : Int} (h : ¬ (1 ≤ p ∧ p ≤ s.ps.length ∧ 1 ≤ g ∧ (s.pAt p).ring.may = true)) : s.tail p g = s := if_neg h
theorem tail_push {s : St} {i : Nat} {x : Pr} {g : Int} {r : Ri} (hi : s.ps[i]? = some x) (hg : 1 ≤ g) (hm : x.ring.may = true) (hr : x.ring.push g = (r, true)) : s.tail ((i : Int) + 1) g = { s with ps := s.ps.set i { x with ring := r } } := by
  have hl := (List.getElem?_eq_some_iff.1 hi).1
  unfold tail
  rw [pAt_of hi, if_pos ⟨by omega, by omega, hg, hm⟩, hr, if_pos rfl, putP_of]
theorem tail_half {s : St} {i : Nat} {x : Pr} {g : Int} {r r' : Ri} {o : List Int} (hi : s.ps[i]? = some x) (hg : 1 ≤ g) (hm : x.ring.may = true) (hr : x.ring.push g = (r', false)) (hh : x.ring.half = (r, o)) : s.tail ((i : Int) + 1) g = { s with ps := s.ps.set i { x with ring := r }, glob := s.glob ++ o ++ [g] } := by
  have hl := (List.getElem?_eq_some_iff.1 hi).1
  unfold tail
  rw [pAt_of hi, if_pos ⟨by omega, by omega, hg, hm⟩, hr, if_neg (by simp), putP_of, hh]
end St
set_option maxRecDepth 100000 in
set_option maxHeartbeats 6000000 in
theorem rhalf_own_in (b0 b1 b2 b3 b4 b5 b6 b7 : Int) (hd nn : Nat) (hhd : hd < 8) (hnn : nn ≤ 8) (hm : Ri.may ⟨[b0, b1, b2, b3, b4, b5, b6, b7], hd, nn⟩ = true) (e0 e1 e2 e3 e4 e5 e6 e7 eh en : Int) (o : List Int) (h : Ri.takes ((nn + 1) / 2) ⟨[b0, b1, b2, b3, b4, b5, b6, b7], hd, nn⟩ [] = (⟨[e0, e1, e2, e3, e4, e5, e6, e7], eh, en⟩, o)) (w : World) :
    Calls Try.prog 69 #[.agg #[.int .i64 b0, .int .i64 b1, .int .i64 b2, .int .i64 b3, .int .i64 b4, .int .i64 b5, .int .i64 b6, .int .i64 b7, .int .i64 (hd : Int), .int .i64 (nn : Int)]] w fun e w' => ∃ A c, e = .returned (.tuple #[.agg #[.int .i64 e0, .int .i64 e1, .int .i64 e2, .int .i64 e3, .int .i64 e4, .int .i64 e5, .int .i64 e6, .int .i64 e7, .int .i64 eh, .int .i64 en], .slice A o.length c]) ∧ OwnInts w' w.heap.size (.slice A o.length c) o ∧ Ext w w' := by
  have HM := Lib.hid hm
  have H := Lib.hid h
  clear hm h
  have f1 : IntKind.i64.wrap ((nn : Int) + 1) = ((nn + 1 : Nat) : Int) := IntWalk.i64_in _ (by omega)
  have f2 : ((nn + 1 : Nat) : Int).tdiv 2 = (((nn + 1) / 2 : Nat) : Int) := by rw [Int.tdiv_eq_ediv_of_nonneg (by omega)]; omega
  have f3 : IntKind.i64.wrap (((nn + 1) / 2 : Nat) : Int) = (((nn + 1) / 2 : Nat) : Int) := IntWalk.i64_in _ (by omega)
  go_enter Try.func69, Try.ntmps69
  go_wp2_with fail
  refine (rmay_eq b0 b1 b2 b3 b4 b5 b6 b7 hd nn _ HM.out _).mono ?_
  rintro r w1 ⟨rfl, hx1⟩
  have HX := Lib.hid ((((Ext.refl w).alloc (.cells #[.int .i64 b0, .int .i64 b1, .int .i64 b2, .int .i64 b3, .int .i64 b4, .int .i64 b5, .int .i64 b6, .int .i64 b7, .int .i64 (hd : Int), .int .i64 (nn : Int)] 38)).alloc (.cells #[.int .i64 0, .int .i64 0, .int .i64 0, .int .i64 0, .int .i64 0, .int .i64 0, .int .i64 0, .int .i64 0, .int .i64 0, .int .i64 0] 38)).trans hx1)
  have HB := Lib.hid (hx1.blk (blk_alloc (blk_new w (.cells #[.int .i64 b0, .int .i64 b1, .int .i64 b2, .int .i64 b3, .int .i64 b4, .int .i64 b5, .int .i64 b6, .int .i64 b7, .int .i64 (hd : Int), .int .i64 (nn : Int)] 38)) (.cells #[.int .i64 0, .int .i64 0, .int .i64 0, .int .i64 0, .int .i64 0, .int .i64 0, .int .i64 0, .int .i64 0, .int .i64 0, .int .i64 0] 38)))
  have HZ : Hid (w1.heap[w.heap.size + 1]? = some (.cells #[.int .i64 0, .int .i64 0, .int .i64 0, .int .i64 0, .int .i64 0, .int .i64 0, .int .i64 0, .int .i64 0, .int .i64 0, .int .i64 0] 38 (0, 0))) := Lib.hid (hx1.blk (by have := blk_new (w.alloc (.cells #[.int .i64 b0, .int .i64 b1, .int .i64 b2, .int .i64 b3, .int .i64 b4, .int .i64 b5, .int .i64 b6, .int .i64 b7, .int .i64 (hd : Int), .int .i64 (nn : Int)] 38)) (.cells #[.int .i64 0, .int .i64 0, .int .i64 0, .int .i64 0, .int .i64 0, .int .i64 0, .int .i64 0, .int .i64 0, .int .i64 0, .int .i64 0] 38); rwa [World.size_alloc] at this))
  have hsz := hx1.size
  rw [World.size_alloc, World.size_alloc] at hsz
  have p9 := blk_cell HB.out 9 (.int .i64 (nn : Int)) rfl
  clear hx1
  generalize hK : (nn + 1) / 2 = K at *
  go_wp2
  clear p9 f1 f2 f3
  have hK4 : K ≤ 4 := by omega
  go_loopw [4, 16] (fun ov iv wr => ∃ (u : Value) (j : Nat) (c0 c1 c2 c3 c4 c5 c6 c7 ch cn : Int) (l : List Int), u = ov ∧ j ≤ K ∧ iv = .int .i64 j ∧ l.length = j ∧ Ri.takes K ⟨[b0, b1, b2, b3, b4, b5, b6, b7], hd, nn⟩ [] = Ri.takes (K - j) ⟨[c0, c1, c2, c3, c4, c5, c6, c7], ch, cn⟩ l ∧ OwnInts wr (w.heap.size + 2) u l ∧ wr.heap[(w.heap.size + 1)]? = some (.cells #[.int .i64 0, .int .i64 0, .int .i64 0, .int .i64 0, .int .i64 0, .int .i64 0, .int .i64 0, .int .i64 0, .int .i64 0, .int .i64 0] 38 (0, 0)) ∧ wr.heap[w.heap.size]? = some (.cells #[.int .i64 c0, .int .i64 c1, .int .i64 c2, .int .i64 c3, .int .i64 c4, .int .i64 c5, .int .i64 c6, .int .i64 c7, .int .i64 ch, .int .i64 cn] 38 (0, 0)) ∧ Ext w wr ∧ w.heap.size + 2 ≤ wr.heap.size) (fun _ iv _ => K - (intOf iv).toNat)
  case atStart => exact ⟨_, 0, b0, b1, b2, b3, b4, b5, b6, b7, hd, nn, [], rfl, by omega, rfl, rfl, rfl, OwnInts.nil _ _, HZ.out, HB.out, HX.out, hsz⟩
  case round =>
    obtain ⟨u, j, c0, c1, c2, c3, c4, c5, c6, c7, ch, cn, l, hu, hj, rfl, hll, hs, hown, hb1, hb0, hx, hsz⟩ := hrel
    subst hu
    have HS := Lib.hid hs
    have HOWN := Lib.hid hown
    have HLL := Lib.hid hll
    have HZB := Lib.hid hb1
    have HB0 := Lib.hid hb0
    have HX := Lib.hid hx
    obtain ⟨A0, a0, rfl⟩ := OwnInts.form HOWN.out
    clear hs hown hb0 hb1 hx hll
    by_cases hlt : j < K
    · obtain ⟨d0, d1, d2, d3, d4, d5, d6, d7, hds⟩ := list8 (Ri.pop_len (r := ⟨[c0, c1, c2, c3, c4, c5, c6, c7], ch, cn⟩) rfl)
      rcases hp : Ri.pop ⟨[c0, c1, c2, c3, c4, c5, c6, c7], ch, cn⟩ with ⟨⟨ds, dh, dn⟩, x, k⟩
      rw [hp] at hds
      simp only at hds
      subst hds
      have HP := Lib.hid hp
      have hofs := HS.out
      rw [show K - j = (K - (j + 1)) + 1 by omega] at hofs
      simp only [Ri.takes, hp] at hofs
      have HO := Lib.hid hofs
      clear hp hofs HS
      obtain ⟨⟨q0, q1, q2, q3, q4⟩, q5, q6, q7, q8, q9⟩ := cells10 HB0.out
      go_wp2_with fail
      refine (rpop_k c0 c1 c2 c3 c4 c5 c6 c7 ch cn d0 d1 d2 d3 d4 d5 d6 d7 dh dn x k HP.out _).mono ?_
      rintro r wq ⟨rfl, hx5⟩
      clear q0 q1 q2 q3 q4 q5 q6 q7 q8 q9
      have hsz5 := hx5.size
      have HX5 : Hid (Ext w (wq.alloc (.cells #[.int .i64 d0, .int .i64 d1, .int .i64 d2, .int .i64 d3, .int .i64 d4, .int .i64 d5, .int .i64 d6, .int .i64 d7, .int .i64 dh, .int .i64 dn] 38))) := Lib.hid ((HX.out.trans hx5).alloc _)
      have HZ5 : Hid ((wq.alloc (.cells #[.int .i64 d0, .int .i64 d1, .int .i64 d2, .int .i64 d3, .int .i64 d4, .int .i64 d5, .int .i64 d6, .int .i64 d7, .int .i64 dh, .int .i64 dn] 38)).heap[(w.heap.size + 1)]? = some (.cells #[.int .i64 0, .int .i64 0, .int .i64 0, .int .i64 0, .int .i64 0, .int .i64 0, .int .i64 0, .int .i64 0, .int .i64 0, .int .i64 0] 38 (0, 0))) := Lib.hid (blk_alloc (hx5.blk HZB.out) _)
      have HB5 : Hid ((wq.alloc (.cells #[.int .i64 d0, .int .i64 d1, .int .i64 d2, .int .i64 d3, .int .i64 d4, .int .i64 d5, .int .i64 d6, .int .i64 d7, .int .i64 dh, .int .i64 dn] 38)).heap[w.heap.size]? = some (.cells #[.int .i64 c0, .int .i64 c1, .int .i64 c2, .int .i64 c3, .int .i64 c4, .int .i64 c5, .int .i64 c6, .int .i64 c7, .int .i64 ch, .int .i64 cn] 38 (0, 0))) := Lib.hid (blk_alloc (hx5.blk HB0.out) _)
      have HN5 : Hid ((wq.alloc (.cells #[.int .i64 d0, .int .i64 d1, .int .i64 d2, .int .i64 d3, .int .i64 d4, .int .i64 d5, .int .i64 d6, .int .i64 d7, .int .i64 dh, .int .i64 dn] 38)).heap[wq.heap.size]? = some (.cells #[.int .i64 d0, .int .i64 d1, .int .i64 d2, .int .i64 d3, .int .i64 d4, .int .i64 d5, .int .i64 d6, .int .i64 d7, .int .i64 dh, .int .i64 dn] 38 (0, 0))) := Lib.hid (blk_new _ _)
      have HO5 : Hid (OwnInts (wq.alloc (.cells #[.int .i64 d0, .int .i64 d1, .int .i64 d2, .int .i64 d3, .int .i64 d4, .int .i64 d5, .int .i64 d6, .int .i64 d7, .int .i64 dh, .int .i64 dn] 38)) (w.heap.size + 2) (.slice A0 l.length a0) l) := Lib.hid ((HOWN.out.ext hx5).alloc _)
      have hs5 : w.heap.size + 2 ≤ (wq.alloc (.cells #[.int .i64 d0, .int .i64 d1, .int .i64 d2, .int .i64 d3, .int .i64 d4, .int .i64 d5, .int .i64 d6, .int .i64 d7, .int .i64 dh, .int .i64 dn] 38)).heap.size := by rw [World.size_alloc]; omega
      clear hx5 HZB HB0 HX HOWN hsz5
      generalize hw5 : wq.alloc (.cells #[.int .i64 d0, .int .i64 d1, .int .i64 d2, .int .i64 d3, .int .i64 d4, .int .i64 d5, .int .i64 d6, .int .i64 d7, .int .i64 dh, .int .i64 dn] 38) = w5 at *
      have HU := Lib.hid (upd10 w.heap.size w5 (.int .i64 d0) (.int .i64 d1) (.int .i64 d2) (.int .i64 d3) (.int .i64 d4) (.int .i64 d5) (.int .i64 d6) (.int .i64 d7) (.int .i64 dh) (.int .i64 dn))
      have HB7 := Lib.hid (set10_at HB5.out (.int .i64 d0) (.int .i64 d1) (.int .i64 d2) (.int .i64 d3) (.int .i64 d4) (.int .i64 d5) (.int .i64 d6) (.int .i64 d7) (.int .i64 dh) (.int .i64 dn))
      have HX7 := Lib.hid (set10_ext HX5.out (Nat.le_refl _) (.int .i64 d0) (.int .i64 d1) (.int .i64 d2) (.int .i64 d3) (.int .i64 d4) (.int .i64 d5) (.int .i64 d6) (.int .i64 d7) (.int .i64 dh) (.int .i64 dn))
      have HZB := HB5
      obtain ⟨⟨z0, z1, z2, z3, z4⟩, z5, z6, z7, z8, z9⟩ := cells10 HZB.out
      obtain ⟨⟨y0, y1, y2, y3, y4⟩, y5, y6, y7, y8, y9⟩ := frozen10 HZB.out
      obtain ⟨⟨q0, q1, q2, q3, q4⟩, q5, q6, q7, q8, q9⟩ := cells10 HN5.out
      go_upto_region 8 with fail
      generalize hw7 : ((((((((((w5.setCell ⟨w.heap.size, 0, none⟩ (.int .i64 d0)).setCell ⟨w.heap.size, 1, none⟩ (.int .i64 d1)).setCell ⟨w.heap.size, 2, none⟩ (.int .i64 d2)).setCell ⟨w.heap.size, 3, none⟩ (.int .i64 d3)).setCell ⟨w.heap.size, 4, none⟩ (.int .i64 d4)).setCell ⟨w.heap.size, 5, none⟩ (.int .i64 d5)).setCell ⟨w.heap.size, 6, none⟩ (.int .i64 d6)).setCell ⟨w.heap.size, 7, none⟩ (.int .i64 d7)).setCell ⟨w.heap.size, 8, none⟩ (.int .i64 dh)).setCell ⟨w.heap.size, 9, none⟩ (.int .i64 dn)) = w7 at *
      have HZ7 : Hid (w7.heap[(w.heap.size + 1)]? = some (.cells #[.int .i64 0, .int .i64 0, .int .i64 0, .int .i64 0, .int .i64 0, .int .i64 0, .int .i64 0, .int .i64 0, .int .i64 0, .int .i64 0] 38 (0, 0))) := Lib.hid (HU.out.blk HZ5.out (by omega))
      have HO7 : Hid (OwnInts w7 (w.heap.size + 2) (.slice A0 l.length a0) l) := Lib.hid (OwnInts.kept HO5.out HU.out (by omega))
      have hs7 := HU.out.sz
      clear z0 z1 z2 z3 z4 z5 z6 z7 z8 z9 y0 y1 y2 y3 y4 y5 y6 y7 y8 y9
      clear q0 q1 q2 q3 q4 q5 q6 q7 q8 q9
      clear hw7 hw5 HZB HB5 HZ5 HN5 HO5 HX5
      obtain ⟨u, w8, hr8, ho8, hg8⟩ := OwnInts.appendS 27 (OwnInts.alloc HO7.out (.cells #[.int .i64 x] 3)) (m := [x]) (ints_one w7 x) (by have := HLL.out; simp; omega) (by simp; omega)
      simp only [List.length_singleton] at hr8
      have HR8 := Lib.hid hr8
      have hub : ∀ k, (Value.slice A0 l.length a0).ownBlock = some k → w.heap.size + 2 ≤ k := fun k hk => (World.ownsRow.lt HO7.out k hk).1
      have hX8 := Below.grown (HX7.out.alloc (.cells #[.int .i64 x] 3)) hg8 (by rw [World.size_alloc]; omega) (fun k hk => by have := hub k hk; omega)
      have hz8 : w8.heap[(w.heap.size + 1)]? = some (.cells #[.int .i64 0, .int .i64 0, .int .i64 0, .int .i64 0, .int .i64 0, .int .i64 0, .int .i64 0, .int .i64 0, .int .i64 0, .int .i64 0] 38 (0, 0)) := (hg8.block (w.heap.size + 1) (by rw [World.size_alloc]; omega) (fun hk => by have := hub _ hk.symm; omega)).trans (blk_alloc HZ7.out _)
      have hb8 : w8.heap[w.heap.size]? = some (.cells #[.int .i64 d0, .int .i64 d1, .int .i64 d2, .int .i64 d3, .int .i64 d4, .int .i64 d5, .int .i64 d6, .int .i64 d7, .int .i64 dh, .int .i64 dn] 38 (0, 0)) := (hg8.block w.heap.size (by rw [World.size_alloc]; omega) (fun hk => by have := hub _ hk.symm; omega)).trans (blk_alloc HB7.out _)
      have hs8 := hg8.size
      rw [World.size_alloc] at hs8
      have HEND : Hid (OwnInts w8 (w.heap.size + 2) u (l ++ [x]) ∧ w8.heap[(w.heap.size + 1)]? = some (.cells #[.int .i64 0, .int .i64 0, .int .i64 0, .int .i64 0, .int .i64 0, .int .i64 0, .int .i64 0, .int .i64 0, .int .i64 0, .int .i64 0] 38 (0, 0)) ∧ w8.heap[w.heap.size]? = some (.cells #[.int .i64 d0, .int .i64 d1, .int .i64 d2, .int .i64 d3, .int .i64 d4, .int .i64 d5, .int .i64 d6, .int .i64 d7, .int .i64 dh, .int .i64 dn] 38 (0, 0)) ∧ Ext w w8 ∧ w.heap.size + 2 ≤ w8.heap.size) := Lib.hid ⟨ho8, hz8, hb8, hX8, by omega⟩
      clear hr8 ho8 hg8 hub hX8 hz8 hb8 HU HB7 HX7 HZ7
      go_wp2_with (at_builtin; refine wpList_append_run rfl _ _ 27 rfl _ _ rfl rfl HR8.out ?_)
      go_roundw
      case rel => exact ⟨u, j + 1, d0, d1, d2, d3, d4, d5, d6, d7, dh, dn, l ++ [x], rfl, by omega, by go_num, by simp [HLL.out], HO.out, HEND.out⟩
      case measure => simp [intOf]; omega
    · obtain rfl : j = K := by omega
      have hofs := H.out.symm.trans HS.out
      rw [Nat.sub_self] at hofs
      simp only [Ri.takes, Prod.mk.injEq, Ri.mk.injEq, List.cons.injEq, and_true] at hofs
      obtain ⟨⟨⟨rfl, rfl, rfl, rfl, rfl, rfl, rfl, rfl⟩, rfl, rfl⟩, rfl⟩ := hofs
      obtain ⟨⟨z0, z1, z2, z3, z4⟩, z5, z6, z7, z8, z9⟩ := cells10 HZB.out
      obtain ⟨⟨y0, y1, y2, y3, y4⟩, y5, y6, y7, y8, y9⟩ := frozen10 HZB.out
      obtain ⟨⟨q0, q1, q2, q3, q4⟩, q5, q6, q7, q8, q9⟩ := cells10 HB0.out
      go_wp2
      have hzz := set10_at HZB.out (.int .i64 e0) (.int .i64 e1) (.int .i64 e2) (.int .i64 e3) (.int .i64 e4) (.int .i64 e5) (.int .i64 e6) (.int .i64 e7) (.int .i64 eh) (.int .i64 en)
      have HO9 := OwnInts.kept HOWN.out (upd10 (w.heap.size + 1) wr (.int .i64 e0) (.int .i64 e1) (.int .i64 e2) (.int .i64 e3) (.int .i64 e4) (.int .i64 e5) (.int .i64 e6) (.int .i64 e7) (.int .i64 eh) (.int .i64 en)) (by omega)
      clear z0 z1 z2 z3 z4 z5 z6 z7 z8 z9 y0 y1 y2 y3 y4 y5 y6 y7 y8 y9
      clear q0 q1 q2 q3 q4 q5 q6 q7 q8 q9
      obtain ⟨⟨t0, t1, t2, t3, t4⟩, t5, t6, t7, t8, t9⟩ := cells10 hzz
      refine bodyPost_ret (v := .tuple #[.agg #[.int .i64 e0, .int .i64 e1, .int .i64 e2, .int .i64 e3, .int .i64 e4, .int .i64 e5, .int .i64 e6, .int .i64 e7, .int .i64 eh, .int .i64 en], .slice A0 o.length a0]) (by simp [results, Try.results69, go_sem, t0, t1, t2, t3, t4, t5, t6, t7, t8, t9]) rfl ⟨_, _, rfl, ?_, ?_⟩
      · exact OwnInts.lower HO9 (by omega)
      · exact set10_ext HX.out (by omega) _ _ _ _ _ _ _ _ _ _
theorem rhalf_own (b0 b1 b2 b3 b4 b5 b6 b7 hd nn : Int) (e0 e1 e2 e3 e4 e5 e6 e7 eh en : Int) (o : List Int) (h : Ri.half ⟨[b0, b1, b2, b3, b4, b5, b6, b7], hd, nn⟩ = (⟨[e0, e1, e2, e3, e4, e5, e6, e7], eh, en⟩, o)) (w : World) :
    Calls Try.prog 69 #[.agg #[.int .i64 b0, .int .i64 b1, .int .i64 b2, .int .i64 b3, .int .i64 b4, .int .i64 b5, .int .i64 b6, .int .i64 b7, .int .i64 hd, .int .i64 nn]] w fun e w' => ∃ A c, e = .returned (.tuple #[.agg #[.int .i64 e0, .int .i64 e1, .int .i64 e2, .int .i64 e3, .int .i64 e4, .int .i64 e5, .int .i64 e6, .int .i64 e7, .int .i64 eh, .int .i64 en], .slice A o.length c]) ∧ OwnInts w' w.heap.size (.slice A o.length c) o ∧ Ext w w' := by
  unfold Ri.half at h
  split at h
  · rename_i hm
    have hi : Ri.inside ⟨[b0, b1, b2, b3, b4, b5, b6, b7], hd, nn⟩ = true := by have := hm; unfold Ri.may at this; rw [Bool.and_eq_true] at this; exact this.1
    obtain ⟨a, n, rfl, rfl, h1, h2⟩ := Ri.inside_nat hi
    exact rhalf_own_in b0 b1 b2 b3 b4 b5 b6 b7 a n h1 h2 hm e0 e1 e2 e3 e4 e5 e6 e7 eh en o h w
  · rename_i hm
    simp only [Prod.mk.injEq, Ri.zero, Ri.mk.injEq, List.cons.injEq, and_true] at h
    obtain ⟨⟨⟨rfl, rfl, rfl, rfl, rfl, rfl, rfl, rfl⟩, rfl, rfl⟩, rfl⟩ := h
    refine (rhalf_no b0 b1 b2 b3 b4 b5 b6 b7 hd nn (by simpa using hm) w).mono ?_
    rintro e w' ⟨rfl, hx⟩
    exact ⟨none, 0, rfl, OwnInts.nil _ _, hx⟩
theorem Ri.takes_olen : ∀ (k : Nat) (r : Ri) (o : List Int), (Ri.takes k r o).2.length = o.length + k
  | 0, r, o => rfl
  | k + 1, r, o => by
    unfold Ri.takes
    rw [Ri.takes_olen k, List.length_append, List.length_singleton]
    omega
theorem Ri.half_olen {r : Ri} (h : r.may = true) : r.half.2.length ≤ 8 := by
  unfold Ri.half
  rw [if_pos h, Ri.takes_olen]
  have hi : r.inside = true := by unfold Ri.may at h; rw [Bool.and_eq_true] at h; exact h.1
  have := (Ri.inside_iff r).1 hi
  simp only [List.length_nil]
  omega
theorem Ri.takes_len : ∀ (k : Nat) (r : Ri) (o : List Int), r.buf.length = 8 → (Ri.takes k r o).1.buf.length = 8
  | 0, r, o, h => h
  | k + 1, r, o, h => by
    unfold Ri.takes
    exact Ri.takes_len k _ _ (Ri.pop_len h)
theorem Ri.half_len {r : Ri} (h : r.buf.length = 8) : r.half.1.buf.length = 8 := by
  unfold Ri.half
  split
  · exact Ri.takes_len _ _ _ h
  · rfl
def rL (r : Ri) : List Value := r.buf.map (Value.int .i64) ++ [.int .i64 r.head, .int .i64 r.n]
theorem rL_len {r : Ri} (h : r.buf.length = 8) : (rL r).length = 10 := by simp [rL, h]
theorem rL_one (r : Ri) : ∀ u ∈ rL r, u.oneCell' = true := by
  intro u hu
  simp only [rL, List.mem_append, List.mem_map, List.mem_cons, List.not_mem_nil, or_false] at hu
  rcases hu with ⟨x, _, rfl⟩ | rfl | rfl <;> rfl
theorem pL_ring {x : Pr} {r : Ri} (hb : x.ring.buf.length = 8) (hr : r.buf.length = 8) : ∀ t, t < 13 → (pL { x with ring := r })[t]? = if 2 ≤ t ∧ t < 2 + (rL r).length then (rL r)[t - 2]? else (pL x)[t]? := by
  obtain ⟨m, nx, r0, sq⟩ := x
  obtain ⟨b0, b1, b2, b3, b4, b5, b6, b7, hd, nn, rfl⟩ := Ri.open8 hb
  obtain ⟨c0, c1, c2, c3, c4, c5, c6, c7, hd', nn', rfl⟩ := Ri.open8 hr
  intro t ht
  obtain rfl | rfl | rfl | rfl | rfl | rfl | rfl | rfl | rfl | rfl | rfl | rfl | rfl : t = 0 ∨ t = 1 ∨ t = 2 ∨ t = 3 ∨ t = 4 ∨ t = 5 ∨ t = 6 ∨ t = 7 ∨ t = 8 ∨ t = 9 ∨ t = 10 ∨ t = 11 ∨ t = 12 := by omega
  all_goals rfl
theorem range_ring {v : World} {g o : Nat} {m nx sq : Int} {b0 b1 b2 b3 b4 b5 b6 b7 hd nn : Int} (h : v.rangeAt g o (pL ⟨m, nx, ⟨[b0, b1, b2, b3, b4, b5, b6, b7], hd, nn⟩, sq⟩)) : v.rangeAt g (o + 2) (rL ⟨[b0, b1, b2, b3, b4, b5, b6, b7], hd, nn⟩) := fun j u hu => by
  rw [Nat.add_assoc]
  have hj := (List.getElem?_eq_some_iff.1 hu).1
  have hj10 : j < 10 := hj
  refine h (2 + j) u ?_
  obtain rfl | rfl | rfl | rfl | rfl | rfl | rfl | rfl | rfl | rfl : j = 0 ∨ j = 1 ∨ j = 2 ∨ j = 3 ∨ j = 4 ∨ j = 5 ∨ j = 6 ∨ j = 7 ∨ j = 8 ∨ j = 9 := by omega
  all_goals exact hu
theorem ring_box (v : World) {r : Ri} (hr : r.buf.length = 8) : ∃ va vb, v.alloc (.cells #[.int .i64 0, .int .i64 0, .int .i64 0, .int .i64 0, .int .i64 0, .int .i64 0, .int .i64 0, .int .i64 0, .int .i64 0, .int .i64 0] 38) = va ∧ va.setCells v.heap.size 0 (rL r) = vb ∧ va.there v.heap.size 0 (rL r).length ∧ vb.heap[v.heap.size]? = some (.cells (rL r).toArray 38 (0, 0)) ∧ Ext v vb := by
  have hb := blk_new v (.cells #[.int .i64 0, .int .i64 0, .int .i64 0, .int .i64 0, .int .i64 0, .int .i64 0, .int .i64 0, .int .i64 0, .int .i64 0, .int .i64 0] 38)
  refine ⟨_, _, rfl, rfl, there_row hb (by rw [rL_len hr]; exact Nat.le_refl 10), setCells_at [.int .i64 0, .int .i64 0, .int .i64 0, .int .i64 0, .int .i64 0, .int .i64 0, .int .i64 0, .int .i64 0, .int .i64 0, .int .i64 0] (rL r) (by rw [rL_len hr]; rfl) hb, Ext.upd (a := v) ((Ext.refl v).alloc _) (setCells_upd _ _ _ _) (Nat.le_refl _)⟩
set_option maxRecDepth 100000 in
set_option maxHeartbeats 16000000 in
theorem rdTail_any (h : StH) (s : St) (p g : Int) (w : World) (hk : StOk w h s) (hf : StFew s) : Calls Try.prog 25 #[stV h s, .int .i64 p, .int .i64 g] w fun e w' => ∃ h' I, e = .returned (stV h' (s.tail p g)) ∧ StApart w.heap.size w' I h' (s.tail p g) ∧ Ext w w' := by
  have HF := Lib.hid hf
  have HK := Lib.hid hk
  obtain ⟨W0, hW0⟩ : ∃ W0, w.heap.size = W0 := ⟨_, rfl⟩
  obtain ⟨R, hR⟩ : ∃ R, W0 + 1 = R := ⟨_, rfl⟩
  obtain ⟨w2, hw2⟩ : ∃ w2, (w.alloc (.cells #[.slice h.pa s.prog.length h.pc, .slice h.ga s.gs.length h.gc, .slice h.qa s.ps.length h.qc, .slice h.ma s.ms.length h.mc, .slice h.la s.glob.length h.lc, .int .i64 s.c0, .int .i64 s.c1, .int .i64 s.c2, .int .i64 s.c3, .slice h.a0 s.w0.length h.k0, .slice h.a1 s.w1.length h.k1, .slice h.a2 s.w2.length h.k2, .slice h.a3 s.w3.length h.k3, .slice h.ta s.timers.length h.tc, .int .i64 s.clock, .int .i64 s.procs] 32)).alloc (.cells #[.slice none 0 0, .slice none 0 0, .slice none 0 0, .slice none 0 0, .slice none 0 0, .int .i64 0, .int .i64 0, .int .i64 0, .int .i64 0, .slice none 0 0, .slice none 0 0, .slice none 0 0, .slice none 0 0, .slice none 0 0, .int .i64 0, .int .i64 0] 32) = w2 := ⟨_, rfl⟩
  have HX1 : Hid (Ext w w2) := Lib.hid (by rw [← hw2]; exact ((Ext.refl w).alloc _).alloc _)
  have HB1 : Hid (w2.heap[W0]? = some (.cells (stC h s) 32 (0, 0))) := Lib.hid (by rw [← hw2, ← hW0]; exact blk_alloc (blk_new w _) _)
  have HR1 : Hid (w2.heap[R]? = some (.cells #[.slice none 0 0, .slice none 0 0, .slice none 0 0, .slice none 0 0, .slice none 0 0, .int .i64 0, .int .i64 0, .int .i64 0, .int .i64 0, .slice none 0 0, .slice none 0 0, .slice none 0 0, .slice none 0 0, .slice none 0 0, .int .i64 0, .int .i64 0] 32 (0, 0))) := Lib.hid (by
    have := blk_new (w.alloc (.cells #[.slice h.pa s.prog.length h.pc, .slice h.ga s.gs.length h.gc, .slice h.qa s.ps.length h.qc, .slice h.ma s.ms.length h.mc, .slice h.la s.glob.length h.lc, .int .i64 s.c0, .int .i64 s.c1, .int .i64 s.c2, .int .i64 s.c3, .slice h.a0 s.w0.length h.k0, .slice h.a1 s.w1.length h.k1, .slice h.a2 s.w2.length h.k2, .slice h.a3 s.w3.length h.k3, .slice h.ta s.timers.length h.tc, .int .i64 s.clock, .int .i64 s.procs] 32)) (.cells #[.slice none 0 0, .slice none 0 0, .slice none 0 0, .slice none 0 0, .slice none 0 0, .int .i64 0, .int .i64 0, .int .i64 0, .int .i64 0, .slice none 0 0, .slice none 0 0, .slice none 0 0, .slice none 0 0, .slice none 0 0, .int .i64 0, .int .i64 0] 32)
    rw [hw2, World.size_alloc, hW0, hR] at this
    exact this)
  have HRR := Lib.hid hR
  have HW0 := Lib.hid hW0
  have HW2 := Lib.hid hw2
  have HK1 := Lib.hid (hk.ext HX1.out)
  clear hk hf hw2 hW0 hR
  obtain ⟨PQ, hPQ⟩ : ∃ PQ : Ending → World → Prop, PQ = fun e w' => ∃ h' I, e = .returned (stV h' (s.tail p g)) ∧ StApart w.heap.size w' I h' (s.tail p g) ∧ Ext w w' := ⟨_, rfl⟩
  rw [← hPQ]
  have HPQ := Lib.hid hPQ
  clear hPQ
  unfold stV
  go_enter Try.func25, Try.ntmps25
  go_upto_region 1 with fail
  rw [HW2.out, HW0.out, HRR.out]
  generalize Value.agg #[.slice h.pa s.prog.length h.pc, .slice h.ga s.gs.length h.gc, .slice h.qa s.ps.length h.qc, .slice h.ma s.ms.length h.mc, .slice h.la s.glob.length h.lc, .int .i64 s.c0, .int .i64 s.c1, .int .i64 s.c2, .int .i64 s.c3, .slice h.a0 s.w0.length h.k0, .slice h.a1 s.w1.length h.k1, .slice h.a2 s.w2.length h.k2, .slice h.a3 s.w3.length h.k3, .slice h.ta s.timers.length h.tc, .int .i64 s.clock, .int .i64 s.procs] = sv0
  go_wp2_with (refine wpList_load_rowW (by rfl) 32 _ rfl W0 (by go_simp) (stL h s) (stV h s) rfl _ (range_row HB1.out) Try.underlying32 rfl (by kernel_rfl) ?_)
  refine (sCopy_any h s _ HK1.out HF.out).mono ?_
  rintro e w3 ⟨h1, L, rfl, ho, hL, hx⟩
  obtain ⟨w4, hw4⟩ : ∃ w4, w3.setCells W0 0 (stL h1 s) = w4 := ⟨_, rfl⟩
  have hst := Sit.start (w := w) rfl HX1.out HB1.out HR1.out hx (ho.apart hL) (by have := HRR.out; omega) (by have := HW0.out; omega) (by have := HW0.out; have := HRR.out; omega)
  rw [hw4] at hst
  have HTH := Lib.hid hst.1
  have S4 := Lib.hid hst.2
  have HW4 := Lib.hid hw4
  clear ho hL hx hst hw4
  go_upto_region 2 with (refine wpList_store_row rfl 32 _ _ rfl W0 (stL h1 s) (stV h1 s) (by go_simp) (by go_simp) rfl HTH.out (by kernel_rfl) (stL_one _ _) HW4.out ?_)
  have q2 := st2 S4.out.box
  by_cases a1 : p < 1
  · have HE : Hid (s.tail p g = s) := Lib.hid (St.tail_no (by omega))
    go_upto_if 37 with fail
    obtain ⟨wf, hwf⟩ : ∃ wf, w4.setCells R 0 (stL h1 s) = wf := ⟨_, rfl⟩
    have HWF := Lib.hid hwf
    have hfi := S4.out.fin
    rw [hwf] at hfi
    have HFI := Lib.hid hfi
    have HTR := Lib.hid (S4.out.there (h' := h1) (s' := s))
    clear hwf hfi
    go_wp2_with (first | (refine wpList_load_rowW (by rfl) 32 _ rfl W0 (by go_simp) (stL h1 s) (stV h1 s) rfl _ (range_row S4.out.box) Try.underlying32 rfl (by kernel_rfl) ?_) | (refine wpList_store_row rfl 32 _ _ rfl R (stL h1 s) (stV h1 s) (by go_simp) (by go_simp) rfl HTR.out (by kernel_rfl) (stL_one _ _) HWF.out ?_))
    refine bodyPost_ret (v := .agg (stL h1 s).toArray) (results_cell_row rfl _ _ R _ _ _ _ rfl HFI.out.1 Try.underlying32 rfl (by kernel_rfl)) rfl ?_
    obtain ⟨I, hI⟩ := HFI.out.2.1
    rw [HPQ.out, HE.out]
    exact ⟨h1, I, rfl, hI, HFI.out.2.2⟩
  by_cases a2 : (s.ps.length : Int) < p
  · have HE : Hid (s.tail p g = s) := Lib.hid (St.tail_no (by omega))
    go_upto_if 37 with fail
    obtain ⟨wf, hwf⟩ : ∃ wf, w4.setCells R 0 (stL h1 s) = wf := ⟨_, rfl⟩
    have HWF := Lib.hid hwf
    have hfi := S4.out.fin
    rw [hwf] at hfi
    have HFI := Lib.hid hfi
    have HTR := Lib.hid (S4.out.there (h' := h1) (s' := s))
    clear hwf hfi
    go_wp2_with (first | (refine wpList_load_rowW (by rfl) 32 _ rfl W0 (by go_simp) (stL h1 s) (stV h1 s) rfl _ (range_row S4.out.box) Try.underlying32 rfl (by kernel_rfl) ?_) | (refine wpList_store_row rfl 32 _ _ rfl R (stL h1 s) (stV h1 s) (by go_simp) (by go_simp) rfl HTR.out (by kernel_rfl) (stL_one _ _) HWF.out ?_))
    refine bodyPost_ret (v := .agg (stL h1 s).toArray) (results_cell_row rfl _ _ R _ _ _ _ rfl HFI.out.1 Try.underlying32 rfl (by kernel_rfl)) rfl ?_
    obtain ⟨I, hI⟩ := HFI.out.2.1
    rw [HPQ.out, HE.out]
    exact ⟨h1, I, rfl, hI, HFI.out.2.2⟩
  by_cases a3 : g < 1
  · have HE : Hid (s.tail p g = s) := Lib.hid (St.tail_no (by omega))
    go_upto_if 37 with fail
    obtain ⟨wf, hwf⟩ : ∃ wf, w4.setCells R 0 (stL h1 s) = wf := ⟨_, rfl⟩
    have HWF := Lib.hid hwf
    have hfi := S4.out.fin
    rw [hwf] at hfi
    have HFI := Lib.hid hfi
    have HTR := Lib.hid (S4.out.there (h' := h1) (s' := s))
    clear hwf hfi
    go_wp2_with (first | (refine wpList_load_rowW (by rfl) 32 _ rfl W0 (by go_simp) (stL h1 s) (stV h1 s) rfl _ (range_row S4.out.box) Try.underlying32 rfl (by kernel_rfl) ?_) | (refine wpList_store_row rfl 32 _ _ rfl R (stL h1 s) (stV h1 s) (by go_simp) (by go_simp) rfl HTR.out (by kernel_rfl) (stL_one _ _) HWF.out ?_))
    refine bodyPost_ret (v := .agg (stL h1 s).toArray) (results_cell_row rfl _ _ R _ _ _ _ rfl HFI.out.1 Try.underlying32 rfl (by kernel_rfl)) rfl ?_
    obtain ⟨I, hI⟩ := HFI.out.2.1
    rw [HPQ.out, HE.out]
    exact ⟨h1, I, rfl, hI, HFI.out.2.2⟩
  obtain ⟨i, rfl⟩ : ∃ i : Nat, p = (i : Int) + 1 := ⟨(p - 1).toNat, by omega⟩
  obtain ⟨x, hp⟩ : ∃ x, s.ps[i]? = some x := ⟨_, List.getElem?_eq_getElem (by omega)⟩
  have hb8 := HK.out.buf _ (List.mem_of_getElem? hp)
  obtain ⟨m, nx, r, sq⟩ := x
  obtain ⟨b0, b1, b2, b3, b4, b5, b6, b7, hd, nn, rfl⟩ := Ri.open8 hb8
  have HG1 : Hid (1 ≤ g) := Lib.hid (by omega)
  have HP := Lib.hid hp
  have HB8 := Lib.hid hb8
  clear hb8 hp q2
  have e1 : (i : Int) + 1 - 1 = (i : Int) := by omega
  have e4 : (i : Int) < (s.ps.length : Int) := by omega
  have e5 : (i : Int) < 100000 := by have := HF.out.ps; omega
  obtain ⟨bq, hqa, hqb, hrg⟩ := S4.out.getP HP.out
  have q2 : w4.cell? ⟨W0, 2, none⟩ = some (.slice (some ⟨bq, 0, none⟩) s.ps.length h1.qc) := by rw [← hqa]; exact st2 S4.out.box
  have HQA := Lib.hid hqa
  have HRG := Lib.hid (range_ring hrg)
  obtain ⟨rv, hrv⟩ : ∃ rv, Value.agg #[.int .i64 b0, .int .i64 b1, .int .i64 b2, .int .i64 b3, .int .i64 b4, .int .i64 b5, .int .i64 b6, .int .i64 b7, .int .i64 hd, .int .i64 nn] = rv := ⟨_, rfl⟩
  have HRV := Lib.hid hrv
  clear hqa hrg hrv
  go_wp2_with (refine wpList_load_rowM (by rfl) 38 _ rfl bq (i * 13 + 2) (by go_simp) (rL ⟨[b0, b1, b2, b3, b4, b5, b6, b7], hd, nn⟩) rv HRV.out.symm _ HRG.out Try.underlying38 rfl (by kernel_rfl) ?_)
  rw [← HRV.out]
  refine (rmay_eq b0 b1 b2 b3 b4 b5 b6 b7 hd nn _ rfl _).mono ?_
  rintro e w5 ⟨rfl, hx5⟩
  have S5 := Lib.hid (S4.out.more hx5)
  clear hx5 q2
  cases bm : Ri.may ⟨[b0, b1, b2, b3, b4, b5, b6, b7], hd, nn⟩ with
  | false =>
    have HE : Hid (s.tail ((i : Int) + 1) g = s) := Lib.hid (St.tail_no (by rw [St.pAt_of HP.out]; simp [bm]))
    go_upto_if 37 with fail
    obtain ⟨wf, hwf⟩ : ∃ wf, w5.setCells R 0 (stL h1 s) = wf := ⟨_, rfl⟩
    have HWF := Lib.hid hwf
    have hfi := S5.out.fin
    rw [hwf] at hfi
    have HFI := Lib.hid hfi
    have HTR := Lib.hid (S5.out.there (h' := h1) (s' := s))
    clear hwf hfi
    go_wp2_with (first | (refine wpList_load_rowW (by rfl) 32 _ rfl W0 (by go_simp) (stL h1 s) (stV h1 s) rfl _ (range_row S5.out.box) Try.underlying32 rfl (by kernel_rfl) ?_) | (refine wpList_store_row rfl 32 _ _ rfl R (stL h1 s) (stV h1 s) (by go_simp) (by go_simp) rfl HTR.out (by kernel_rfl) (stL_one _ _) HWF.out ?_))
    refine bodyPost_ret (v := .agg (stL h1 s).toArray) (results_cell_row rfl _ _ R _ _ _ _ rfl HFI.out.1 Try.underlying32 rfl (by kernel_rfl)) rfl ?_
    obtain ⟨I, hI⟩ := HFI.out.2.1
    rw [HPQ.out, HE.out]
    exact ⟨h1, I, rfl, hI, HFI.out.2.2⟩
  | true =>
  have HBM := Lib.hid bm
  clear bm
  have q2 : w5.cell? ⟨W0, 2, none⟩ = some (.slice (some ⟨bq, 0, none⟩) s.ps.length h1.qc) := by rw [← HQA.out]; exact st2 S5.out.box
  have HRG5 := Lib.hid (range_ring (S5.out.getP' HP.out HQA.out))
  go_upto_if 37 with fail
  go_wp2_with (refine wpList_load_rowM (by rfl) 38 _ rfl bq (i * 13 + 2) (by go_simp) (rL ⟨[b0, b1, b2, b3, b4, b5, b6, b7], hd, nn⟩) rv HRV.out.symm _ HRG5.out Try.underlying38 rfl (by kernel_rfl) ?_)
  obtain ⟨⟨r1, ok⟩, hpush⟩ : ∃ q, Ri.push ⟨[b0, b1, b2, b3, b4, b5, b6, b7], hd, nn⟩ g = q := ⟨_, rfl⟩
  have hl1 := Ri.push_len (r := ⟨[b0, b1, b2, b3, b4, b5, b6, b7], hd, nn⟩) (g := g) rfl
  rw [hpush] at hl1
  obtain ⟨c0, c1, c2, c3, c4, c5, c6, c7, hd1, nn1, rfl⟩ := Ri.open8 hl1
  rw [← HRV.out]
  refine (rpush_k b0 b1 b2 b3 b4 b5 b6 b7 hd nn g c0 c1 c2 c3 c4 c5 c6 c7 hd1 nn1 ok hpush w5).mono ?_
  rintro e w6 ⟨rfl, hx6⟩
  have S6 := Lib.hid (S5.out.more hx6)
  have HPU := Lib.hid hpush
  obtain ⟨B8, hB8⟩ : ∃ B8, w6.heap.size = B8 := ⟨_, rfl⟩
  obtain ⟨va, vb, hva, hvb, hth, hbx, hxb⟩ := ring_box w6 (r := ⟨[c0, c1, c2, c3, c4, c5, c6, c7], hd1, nn1⟩) rfl
  rw [hB8] at hvb hth hbx
  have HB8 := Lib.hid hB8
  have HVA := Lib.hid hva
  have HVB := Lib.hid hvb
  have HTHA := Lib.hid hth
  have HBX := Lib.hid hbx
  have S7 := Lib.hid (S6.out.more hxb)
  obtain ⟨rv1, hrv1⟩ : ∃ rv1, Value.agg #[.int .i64 c0, .int .i64 c1, .int .i64 c2, .int .i64 c3, .int .i64 c4, .int .i64 c5, .int .i64 c6, .int .i64 c7, .int .i64 hd1, .int .i64 nn1] = rv1 := ⟨_, rfl⟩
  have HRV1 := Lib.hid hrv1
  rw [hrv1]
  clear hx6 hpush hB8 hva hvb hth hbx hxb hrv1 hl1 q2
  go_upto_if 53 with (first | rw [HVA.out, HB8.out] | (refine wpList_store_rowM rfl 38 _ _ rfl B8 0 (rL ⟨[c0, c1, c2, c3, c4, c5, c6, c7], hd1, nn1⟩) rv1 (by go_simp) (by go_simp) HRV1.out.symm HTHA.out (by kernel_rfl) (rL_one _) HVB.out ?_))
  have q2 : vb.cell? ⟨W0, 2, none⟩ = some (.slice (some ⟨bq, 0, none⟩) s.ps.length h1.qc) := by rw [← HQA.out]; exact st2 S7.out.box
  cases ok with
  | true =>
    obtain ⟨w8, hw8⟩ : ∃ w8, vb.setCells bq (i * 13 + 2) (rL ⟨[c0, c1, c2, c3, c4, c5, c6, c7], hd1, nn1⟩) = w8 := ⟨_, rfl⟩
    have hst := S7.out.setP' HP.out HQA.out (x' := ⟨m, nx, ⟨[c0, c1, c2, c3, c4, c5, c6, c7], hd1, nn1⟩, sq⟩) (j := 2) (ds := rL ⟨[c0, c1, c2, c3, c4, c5, c6, c7], hd1, nn1⟩) (by rw [rL_len rfl]; decide) (pL_ring (x := ⟨m, nx, ⟨[b0, b1, b2, b3, b4, b5, b6, b7], hd, nn⟩, sq⟩) rfl rfl)
    rw [hw8] at hst
    have HE := Lib.hid (St.tail_push HP.out HG1.out HBM.out HPU.out)
    obtain ⟨s', hs'⟩ : ∃ s' : St, { s with ps := s.ps.set i ⟨m, nx, ⟨[c0, c1, c2, c3, c4, c5, c6, c7], hd1, nn1⟩, sq⟩ } = s' := ⟨_, rfl⟩
    rw [hs'] at hst HE
    have HTH8 := Lib.hid hst.1
    have S8 := Lib.hid hst.2
    have HW8 := Lib.hid hw8
    clear hst hs' hw8
    have HRB := Lib.hid (range_row HBX.out)
    go_upto_region 8 with (first | (refine wpList_load_rowM (by rfl) 38 _ rfl B8 0 (by go_simp) (rL ⟨[c0, c1, c2, c3, c4, c5, c6, c7], hd1, nn1⟩) rv1 HRV1.out.symm _ HRB.out Try.underlying38 rfl (by kernel_rfl) ?_) | (refine wpList_store_rowM rfl 38 _ _ rfl bq (i * 13 + 2) (rL ⟨[c0, c1, c2, c3, c4, c5, c6, c7], hd1, nn1⟩) rv1 (by go_simp) (by go_simp) HRV1.out.symm HTH8.out (by kernel_rfl) (rL_one _) HW8.out ?_))
    obtain ⟨wf, hwf⟩ : ∃ wf, w8.setCells R 0 (stL h1 s') = wf := ⟨_, rfl⟩
    have HWF := Lib.hid hwf
    have hfi := S8.out.fin
    rw [hwf] at hfi
    have HFI := Lib.hid hfi
    have HTR := Lib.hid (S8.out.there (h' := h1) (s' := s'))
    clear hwf hfi
    go_wp2_with (first | (refine wpList_load_rowW (by rfl) 32 _ rfl W0 (by go_simp) (stL h1 s') (stV h1 s') rfl _ (range_row S8.out.box) Try.underlying32 rfl (by kernel_rfl) ?_) | (refine wpList_store_row rfl 32 _ _ rfl R (stL h1 s') (stV h1 s') (by go_simp) (by go_simp) rfl HTR.out (by kernel_rfl) (stL_one _ _) HWF.out ?_))
    refine bodyPost_ret (v := .agg (stL h1 s').toArray) (results_cell_row rfl _ _ R _ _ _ _ rfl HFI.out.1 Try.underlying32 rfl (by kernel_rfl)) rfl ?_
    obtain ⟨I, hI⟩ := HFI.out.2.1
    rw [HPQ.out, HE.out]
    exact ⟨h1, I, rfl, hI, HFI.out.2.2⟩
  | false =>
    obtain ⟨⟨r2, o⟩, hhalf⟩ : ∃ q, Ri.half ⟨[b0, b1, b2, b3, b4, b5, b6, b7], hd, nn⟩ = q := ⟨_, rfl⟩
    have hl2 := Ri.half_len (r := ⟨[b0, b1, b2, b3, b4, b5, b6, b7], hd, nn⟩) rfl
    rw [hhalf] at hl2
    obtain ⟨d0, d1, d2, d3, d4, d5, d6, d7, hd2, nn2, rfl⟩ := Ri.open8 hl2
    have HHA := Lib.hid hhalf
    have HOL : Hid (o.length ≤ 8) := Lib.hid (by have := Ri.half_olen (r := ⟨[b0, b1, b2, b3, b4, b5, b6, b7], hd, nn⟩) HBM.out; rwa [hhalf] at this)
    have HRG7 := Lib.hid (range_ring (S7.out.getP' HP.out HQA.out))
    clear hl2 hhalf
    go_wp2_with (refine wpList_load_rowM (by rfl) 38 _ rfl bq (i * 13 + 2) (by go_simp) (rL ⟨[b0, b1, b2, b3, b4, b5, b6, b7], hd, nn⟩) rv HRV.out.symm _ HRG7.out Try.underlying38 rfl (by kernel_rfl) ?_)
    rw [← HRV.out]
    refine (rhalf_own b0 b1 b2 b3 b4 b5 b6 b7 hd nn d0 d1 d2 d3 d4 d5 d6 d7 hd2 nn2 o HHA.out vb).mono ?_
    rintro e w9 ⟨Ao, co, rfl, hio, hx9⟩
    have S9 := Lib.hid (S7.out.more hx9)
    obtain ⟨B10, hB10⟩ : ∃ B10, w9.heap.size = B10 := ⟨_, rfl⟩
    obtain ⟨vc, vd, hvc, hvd, hth2, hbx2, hxd⟩ := ring_box w9 (r := ⟨[d0, d1, d2, d3, d4, d5, d6, d7], hd2, nn2⟩) rfl
    rw [hB10] at hvd hth2 hbx2
    have HB10 := Lib.hid hB10
    have HVC := Lib.hid hvc
    have HVD := Lib.hid hvd
    have HTHC := Lib.hid hth2
    have HBX2 := Lib.hid hbx2
    have HIO := Lib.hid (hio.ext hxd)
    have HBL : Hid (bq < vb.heap.size) := Lib.hid (S7.out.ltP HP.out HQA.out)
    have S10 := Lib.hid (S9.out.more hxd)
    obtain ⟨rv2, hrv2⟩ : ∃ rv2, Value.agg #[.int .i64 d0, .int .i64 d1, .int .i64 d2, .int .i64 d3, .int .i64 d4, .int .i64 d5, .int .i64 d6, .int .i64 d7, .int .i64 hd2, .int .i64 nn2] = rv2 := ⟨_, rfl⟩
    have HRV2 := Lib.hid hrv2
    rw [hrv2]
    clear hx9 hB10 hvc hvd hth2 hbx2 hxd hrv2 hio q2
    go_upto_region 10 with (first | rw [HVC.out, HB10.out] | (refine wpList_store_rowM rfl 38 _ _ rfl B10 0 (rL ⟨[d0, d1, d2, d3, d4, d5, d6, d7], hd2, nn2⟩) rv2 (by go_simp) (by go_simp) HRV2.out.symm HTHC.out (by kernel_rfl) (rL_one _) HVD.out ?_))
    have q2 : vd.cell? ⟨W0, 2, none⟩ = some (.slice (some ⟨bq, 0, none⟩) s.ps.length h1.qc) := by rw [← HQA.out]; exact st2 S10.out.box
    obtain ⟨w11, hw11⟩ : ∃ w11, vd.setCells bq (i * 13 + 2) (rL ⟨[d0, d1, d2, d3, d4, d5, d6, d7], hd2, nn2⟩) = w11 := ⟨_, rfl⟩
    have hst := S10.out.setP' HP.out HQA.out (x' := ⟨m, nx, ⟨[d0, d1, d2, d3, d4, d5, d6, d7], hd2, nn2⟩, sq⟩) (j := 2) (ds := rL ⟨[d0, d1, d2, d3, d4, d5, d6, d7], hd2, nn2⟩) (by rw [rL_len rfl]; decide) (pL_ring (x := ⟨m, nx, ⟨[b0, b1, b2, b3, b4, b5, b6, b7], hd, nn⟩, sq⟩) rfl rfl)
    rw [hw11] at hst
    have HE := Lib.hid (St.tail_half HP.out HG1.out HBM.out HPU.out HHA.out)
    have HTH11 := Lib.hid hst.1
    have S11 := Lib.hid hst.2
    have HIO11 : Hid (OwnInts w11 vb.heap.size (.slice Ao o.length co) o) := Lib.hid (HIO.out.but (But.upd (S := fun b => b = bq) (by rw [← hw11]; exact setCells_upd _ _ _ _) rfl) (fun b hb h => by
      have h1 := (World.ownsRow.lt HIO.out b hb).1
      have h2 := HBL.out
      omega))
    have HW11 := Lib.hid hw11
    clear hst hw11
    have HRB2 := Lib.hid (range_row HBX2.out)
    go_upto_region 11 with (first | (refine wpList_load_rowM (by rfl) 38 _ rfl B10 0 (by go_simp) (rL ⟨[d0, d1, d2, d3, d4, d5, d6, d7], hd2, nn2⟩) rv2 HRV2.out.symm _ HRB2.out Try.underlying38 rfl (by kernel_rfl) ?_) | (refine wpList_store_rowM rfl 38 _ _ rfl bq (i * 13 + 2) (rL ⟨[d0, d1, d2, d3, d4, d5, d6, d7], hd2, nn2⟩) rv2 (by go_simp) (by go_simp) HRV2.out.symm HTH11.out (by kernel_rfl) (rL_one _) HW11.out ?_))
    clear q2
    obtain ⟨I11, ha11⟩ := S11.out.ap
    have q4 : w11.cell? ⟨W0, 4, none⟩ = some (.slice h1.la s.glob.length h1.lc) := by have := st4 S11.out.box; exact this
    have hlo4 := ha11.low 4 (by omega)
    have hgf := HF.out.glob
    have hol := HOL.out
    obtain ⟨A12, c12, w12, hr12, hq12⟩ := GlobQ.more (n := s.glob.length) (GlobQ.start (v := w11) (B4 := (I11 4).1) (u0 := .slice h1.la s.glob.length h1.lc) (l := s.glob) ha11.glob.1) rfl rfl HIO11.out.at.2 (by omega) (by show s.glob.length + o.length ≤ _; omega)
    obtain ⟨A13, c13, w13, hr13, hq13⟩ := GlobQ.more (n := s.glob.length + o.length) (hq12.ext ((Ext.refl w12).alloc (.cells #[.int .i64 g] 3))) (m := [g]) (by rw [List.length_append]) rfl (ints_one w12 g) (by omega) (by rw [List.length_append]; show s.glob.length + o.length + 1 ≤ _; omega)
    have hsg := S11.out.globQ ha11 hq13 (by rw [List.length_append, List.length_append])
    obtain ⟨w14, hw14⟩ : ∃ w14, w13.setCell ⟨W0, 4, none⟩ (.slice A13 (s.glob.length + o.length + 1) c13) = w14 := ⟨_, rfl⟩
    obtain ⟨h', hh'⟩ : ∃ h' : StH, { h1 with la := A13, lc := c13 } = h' := ⟨_, rfl⟩
    obtain ⟨s', hs'⟩ : ∃ s' : St, { s with ps := s.ps.set i ⟨m, nx, ⟨[d0, d1, d2, d3, d4, d5, d6, d7], hd2, nn2⟩, sq⟩, glob := s.glob ++ o ++ [g] } = s' := ⟨_, rfl⟩
    have hsit := hsg.2.2
    simp only [List.length_singleton] at hsit
    rw [hw14, hh', hs'] at hsit
    rw [hs'] at HE
    have S14 := Lib.hid hsit
    have HW14 := Lib.hid hw14
    have q5 : w13.cell? ⟨W0, 4, none⟩ = some (.slice h1.la s.glob.length h1.lc) := hsg.1
    have q6 := hsg.2.1
    simp only [List.length_singleton] at hr13
    clear hsg hsit hh' hs' hw14 ha11 hq12 hq13 hlo4 hgf hol
    have HR12 := Lib.hid hr12
    have HR13 := Lib.hid hr13
    clear hr12 hr13
    go_upto_region 12 with (first | (at_builtin; refine wpList_append_run rfl _ _ 27 rfl _ _ (by go_simp) (by go_simp) HR12.out ?_) | (at_builtin; refine wpList_append_run rfl _ _ 27 rfl _ _ (by go_simp) (by go_simp) HR13.out ?_) | rw [HW14.out])
    clear q4 q5 q6
    obtain ⟨wf, hwf⟩ : ∃ wf, w14.setCells R 0 (stL h' s') = wf := ⟨_, rfl⟩
    have HWF := Lib.hid hwf
    have hfi := S14.out.fin
    rw [hwf] at hfi
    have HFI := Lib.hid hfi
    have HTR := Lib.hid (S14.out.there (h' := h') (s' := s'))
    clear hwf hfi
    go_wp2_with (first | (refine wpList_load_rowW (by rfl) 32 _ rfl W0 (by go_simp) (stL h' s') (stV h' s') rfl _ (range_row S14.out.box) Try.underlying32 rfl (by kernel_rfl) ?_) | (refine wpList_store_row rfl 32 _ _ rfl R (stL h' s') (stV h' s') (by go_simp) (by go_simp) rfl HTR.out (by kernel_rfl) (stL_one _ _) HWF.out ?_))
    refine bodyPost_ret (v := .agg (stL h' s').toArray) (results_cell_row rfl _ _ R _ _ _ _ rfl HFI.out.1 Try.underlying32 rfl (by kernel_rfl)) rfl ?_
    obtain ⟨I, hI⟩ := HFI.out.2.1
    rw [HPQ.out, HE.out]
    exact ⟨h', I, rfl, hI, HFI.out.2.2⟩
namespace Ri
def laid (hd : Nat) (l : List Int) : Nat → List Int
  | 0 => [0, 0, 0, 0, 0, 0, 0, 0]
  | k + 1 => (laid hd l k).set ((hd + k) % 8) (l[k]?.getD 0)
theorem laid_len (hd : Nat) (l : List Int) : ∀ k, (laid hd l k).length = 8
  | 0 => rfl
  | k + 1 => by unfold laid; rw [List.length_set, laid_len hd l k]
def at' (hd : Nat) (l : List Int) : Ri := ⟨laid hd l l.length, hd, l.length⟩
end Ri
set_option maxRecDepth 100000 in
set_option maxHeartbeats 4000000 in
theorem rat_any (v : Value) (hd : Nat) (l : List Int) (n : Int) (hn : n = (hd : Int)) (hhd : hd < 8) (w : World) (h : IntsAt w v l) (hl : l.length ≤ 1000000) : Calls Try.prog 109 #[.int .i64 n, v] w fun e w' => e = .returned (.agg (rL (Ri.at' hd l)).toArray) ∧ Ext w w' := by
  subst hn
  have H := Lib.hid h
  obtain ⟨A, c, rfl, -⟩ := h
  obtain ⟨R, hR⟩ : ∃ R, w.heap.size = R := ⟨_, rfl⟩
  obtain ⟨B, hB⟩ : ∃ B, R + 1 = B := ⟨_, rfl⟩
  obtain ⟨w2, hw2⟩ : ∃ w2, (w.alloc (.cells #[.int .i64 0, .int .i64 0, .int .i64 0, .int .i64 0, .int .i64 0, .int .i64 0, .int .i64 0, .int .i64 0, .int .i64 0, .int .i64 0] 38)).alloc (.cells #[.int .i64 0, .int .i64 0, .int .i64 0, .int .i64 0, .int .i64 0, .int .i64 0, .int .i64 0, .int .i64 0, .int .i64 (hd : Int), .int .i64 (l.length : Int)] 38) = w2 := ⟨_, rfl⟩
  have HX2 : Hid (Ext w w2) := Lib.hid (by rw [← hw2]; exact ((Ext.refl w).alloc _).alloc _)
  have HR2 : Hid (w2.heap[R]? = some (.cells #[.int .i64 0, .int .i64 0, .int .i64 0, .int .i64 0, .int .i64 0, .int .i64 0, .int .i64 0, .int .i64 0, .int .i64 0, .int .i64 0] 38 (0, 0))) := Lib.hid (by rw [← hw2, ← hR]; exact blk_alloc (blk_new w _) _)
  have HB2 : Hid (w2.heap[B]? = some (.cells (Ri.cells ⟨Ri.laid hd l 0, hd, l.length⟩) 38 (0, 0))) := Lib.hid (by
    have := blk_new (w.alloc (.cells #[.int .i64 0, .int .i64 0, .int .i64 0, .int .i64 0, .int .i64 0, .int .i64 0, .int .i64 0, .int .i64 0, .int .i64 0, .int .i64 0] 38)) (.cells #[.int .i64 0, .int .i64 0, .int .i64 0, .int .i64 0, .int .i64 0, .int .i64 0, .int .i64 0, .int .i64 0, .int .i64 (hd : Int), .int .i64 (l.length : Int)] 38)
    rw [hw2, World.size_alloc, hR, hB] at this
    exact this)
  have HW2 := Lib.hid hw2
  have HRR := Lib.hid hR
  have HBB := Lib.hid hB
  have hl' : (l.length : Int) ≤ 1000000 := by omega
  clear hw2 hR hB
  go_enter Try.func109, Try.ntmps109
  go_upto_region 2 with (first | rw [HW2.out])
  rw [HRR.out, HBB.out]
  go_wp2_with fail
  go_loopw [6] (fun iv wr => ∃ k : Nat, k ≤ l.length ∧ iv = .int .i64 k ∧ wr.heap[R]? = some (.cells #[.int .i64 0, .int .i64 0, .int .i64 0, .int .i64 0, .int .i64 0, .int .i64 0, .int .i64 0, .int .i64 0, .int .i64 0, .int .i64 0] 38 (0, 0)) ∧ wr.heap[B]? = some (.cells (Ri.cells ⟨Ri.laid hd l k, hd, l.length⟩) 38 (0, 0)) ∧ Ext w wr) (fun iv _ => l.length - (intOf iv).toNat)
  case atStart => exact ⟨0, Nat.zero_le _, rfl, HR2.out, HB2.out, HX2.out⟩
  case round =>
    obtain ⟨k, hk, rfl, hr, hb, hx⟩ := hrel
    have HR := Lib.hid hr
    have HB := Lib.hid hb
    have HX := Lib.hid hx
    clear hr hb hx
    by_cases hlt : k < l.length
    · obtain ⟨x, hx⟩ : ∃ x, l[k]? = some x := ⟨_, List.getElem?_eq_getElem hlt⟩
      obtain ⟨b, o, rfl, hb, hc⟩ := ints_get (H.out.ext HX.out) hx
      have e1 : IntKind.i64.wrap ((hd : Int) + (k : Int)) = ((hd + k : Nat) : Int) := IntWalk.i64_in _ (by omega)
      have e2 : ((hd + k : Nat) : Int).tmod 8 = (((hd + k) % 8 : Nat) : Int) := by rw [Int.tmod_eq_emod_of_nonneg (by omega)]; omega
      have e3 : (0 : Int) ≤ (((hd + k) % 8 : Nat) : Int) := by omega
      have e4 : (((hd + k) % 8 : Nat) : Int) < 8 := by omega
      have hm8 : (hd + k) % 8 < 8 := Nat.mod_lt _ (by omega)
      have r0 := blk_cell HB.out ((hd + k) % 8) _ (Ri.cells_buf (r := ⟨Ri.laid hd l k, hd, l.length⟩) (Ri.laid_len _ _ _) _ hm8)
      have r1 := frozen_of_row _ _ ((hd + k) % 8) _ _ HB.out
      obtain ⟨wn, hwn⟩ : ∃ wn, wr.setCell ⟨B, (hd + k) % 8, none⟩ (.int .i64 x) = wn := ⟨_, rfl⟩
      have NB : Hid (wn.heap[B]? = some (.cells (Ri.cells ⟨Ri.laid hd l (k + 1), hd, l.length⟩) 38 (0, 0))) := Lib.hid (by
        rw [← hwn, show Ri.laid hd l (k + 1) = (Ri.laid hd l k).set ((hd + k) % 8) x by unfold Ri.laid; rw [hx]; cases k <;> rfl, ← Ri.cells_set (r := ⟨Ri.laid hd l k, hd, l.length⟩) (Ri.laid_len _ _ _) _ hm8]
        exact blk_set HB.out _ _)
      have NR : Hid (wn.heap[R]? = some (.cells #[.int .i64 0, .int .i64 0, .int .i64 0, .int .i64 0, .int .i64 0, .int .i64 0, .int .i64 0, .int .i64 0, .int .i64 0, .int .i64 0] 38 (0, 0))) := Lib.hid (by rw [← hwn]; exact blk_set_other HR.out _ (by have := HBB.out; simp only; omega) _)
      have NX : Hid (Ext w wn) := Lib.hid (by rw [← hwn]; exact HX.out.setCell (p := ⟨B, (hd + k) % 8, none⟩) (by have := HBB.out; have := HRR.out; simp only; omega) _)
      have HWN := Lib.hid hwn
      clear hx hb hm8 hwn
      go_wp2_with (rw [HWN.out])
      go_roundw
      case rel => exact ⟨k + 1, by omega, by go_num, NR.out, NB.out, NX.out⟩
      case measure => simp [intOf]; omega
    · obtain rfl : k = l.length := by omega
      obtain ⟨wf, hwf⟩ : ∃ wf, wr.setCells R 0 (rL (Ri.at' hd l)) = wf := ⟨_, rfl⟩
      have HWF := Lib.hid hwf
      have hl10 : (rL (Ri.at' hd l)).length = 10 := rL_len (Ri.laid_len _ _ _)
      have HRZ : Hid (wf.heap[R]? = some (.cells (rL (Ri.at' hd l)).toArray 38 (0, 0))) := Lib.hid (by rw [← hwf]; exact setCells_at [.int .i64 0, .int .i64 0, .int .i64 0, .int .i64 0, .int .i64 0, .int .i64 0, .int .i64 0, .int .i64 0, .int .i64 0, .int .i64 0] _ (by rw [hl10]; rfl) HR.out)
      have HTH : Hid (wr.there R 0 (rL (Ri.at' hd l)).length) := Lib.hid (there_row HR.out (by rw [hl10]; exact Nat.le_refl 10))
      have HXF : Hid (Ext w wf) := Lib.hid (by rw [← hwf]; exact HX.out.upd (setCells_upd _ _ _ _) (by have := HRR.out; omega))
      have HSZ : Hid ((Try.prog.info? 38).map (·.size) = some (rL (Ri.at' hd l)).length) := Lib.hid (by rw [hl10]; kernel_rfl)
      obtain ⟨rv, hrv⟩ : ∃ rv, Value.agg (rL (Ri.at' hd l)).toArray = rv := ⟨_, rfl⟩
      have HRV := Lib.hid hrv
      have HRG : Hid (wr.rangeAt B 0 (rL (Ri.at' hd l))) := Lib.hid (range_row HB.out)
      clear hwf hrv
      go_wp2_with (first | (refine wpList_load_rowM (by rfl) 38 _ rfl B 0 (by go_simp) (rL (Ri.at' hd l)) rv HRV.out.symm _ HRG.out Try.underlying38 rfl HSZ.out ?_) | (refine wpList_store_rowM rfl 38 _ _ rfl R 0 (rL (Ri.at' hd l)) rv (by go_simp) (by go_simp) HRV.out.symm HTH.out HSZ.out (rL_one _) HWF.out ?_))
      refine bodyPost_ret (v := .agg (rL (Ri.at' hd l)).toArray) (results_cell_row rfl _ _ R _ _ _ _ rfl HRZ.out Try.underlying38 rfl (by rw [List.size_toArray]; exact HSZ.out)) rfl ⟨rfl, HXF.out⟩
set_option maxRecDepth 100000 in
set_option maxHeartbeats 8000000 in
theorem rNew_pa (v : Value) (p : List (List (Int × Int))) (n : Int) (r : St × Int) (hr : St.new p n = r) (w : World) (h : NestAt 2 pairL w v p) (h1 : p.length ≤ 100000) (h2 : ∀ l ∈ p, l.length ≤ 100000) :
    Calls Try.prog 108 #[v, .int .i64 n] w fun e w' => ∃ h', e = .returned (.tuple #[stV h' r.1, .int .i64 r.2]) ∧ StOk w' h' r.1 ∧ (r.2 = 0 → v = .slice h'.pa p.length h'.pc) ∧ Ext w w' := by
  subst hr
  have H := Lib.hid h
  obtain ⟨A, c, rfl⟩ := h.form2
  obtain ⟨w1, hw1⟩ : ∃ w1, w.alloc (.cells #[.slice none 0 0, .slice none 0 0, .slice none 0 0, .slice none 0 0, .slice none 0 0, .int .i64 0, .int .i64 0, .int .i64 0, .int .i64 0, .slice none 0 0, .slice none 0 0, .slice none 0 0, .slice none 0 0, .slice none 0 0, .int .i64 0, .int .i64 0] 32) = w1 := ⟨_, rfl⟩
  obtain ⟨R, hR⟩ : ∃ R, w.heap.size = R := ⟨_, rfl⟩
  have hx1 : Ext w w1 := by rw [← hw1]; exact (Ext.refl w).alloc _
  have HX1 := Lib.hid hx1
  have HR1 : Hid (w1.heap[R]? = some (.cells #[.slice none 0 0, .slice none 0 0, .slice none 0 0, .slice none 0 0, .slice none 0 0, .int .i64 0, .int .i64 0, .int .i64 0, .int .i64 0, .slice none 0 0, .slice none 0 0, .slice none 0 0, .slice none 0 0, .slice none 0 0, .int .i64 0, .int .i64 0] 32 (0, 0))) := Lib.hid (by rw [← hw1, ← hR]; exact blk_new w _)
  obtain ⟨bp, hbp⟩ : ∃ bp, Pg.may p = bp := ⟨_, rfl⟩
  have HBP := Lib.hid hbp
  have HPM := Lib.hid (rpmay_any _ p bp hbp w1 (h.ext hx1) h1 h2)
  have HW1 := Lib.hid hw1
  have HRR := Lib.hid hR
  clear h hw1 hR hx1 hbp h2
  go_enter Try.func108, Try.ntmps108
  go_wp2_with (rw [HW1.out])
  refine HPM.out.mono ?_
  rintro e w3 ⟨rfl, hx3⟩
  rw [HRR.out]
  have HX3 := Lib.hid (HX1.out.trans hx3)
  have HR3 := Lib.hid (hx3.blk HR1.out)
  clear hx3
  by_cases hok : Pg.may p = true ∧ 1 ≤ n ∧ n ≤ 8
  rotate_left 1
  · skip
    obtain ⟨wf, hwf⟩ : ∃ wf, w3.setCells R 0 (stL StH.nil St.nil) = wf := ⟨_, rfl⟩
    have HWF := Lib.hid hwf
    have HUF : Hid (Upd R w3 wf) := Lib.hid (by rw [← hwf]; exact setCells_upd _ _ _ _)
    have HRZ : Hid (wf.heap[R]? = some (.cells (stL StH.nil St.nil).toArray 32 (0, 0))) := Lib.hid (by rw [← hwf]; exact setCells_at [.slice none 0 0, .slice none 0 0, .slice none 0 0, .slice none 0 0, .slice none 0 0, .int .i64 0, .int .i64 0, .int .i64 0, .int .i64 0, .slice none 0 0, .slice none 0 0, .slice none 0 0, .slice none 0 0, .slice none 0 0, .int .i64 0, .int .i64 0] (stL StH.nil St.nil) rfl HR3.out)
    have HTH : Hid (w3.there R 0 (stL StH.nil St.nil).length) := Lib.hid (there_row HR3.out (Nat.le_refl 16))
    have HXZ : Hid (Ext w wf) := Lib.hid (HX3.out.upd HUF.out (by have := HRR.out; omega))
    clear hwf
    cases bp with
    | false =>
      have HN : Hid (St.new p n = (St.nil, 1)) := Lib.hid (St.new_no (by intro h; have h1 := HBP.out; have h2 := h.1; simp_all <;> omega))
      go_wp2_with (refine wpList_store_row rfl 32 _ _ rfl R (stL StH.nil St.nil) (stV StH.nil St.nil) rfl rfl rfl HTH.out (by kernel_rfl) (stL_one _ _) HWF.out ?_)
      refine bodyPost_cell_tmp rfl R _ _ _ _ rfl HRZ.out Try.underlying32 rfl (by kernel_rfl) (.int .i64 1) rfl rfl ?_
      rw [HN.out]
      exact ⟨StH.nil, rfl, StOk.nil _, fun h => absurd h (by decide), HXZ.out⟩
    | true =>
      by_cases a1 : n < 1
      · skip
        have HN : Hid (St.new p n = (St.nil, 1)) := Lib.hid (St.new_no (by intro h; have h1 := HBP.out; have h2 := h.1; simp_all <;> omega))
        go_wp2_with (refine wpList_store_row rfl 32 _ _ rfl R (stL StH.nil St.nil) (stV StH.nil St.nil) rfl rfl rfl HTH.out (by kernel_rfl) (stL_one _ _) HWF.out ?_)
        refine bodyPost_cell_tmp rfl R _ _ _ _ rfl HRZ.out Try.underlying32 rfl (by kernel_rfl) (.int .i64 1) rfl rfl ?_
        rw [HN.out]
        exact ⟨StH.nil, rfl, StOk.nil _, fun h => absurd h (by decide), HXZ.out⟩
      · have a2 : 8 < n := by have := HBP.out; first | (simp_all; done) | (simp_all; omega)
        have a1' : decide (n < 1) = false := by simpa using a1
        clear hok a1
        have HN : Hid (St.new p n = (St.nil, 1)) := Lib.hid (St.new_no (by intro h; have h1 := HBP.out; have h2 := h.1; simp_all <;> omega))
        go_wp2_with (refine wpList_store_row rfl 32 _ _ rfl R (stL StH.nil St.nil) (stV StH.nil St.nil) rfl rfl rfl HTH.out (by kernel_rfl) (stL_one _ _) HWF.out ?_)
        refine bodyPost_cell_tmp rfl R _ _ _ _ rfl HRZ.out Try.underlying32 rfl (by kernel_rfl) (.int .i64 1) rfl rfl ?_
        rw [HN.out]
        exact ⟨StH.nil, rfl, StOk.nil _, fun h => absurd h (by decide), HXZ.out⟩
  · obtain rfl : bp = true := by rw [← HBP.out]; exact hok.1
    have HN : Hid (St.new p n = (St.made p n, 0)) := Lib.hid (St.new_yes hok)
    have a1 : 1 ≤ n := hok.2.1
    have a2 : n ≤ 8 := hok.2.2
    obtain ⟨w4, hw4⟩ : ∃ w4, w3.alloc (.cells #[.int .i64 0, .int .i64 0, .int .i64 1, .int .i64 0, .int .i64 0] 55) = w4 := ⟨_, rfl⟩
    obtain ⟨w5, hw5⟩ : ∃ w5, w4.alloc (.cells (madeCells #[.int .i64 0, .int .i64 0, .int .i64 0, .int .i64 0, .int .i64 0, .int .i64 0, .int .i64 0, .int .i64 0, .int .i64 0, .int .i64 0, .int .i64 0, .int .i64 0, .int .i64 0] 104) 40) = w5 := ⟨_, rfl⟩
    obtain ⟨w6, hw6⟩ : ∃ w6, w5.alloc (.cells #[.int .i64 1] 3) = w6 := ⟨_, rfl⟩
    obtain ⟨g, hg⟩ : ∃ g, w3.heap.size = g := ⟨_, rfl⟩
    obtain ⟨q, hq⟩ : ∃ q, w4.heap.size = q := ⟨_, rfl⟩
    obtain ⟨l, hl⟩ : ∃ l, w5.heap.size = l := ⟨_, rfl⟩
    have hx4 : Ext w3 w4 := by rw [← hw4]; exact (Ext.refl _).alloc _
    have hx5 : Ext w4 w5 := by rw [← hw5]; exact (Ext.refl _).alloc _
    have hx6 : Ext w5 w6 := by rw [← hw6]; exact (Ext.refl _).alloc _
    have hg4 : w4.heap[g]? = some (.cells #[.int .i64 0, .int .i64 0, .int .i64 1, .int .i64 0, .int .i64 0] 55 (0, 0)) := by rw [← hw4, ← hg]; exact blk_new w3 _
    have hq5 : w5.heap[q]? = some (.cells (madeCells #[.int .i64 0, .int .i64 0, .int .i64 0, .int .i64 0, .int .i64 0, .int .i64 0, .int .i64 0, .int .i64 0, .int .i64 0, .int .i64 0, .int .i64 0, .int .i64 0, .int .i64 0] 104) 40 (0, 0)) := by rw [← hw5, ← hq]; exact blk_new w4 _
    have hl6 : w6.heap[l]? = some (.cells #[.int .i64 1] 3 (0, 0)) := by rw [← hw6, ← hl]; exact blk_new w5 _
    have HR6 : Hid (w6.heap[R]? = some (.cells #[.slice none 0 0, .slice none 0 0, .slice none 0 0, .slice none 0 0, .slice none 0 0, .int .i64 0, .int .i64 0, .int .i64 0, .int .i64 0, .slice none 0 0, .slice none 0 0, .slice none 0 0, .slice none 0 0, .slice none 0 0, .int .i64 0, .int .i64 0] 32 (0, 0))) := Lib.hid ((hx4.trans (hx5.trans hx6)).blk HR3.out)
    have HX6 : Hid (Ext w w6) := Lib.hid (HX3.out.trans (hx4.trans (hx5.trans hx6)))
    have hmk := make_ps w4
    rw [hw5, hq] at hmk
    obtain ⟨wf, hwf⟩ : ∃ wf, w6.setCells R 0 (stL (StH.made A c g q l) (St.made p n)) = wf := ⟨_, rfl⟩
    have HWF := Lib.hid hwf
    have hRlt : R < w3.heap.size := blk_lt HR3.out
    have hu : Upd R w6 wf := by rw [← hwf]; exact setCells_upd _ _ _ _
    have HRZ : Hid (wf.heap[R]? = some (.cells (stL (StH.made A c g q l) (St.made p n)).toArray 32 (0, 0))) := Lib.hid (by rw [← hwf]; exact setCells_at [.slice none 0 0, .slice none 0 0, .slice none 0 0, .slice none 0 0, .slice none 0 0, .int .i64 0, .int .i64 0, .int .i64 0, .int .i64 0, .slice none 0 0, .slice none 0 0, .slice none 0 0, .slice none 0 0, .slice none 0 0, .int .i64 0, .int .i64 0] (stL (StH.made A c g q l) (St.made p n)) rfl HR6.out)
    have HTH : Hid (w6.there R 0 (stL (StH.made A c g q l) (St.made p n)).length) := Lib.hid (there_row HR6.out (Nat.le_refl 16))
    have HXZ : Hid (Ext w wf) := Lib.hid (HX6.out.upd hu (by have := HRR.out; omega))
    have HSZ : Hid (R < g ∧ R < q ∧ R < l) := Lib.hid (by have := hx4.size; have := hx5.size; omega)
    have HOK : Hid (StOk wf (StH.made A c g q l) (St.made p n)) := Lib.hid (by
      have hz := HSZ.out
      exact StOk.made (H.out.ext HXZ.out) (hu.blk ((hx5.trans hx6).blk hg4) (by omega)) (hu.blk (hx6.blk hq5) (by omega)) (hu.blk hl6 (by omega)))
    have HW4 := Lib.hid hw4
    have HW6 := Lib.hid hw6
    have HGQ : Hid (w3.heap.size = g ∧ w5.heap.size = l) := Lib.hid ⟨hg, hl⟩
    clear hw4 hw5 hw6 hg hq hl hx4 hx5 hx6 hg4 hq5 hl6 hwf hRlt hu hok
    go_wp2_with (first | rw [HW4.out, HGQ.out.1] | rw [HW6.out, HGQ.out.2] | (refine wpList_store_row rfl 32 _ _ rfl R (stL (StH.made A c g q l) (St.made p n)) (stV (StH.made A c g q l) (St.made p n)) rfl rfl rfl HTH.out (by kernel_rfl) (stL_one _ _) HWF.out ?_))
    refine bodyPost_cell_tmp rfl R _ _ _ _ rfl HRZ.out Try.underlying32 rfl (by kernel_rfl) (.int .i64 0) rfl rfl ?_
    rw [HN.out]
    exact ⟨StH.made A c g q l, rfl, HOK.out, fun _ => rfl, HXZ.out⟩
def p1 : Pr := ⟨1, 0, ⟨[1, 2, 3, 4, 5, 6, 7, 8], 0, 8⟩, 0⟩
def fullS : St := ⟨[[(0, 0)]], List.replicate 8 ⟨0, 0, 1, 0, 0⟩ ++ [⟨0, 0, 2, 1, 0⟩], p1 :: List.replicate 7 nilPr, [(1, 9)], [], 0, 0, 0, 0, [], [], [], [], [], 0, 1⟩
theorem OwnRows.lowM {α : Type} {e : TypeId} {m : Nat} {f : α → List Value} {w w2 : World} {B M : Nat} {v : Value} {xs : List α} (h : OwnRows e m f w B v xs) (hl : LowSame M w w2) (hv : UnderB v M) : OwnRows e m f w2 B v xs := by
  refine ⟨h.1, ?_⟩
  rcases h.2 with h2 | ⟨g', cap, cur, e, hb, hh, rest⟩
  · exact .inl h2
  · exact .inr ⟨g', cap, cur, e, hb, (hl g' (hv g' (by rw [e]; rfl))).trans hh, rest⟩
theorem PairsAt.none (w : World) (A : Option Addr) (c : Nat) : PairsAt w (.slice A 0 c) [] := ⟨A, c, rfl, Nat.zero_le _, fun h => absurd h (by decide)⟩
theorem ps_made (w : World) : OwnRows 40 13 pL (w.alloc (.cells (madeCells #[.int .i64 0, .int .i64 0, .int .i64 0, .int .i64 0, .int .i64 0, .int .i64 0, .int .i64 0, .int .i64 0, .int .i64 0, .int .i64 0, .int .i64 0, .int .i64 0, .int .i64 0] 104) 40)) w.heap.size (.slice (some ⟨w.heap.size, 0, none⟩) 8 8) (List.replicate 8 nilPr) := by
  refine ⟨by rw [flatMap_len pL_len], .inr ⟨w.heap.size, 8, _, rfl, Nat.le_refl _, blk_new w _, Nat.le_refl _, by decide, by kernel_rfl, by kernel_rfl⟩⟩
theorem fin_nil {w v : World} {R : Nat} (hr : v.heap[R]? = some (.cells #[.slice none 0 0, .slice none 0 0, .slice none 0 0, .slice none 0 0, .slice none 0 0, .int .i64 0, .int .i64 0, .int .i64 0, .int .i64 0, .slice none 0 0, .slice none 0 0, .slice none 0 0, .slice none 0 0, .slice none 0 0, .int .i64 0, .int .i64 0] 32 (0, 0))) (hx : Ext w v) (hR : w.heap.size ≤ R) :
    (v.setCells R 0 (stL StH.nil St.nil)).heap[R]? = some (.cells (stL StH.nil St.nil).toArray 32 (0, 0)) ∧ v.there R 0 (stL StH.nil St.nil).length ∧ Ext w (v.setCells R 0 (stL StH.nil St.nil)) :=
  ⟨setCells_at [.slice none 0 0, .slice none 0 0, .slice none 0 0, .slice none 0 0, .slice none 0 0, .int .i64 0, .int .i64 0, .int .i64 0, .int .i64 0, .slice none 0 0, .slice none 0 0, .slice none 0 0, .slice none 0 0, .slice none 0 0, .int .i64 0, .int .i64 0] (stL StH.nil St.nil) rfl hr, there_row hr (Nat.le_refl 16), hx.upd (setCells_upd R _ v 0) hR⟩
set_option maxRecDepth 100000 in
set_option maxHeartbeats 2000000 in
theorem sinuse_any (h : StH) (s : St) (p : Int) (r : Bool) (hr : decide (1 ≤ p ∧ p ≤ s.procs) = r) (w : World) (hk : StOk w h s) : Calls Try.prog 50 #[stV h s, .int .i64 p] w fun e w' => e = .returned (.bool r) ∧ Ext w w' := by
  have HR := Lib.hid hr
  clear hr
  have HK := Lib.hid hk
  obtain ⟨w1, hw1⟩ : ∃ w1, w.alloc (.cells #[.slice h.pa s.prog.length h.pc, .slice h.ga s.gs.length h.gc, .slice h.qa s.ps.length h.qc, .slice h.ma s.ms.length h.mc, .slice h.la s.glob.length h.lc, .int .i64 s.c0, .int .i64 s.c1, .int .i64 s.c2, .int .i64 s.c3, .slice h.a0 s.w0.length h.k0, .slice h.a1 s.w1.length h.k1, .slice h.a2 s.w2.length h.k2, .slice h.a3 s.w3.length h.k3, .slice h.ta s.timers.length h.tc, .int .i64 s.clock, .int .i64 s.procs] 32) = w1 := ⟨_, rfl⟩
  have HX1 : Hid (Ext w w1) := Lib.hid (by rw [← hw1]; exact (Ext.refl w).alloc _)
  have HB1 : Hid (w1.heap[w.heap.size]? = some (.cells (stC h s) 32 (0, 0))) := Lib.hid (by rw [← hw1]; exact blk_new w _)
  have HK1 := Lib.hid (hk.ext HX1.out)
  have HW1 := Lib.hid hw1
  clear hw1 hk
  have q15 := st15 HB1.out
  unfold stV
  go_enter Try.func50, Try.ntmps50
  go_upto_region 1 with fail
  rw [HW1.out]
  generalize Value.agg #[.slice h.pa s.prog.length h.pc, .slice h.ga s.gs.length h.gc, .slice h.qa s.ps.length h.qc, .slice h.ma s.ms.length h.mc, .slice h.la s.glob.length h.lc, .int .i64 s.c0, .int .i64 s.c1, .int .i64 s.c2, .int .i64 s.c3, .slice h.a0 s.w0.length h.k0, .slice h.a1 s.w1.length h.k1, .slice h.a2 s.w2.length h.k2, .slice h.a3 s.w3.length h.k3, .slice h.ta s.timers.length h.tc, .int .i64 s.clock, .int .i64 s.procs] = sv0
  by_cases a1 : 1 ≤ p
  · by_cases a2 : p ≤ s.procs
    · have HQ : Hid (r = true) := Lib.hid (by rw [← HR.out]; simp; omega)
      go_wp2
      go_ret
      exact ⟨by rw [HQ.out] <;> rfl, HX1.out⟩
    · have HQ : Hid (r = false) := Lib.hid (by rw [← HR.out]; simp; omega)
      go_wp2
      go_ret
      exact ⟨by rw [HQ.out] <;> rfl, HX1.out⟩
  · have HQ : Hid (r = false) := Lib.hid (by rw [← HR.out]; simp; omega)
    go_wp2
    go_ret
    exact ⟨by rw [HQ.out] <;> rfl, HX1.out⟩
set_option maxRecDepth 100000 in
set_option maxHeartbeats 2000000 in
theorem finuse_any (h : StH) (s : St) (p : Int) (r : Bool) (hr : decide (1 ≤ p ∧ p ≤ s.procs) = r) (w : World) (hk : StOk w h s) : Calls Try.prog 87 #[stV h s, .int .i64 p] w fun e w' => e = .returned (.bool r) ∧ Ext w w' := by
  have HR := Lib.hid hr
  clear hr
  have HK := Lib.hid hk
  obtain ⟨w1, hw1⟩ : ∃ w1, w.alloc (.cells #[.slice h.pa s.prog.length h.pc, .slice h.ga s.gs.length h.gc, .slice h.qa s.ps.length h.qc, .slice h.ma s.ms.length h.mc, .slice h.la s.glob.length h.lc, .int .i64 s.c0, .int .i64 s.c1, .int .i64 s.c2, .int .i64 s.c3, .slice h.a0 s.w0.length h.k0, .slice h.a1 s.w1.length h.k1, .slice h.a2 s.w2.length h.k2, .slice h.a3 s.w3.length h.k3, .slice h.ta s.timers.length h.tc, .int .i64 s.clock, .int .i64 s.procs] 32) = w1 := ⟨_, rfl⟩
  have HX1 : Hid (Ext w w1) := Lib.hid (by rw [← hw1]; exact (Ext.refl w).alloc _)
  have HB1 : Hid (w1.heap[w.heap.size]? = some (.cells (stC h s) 32 (0, 0))) := Lib.hid (by rw [← hw1]; exact blk_new w _)
  have HK1 := Lib.hid (hk.ext HX1.out)
  have HW1 := Lib.hid hw1
  clear hw1 hk
  have q15 := st15 HB1.out
  unfold stV
  go_enter Try.func87, Try.ntmps87
  go_upto_region 1 with fail
  rw [HW1.out]
  generalize Value.agg #[.slice h.pa s.prog.length h.pc, .slice h.ga s.gs.length h.gc, .slice h.qa s.ps.length h.qc, .slice h.ma s.ms.length h.mc, .slice h.la s.glob.length h.lc, .int .i64 s.c0, .int .i64 s.c1, .int .i64 s.c2, .int .i64 s.c3, .slice h.a0 s.w0.length h.k0, .slice h.a1 s.w1.length h.k1, .slice h.a2 s.w2.length h.k2, .slice h.a3 s.w3.length h.k3, .slice h.ta s.timers.length h.tc, .int .i64 s.clock, .int .i64 s.procs] = sv0
  by_cases a1 : 1 ≤ p
  · by_cases a2 : p ≤ s.procs
    · have HQ : Hid (r = true) := Lib.hid (by rw [← HR.out]; simp; omega)
      go_wp2
      go_ret
      exact ⟨by rw [HQ.out] <;> rfl, HX1.out⟩
    · have HQ : Hid (r = false) := Lib.hid (by rw [← HR.out]; simp; omega)
      go_wp2
      go_ret
      exact ⟨by rw [HQ.out] <;> rfl, HX1.out⟩
  · have HQ : Hid (r = false) := Lib.hid (by rw [← HR.out]; simp; omega)
    go_wp2
    go_ret
    exact ⟨by rw [HQ.out] <;> rfl, HX1.out⟩
theorem pL_next (x : Pr) (n : Int) : ∀ t, t < 13 → (pL { x with next := n })[t]? = if 1 ≤ t ∧ t < 1 + [Value.int .i64 n].length then [Value.int .i64 n][t - 1]? else (pL x)[t]? := by
  intro t ht
  obtain rfl | ht1 : t = 1 ∨ t ≠ 1 := by omega
  · rfl
  · rw [if_neg (by simp; omega)]
    match t, ht1 with
    | 0, _ => rfl
    | t + 2, _ => rfl
theorem St.may_seq {s : St} (h : s.may = true) {k : Nat} {y : Gr} (hy : s.gs[k]? = some y) : 0 ≤ y.seq ∧ y.seq < 2305843009213693952 := by
  obtain ⟨_, hg, _, _, _, _⟩ := St.may_parts h
  unfold St.goods at hg
  have := List.all_eq_true.1 hg y (List.mem_of_getElem? hy)
  unfold St.good St.low at this
  simp only [Bool.and_eq_true, decide_eq_true_eq] at this
  exact this.1.2
theorem OwnRows.cutTo {α : Type} {e : TypeId} {m : Nat} {f : α → List Value} {w : World} {B g n c : Nat} {ys : List α} (hf : ∀ x, (f x).length = m) (h : OwnRows e m f w B (.slice (some ⟨g, 0, none⟩) n c) ys) {i : Nat} (hi : i ≤ ys.length) {zs : List Value} (hz : zs.length = (ys.length - i) * m) :
    OwnRows e m f (w.setCells g (i * m) zs) B (.slice (some ⟨g, 0, none⟩) i c) (ys.take i) ∧ Upd g w (w.setCells g (i * m) zs) := by
  have hmi : i * m ≤ ys.length * m := Nat.mul_le_mul_right _ hi
  rcases h.2 with ⟨e1, _⟩ | ⟨g', cap, cur, hv, hb, hg, hnc, hcm, hcs, htake⟩
  · cases e1
  · simp only [Value.slice.injEq, Option.some.injEq, Addr.mk.injEq, and_true] at hv
    obtain ⟨rfl, rfl, rfl⟩ := hv
    have hmc : ys.length * m ≤ c * m := Nat.mul_le_mul_right _ hnc
    have hlt : i * m + zs.length ≤ cur.size := by
      rw [hz, hcs, Nat.sub_mul]
      omega
    obtain ⟨cs', h1, h2, h3⟩ := setCells_mid zs w cur (i * m) hg hlt
    have hl : (ys.take i).length = i := by rw [List.length_take]; omega
    refine ⟨⟨by rw [flatMap_len hf], .inr ⟨g, c, cs', by rw [hl], hb, h1, by omega, hcm, h2.trans hcs, ?_⟩⟩, setCells_upd _ _ _ _⟩
    rw [hl]
    apply List.ext_getElem?
    intro t
    by_cases ht : t < i * m
    · rw [List.getElem?_take, if_pos ht, Array.getElem?_toList, h3 t, if_neg (by omega)]
      have hm : 0 < m := Nat.pos_of_ne_zero fun e => by subst e; omega
      have hq : t / m < i := Nat.div_lt_of_lt_mul (by rw [Nat.mul_comm]; exact ht)
      have hr : t % m < m := Nat.mod_lt _ hm
      have hjj : t / m * m + t % m = t := by rw [Nat.mul_comm]; exact Nat.div_add_mod t m
      have hy : ys[t / m]? = some ys[t / m] := List.getElem?_eq_getElem (by omega)
      have k1 := flatMap_get hf ys (t / m) _ hy (t % m) _ (List.getElem?_eq_getElem (by rw [hf]; exact hr))
      have k2 := flatMap_get hf (ys.take i) (t / m) _ (by rw [List.getElem?_take, if_pos hq]; exact hy) (t % m) _ (List.getElem?_eq_getElem (by rw [hf]; exact hr))
      rw [hjj] at k1 k2
      rw [k2, ← k1, ← htake, List.getElem?_take, if_pos (by omega), Array.getElem?_toList]
    · rw [List.getElem?_take, if_neg ht, List.getElem?_eq_none (by rw [flatMap_len hf, hl]; omega)]
theorem there_own {α : Type} {e : TypeId} {m : Nat} {f : α → List Value} {w : World} {B g n c : Nat} {ys : List α} (h : OwnRows e m f w B (.slice (some ⟨g, 0, none⟩) n c) ys) {i k : Nat} (hi : i + k ≤ ys.length * m) : w.there g i k := fun j hj => by
  rcases h.2 with ⟨e1, _⟩ | ⟨g', cap, cur, hv, hb, hg, hnc, hcm, hcs, htake⟩
  · cases e1
  · simp only [Value.slice.injEq, Option.some.injEq, Addr.mk.injEq, and_true] at hv
    obtain ⟨rfl, rfl, rfl⟩ := hv
    have hmc : ys.length * m ≤ c * m := Nat.mul_le_mul_right _ hnc
    exact ⟨by rw [blk_cell hg _ _ (Array.getElem?_eq_getElem (by omega))]; rfl, frozen_of_row _ _ _ _ _ hg⟩
theorem zeroCells_len (z : Array Value) (n : Nat) : (Builtin.zeroCells z n).toList.length = n * z.size := by simp [Builtin.zeroCells]
theorem zeroCells_one {z : Array Value} (h1 : ∀ u ∈ z.toList, u.oneCell' = true) (n : Nat) : ∀ u ∈ (Builtin.zeroCells z n).toList, u.oneCell' = true := by
  intro u hu
  simp only [Builtin.zeroCells, Array.toList_map, List.mem_map, Array.mem_toList_iff, Array.mem_range] at hu
  obtain ⟨i, hi, rfl⟩ := hu
  have hz : 0 < z.size := Nat.pos_of_ne_zero fun e => by rw [e] at hi; omega
  have hlt : i % z.size < z.size := Nat.mod_lt _ hz
  rw [getElem!_pos z (i % z.size) hlt]
  exact h1 _ (Array.mem_toList_iff.2 (Array.getElem_mem hlt))
theorem run_clear_rows {P : Program} (w : World) (t e : TypeId) (z : Value) (m : Nat) (ht : P.underlying t = some (.slice e)) (hv : ∀ w, (zeroValue e).run P w = .ok z w) (hz : z.cells.size = m) (h1 : ∀ u ∈ z.cells.toList, u.oneCell' = true) (b o n c : Nat) (hn : 0 < n) (hth : w.there b o (n * m)) :
    ∃ zs, zs.length = n * m ∧ ∀ ty, (Builtin.clear_ #[t] ty #[.slice (some ⟨b, o, none⟩) n c]).run P w = .ok (.tuple #[]) (w.setCells b o zs) := by
  refine ⟨(Builtin.zeroCells z.cells n).toList, by rw [zeroCells_len, hz], fun ty => ?_⟩
  have hst := run_storeCells_cells (P := P) b o (Builtin.zeroCells z.cells n).toList 0 w (by rw [zeroCells_len, hz]; intro j hj; simpa using (hth j hj).1) (by rw [zeroCells_len, hz]; intro j hj; simpa using (hth j hj).2) (zeroCells_one h1 n)
  simp only [Nat.add_zero] at hst
  obtain ⟨k, rfl⟩ : ∃ k, n = k + 1 := ⟨n - 1, by omega⟩
  simp [Builtin.clear_, run_underlying ht, hv, hst]
theorem del_keep {α : Type} {p : α → Bool} {xs ys : List α} {i j : Nat} {x : α} (h1 : ys.take i = (xs.take j).filter p) (h2 : ys.drop j = xs.drop j) (hij : i < j) (hl : ys.length = xs.length) (hx : xs[j]? = some x) (hp : p x = true) : (ys.set i x).take (i + 1) = (xs.take (j + 1)).filter p ∧ (ys.set i x).drop (j + 1) = xs.drop (j + 1) ∧ (ys.set i x).length = xs.length := by
  have hjl := (List.getElem?_eq_some_iff.1 hx).1
  refine ⟨?_, ?_, by rw [List.length_set, hl]⟩
  · rw [List.take_add_one, List.getElem?_set_self (by omega), List.take_set_of_le (Nat.le_refl i), h1, List.take_add_one, hx, List.filter_append]
    simp [hp]
  · rw [List.drop_set_of_lt (by omega), ← List.drop_drop, ← List.drop_drop, h2]
theorem del_skip {α : Type} {p : α → Bool} {xs ys : List α} {i j : Nat} {x : α} (h1 : ys.take i = (xs.take j).filter p) (h2 : ys.drop j = xs.drop j) (hx : xs[j]? = some x) (hp : p x = false) : ys.take i = (xs.take (j + 1)).filter p ∧ ys.drop (j + 1) = xs.drop (j + 1) := by
  refine ⟨?_, by rw [← List.drop_drop, ← List.drop_drop, h2]⟩
  rw [h1, List.take_add_one, hx, List.filter_append]
  simp [hp]
theorem ints_rows {w : World} {B : Nat} {v : Value} {xs : List Int} : OwnInts w B v xs ↔ OwnRows 3 1 numL w B v xs := by
  unfold OwnInts OwnRows
  have : intsV xs = xs.flatMap numL := by
    unfold intsV
    induction xs with
    | nil => rfl
    | cons x xs ih => rw [List.map_cons, List.flatMap_cons, ih]; rfl
  rw [this]
theorem cut1_to (A : Option Addr) (n c k : Nat) (h1 : k ≤ n) (h2 : n ≤ c) (v : World) : (Instr.slice 27 (.slice A n c) none (some (.int .i64 k)) none).run Try.prog v = .ok (.slice A k c) v := irun_to A n c k h1 h2 v
theorem cut1_from (g n c k : Nat) (h1 : k < n) (h2 : n ≤ c) (v : World) : (Instr.slice 27 (.slice (some ⟨g, 0, none⟩) n c) (some (.int .i64 k)) none none).run Try.prog v = .ok (.slice (some ⟨g, k * 1, none⟩) (n - k) (c - k)) v := by
  rw [irun_from _ _ _ _ (Nat.le_of_lt h1) h2]
  unfold advK
  rw [if_neg (by omega)]
  simp [Addr.add]
  try omega
theorem filter_none {α : Type} {p : α → Bool} {l : List α} (h : ∀ (j : Nat) x, l[j]? = some x → p x = true) : l.filter p = l :=
  List.filter_eq_self.2 fun x hx => by obtain ⟨j, hj⟩ := List.mem_iff_getElem?.1 hx; exact h j x hj
theorem filter_first {α : Type} {p : α → Bool} {l : List α} {k : Nat} {x : α} (hx : l[k]? = some x) (hp : p x = false) (h : ∀ (j : Nat) y, l[j]? = some y → j < k → p y = true) : l.take k = (l.take (k + 1)).filter p := by
  rw [List.take_add_one, hx, List.filter_append, filter_none (l := l.take k)]
  · simp [hp]
  · intro j y hj
    rw [List.getElem?_take] at hj
    split at hj
    · exact h j y hj (by assumption)
    · cases hj
theorem own_block {α : Type} {e : TypeId} {m : Nat} {f : α → List Value} {w : World} {B : Nat} {A : Option Addr} {n c : Nat} {xs : List α} (h : OwnRows e m f w B (.slice A n c) xs) (h0 : 0 < xs.length) : ∃ b, A = some ⟨b, 0, none⟩ ∧ B ≤ b ∧ b < w.heap.size ∧ n = xs.length ∧ xs.length ≤ c := by
  rcases h.2 with ⟨_, h1⟩ | ⟨g, cap, cur, hv, hb, hg, hnc, _⟩
  · omega
  · simp only [Value.slice.injEq] at hv
    obtain ⟨rfl, rfl, rfl⟩ := hv
    exact ⟨g, rfl, hb, blk_lt hg, rfl, hnc⟩
theorem own_len (A : Option Addr) (n m c d : Nat) : (Value.slice A n c).ownBlock = (Value.slice A m d).ownBlock := by cases A <;> rfl
def bS : St := { fullS with gs := List.replicate 8 ⟨0, 0, 1, 0, 0⟩ ++ [⟨0, 0, 1, 0, 1⟩], ms := [(1, 0)], glob := [9] }
theorem flatMap_set_count {f : Pr → List Int} {n : Int} : ∀ {l : List Pr} {i : Nat} {x y : Pr}, l[i]? = some x → ((l.set i y).flatMap f).count n + (f x).count n = (l.flatMap f).count n + (f y).count n
  | [], i, x, y, h => by simp at h
  | a :: l, 0, x, y, h => by
    simp at h; subst h
    rw [List.set_cons_zero, List.flatMap_cons, List.flatMap_cons, List.count_append, List.count_append]
    omega
  | a :: l, i + 1, x, y, h => by
    have ih := flatMap_set_count (f := f) (n := n) (y := y) (show l[i]? = some x by simpa using h)
    rw [List.set_cons_succ, List.flatMap_cons, List.flatMap_cons, List.count_append, List.count_append]
    omega
theorem St.small_glob {s : St} (h : s.small = true) : s.glob.length ≤ 80 := by
  unfold St.small St.many at h
  simp only [Bool.and_eq_true, decide_eq_true_eq] at h
  omega
theorem St.small_timers {s : St} (h : s.small = true) : s.timers.length ≤ 9000 := by
  unfold St.small St.many at h
  simp only [Bool.and_eq_true, decide_eq_true_eq] at h
  omega
theorem St.tail_keeps (s : St) (p g : Int) : (s.tail p g).gs = s.gs ∧ (s.tail p g).ps.length = s.ps.length ∧ ∀ (j : Nat) x, s.ps[j]? = some x → ∃ x', (s.tail p g).ps[j]? = some x' ∧ x'.next = x.next ∧ x'.m = x.m ∧ x'.seq = x.seq := by
  have key : ∀ (r : Ri) (gl : List Int), 1 ≤ p ∧ p ≤ s.ps.length → ∀ (j : Nat) x, s.ps[j]? = some x → ∃ x', (s.ps.set (p - 1).toNat { s.pAt p with ring := r })[j]? = some x' ∧ x'.next = x.next ∧ x'.m = x.m ∧ x'.seq = x.seq := fun r gl hp j x hj => by
    by_cases h : j = (p - 1).toNat
    · subst h
      have hl := (List.getElem?_eq_some_iff.1 hj).1
      rw [List.getElem?_set_self hl]
      refine ⟨_, rfl, ?_⟩
      have : s.pAt p = x := by unfold St.pAt; rw [List.getD, hj]; rfl
      rw [this]
      exact ⟨rfl, rfl, rfl⟩
    · rw [List.getElem?_set_ne (Ne.symm h)]
      exact ⟨x, hj, rfl, rfl, rfl⟩
  unfold St.tail
  split
  · rename_i h
    split
    · exact ⟨rfl, List.length_set, key _ [] ⟨h.1, h.2.1⟩⟩
    · exact ⟨rfl, List.length_set, key _ [] ⟨h.1, h.2.1⟩⟩
  · exact ⟨rfl, rfl, fun j x hj => ⟨x, hj, rfl, rfl, rfl⟩⟩
theorem Ri.takes_holds : ∀ (k : Nat) (r : Ri) (l o : List Int), r.Holds l → k ≤ l.length → ∃ r', Ri.takes k r o = (r', o ++ l.take k) ∧ r'.Holds (l.drop k)
  | 0, r, l, o, h, _ => ⟨r, by simp [Ri.takes], by simpa using h⟩
  | k + 1, r, [], o, h, hk => by simp at hk
  | k + 1, r, g :: l, o, h, hk => by
    obtain ⟨r', h1, h2⟩ := Ri.holds_pop h
    obtain ⟨r'', h3, h4⟩ := Ri.takes_holds k r' l (o ++ [g]) h2 (by simpa using hk)
    refine ⟨r'', ?_, by simpa using h4⟩
    unfold Ri.takes
    rw [h1, h3]
    simp
theorem Ri.half_holds {r : Ri} {l : List Int} (h : r.Holds l) : ∃ r', Ri.half r = (r', l.take ((l.length + 1) / 2)) ∧ r'.Holds (l.drop ((l.length + 1) / 2)) := by
  obtain ⟨r', h1, h2⟩ := Ri.takes_holds ((l.length + 1) / 2) r l [] h (by omega)
  refine ⟨r', ?_, h2⟩
  unfold Ri.half
  rw [if_pos (Ri.may_of h), (Ri.holds_n h).1]
  simpa using h1
end Go.Proofs.Ytogcfndhcphpaaa
