/-
  Several texts in one: Uw, Uka, Ya, Yb, Ukb, Uzd, Yc, Yd.
-/
import Derived.Test.YtogcfndhcphpaaaC13
import Derived.Test.YtogcfndhcphpaaaC12
import Derived.Test.YtogcfndhcphpaaaC02
set_option linter.unusedVariables false
set_option linter.unusedSimpArgs false
namespace Go.Proofs.Ytogcfndhcphpaaa
open Go.RowKit
namespace Ri
theorem laid_get {hd : Nat} (h : hd < 8) {l : List Int} (hl : l.length ≤ 8) : ∀ k, k ≤ l.length → ∀ j, j < 8 → (laid hd l k)[j]?.getD 0 = if (j + 8 - hd) % 8 < k then l[(j + 8 - hd) % 8]?.getD 0 else 0
  | 0, _, j, hj => by
    rw [if_neg (by omega)]
    unfold laid
    obtain rfl | rfl | rfl | rfl | rfl | rfl | rfl | rfl : j = 0 ∨ j = 1 ∨ j = 2 ∨ j = 3 ∨ j = 4 ∨ j = 5 ∨ j = 6 ∨ j = 7 := by omega
    all_goals rfl
  | k + 1, hk, j, hj => by
    have ih := laid_get h hl k (by omega) j hj
    have hlen := laid_len hd l k
    unfold laid
    by_cases he : (hd + k) % 8 = j
    · rw [he, List.getElem?_set_self (by omega), if_pos (by omega)]
      have : (j + 8 - hd) % 8 = k := by omega
      rw [this]
      rfl
    · rw [List.getElem?_set_ne he, ih]
      by_cases hlt : (j + 8 - hd) % 8 < k
      · rw [if_pos hlt, if_pos (by omega)]
      · rw [if_neg hlt, if_neg (by omega)]
theorem at_holds {hd : Nat} (h : hd < 8) {l : List Int} (hl : l.length ≤ 8) (hp : ∀ x ∈ l, 1 ≤ x) : (at' hd l).Holds l := by
  refine ⟨hd, l.length, rfl, rfl, h, hl, laid_len _ _ _, fun j hj => ?_, ?_⟩
  · show if (j + 8 - hd) % 8 < l.length then 0 < (laid hd l l.length)[j]?.getD 0 else (laid hd l l.length)[j]?.getD 0 = 0
    rw [laid_get h hl _ (Nat.le_refl _) j hj]
    by_cases hlt : (j + 8 - hd) % 8 < l.length
    · rw [if_pos hlt, if_pos hlt, List.getElem?_eq_getElem hlt]
      have := hp _ (List.getElem_mem hlt)
      simp only [Option.getD_some]
      omega
    · rw [if_neg hlt, if_neg hlt]
  · show l = (List.range l.length).map fun i => (laid hd l l.length)[(hd + i) % 8]?.getD 0
    apply List.ext_getElem?
    intro i
    by_cases hi : i < l.length
    · rw [List.getElem?_map, List.getElem?_range hi, Option.map_some, laid_get h hl _ (Nat.le_refl _) _ (by omega)]
      have : ((hd + i) % 8 + 8 - hd) % 8 = i := by omega
      rw [this, if_pos hi, List.getElem?_eq_getElem hi]
      rfl
    · rw [List.getElem?_eq_none (by omega), List.getElem?_eq_none (by simp; omega)]
theorem holds_same {r r' : Ri} {l : List Int} (h : r.Holds l) (h' : r'.Holds l) (hh : r.head = r'.head) : r = r' := by
  obtain ⟨hd, nn, h1, h2, h3, h4, h5, h6, h7⟩ := h
  obtain ⟨hd', nn', g1, g2, g3, g4, g5, g6, g7⟩ := h'
  obtain ⟨bs, a, b⟩ := r
  obtain ⟨bs', a', b'⟩ := r'
  simp only at h1 h2 h5 h6 h7 g1 g2 g5 g6 g7 hh
  have e1 : hd = hd' := by omega
  subst e1
  have e2 : nn = nn' := by have a1 := congrArg List.length h7; have a2 := congrArg List.length g7; simp at a1 a2; omega
  subst e2
  have e3 : bs = bs' := by
    apply List.ext_getElem?
    intro j
    by_cases hj : j < 8
    · have a1 := h6 j hj
      have a2 := g6 j hj
      rw [List.getElem?_eq_getElem (by omega), List.getElem?_eq_getElem (by omega)] at *
      simp only [Option.getD_some] at a1 a2
      by_cases hlt : (j + 8 - hd) % 8 < nn
      · have k1 : l[(j + 8 - hd) % 8]? = some (bs[j]?.getD 0) := by
          rw [h7, List.getElem?_map, List.getElem?_range hlt, Option.map_some]
          have : (hd + (j + 8 - hd) % 8) % 8 = j := by omega
          rw [this]
        have k2 : l[(j + 8 - hd) % 8]? = some (bs'[j]?.getD 0) := by
          rw [g7, List.getElem?_map, List.getElem?_range hlt, Option.map_some]
          have : (hd + (j + 8 - hd) % 8) % 8 = j := by omega
          rw [this]
        rw [k1] at k2
        have := Option.some.inj k2
        rw [List.getElem?_eq_getElem (by omega), List.getElem?_eq_getElem (by omega)] at this
        simpa using this
      · rw [if_neg hlt] at a1 a2
        rw [a1, a2]
    · rw [List.getElem?_eq_none (by omega), List.getElem?_eq_none (by omega)]
  subst e3
  rw [h1, h2, g1, g2]
end Ri
namespace St
theorem within_near {l m : List Int} {n a : Int} (h : within l n = true) (ha : 1 ≤ a ∧ a ≤ n) (hc : ∀ x, x ≠ a → m.count x = l.count x) : within m n = true := by
  rw [within_iff] at h ⊢
  intro x hx
  by_cases he : x = a
  · rw [he]; exact ha
  · refine h x (List.count_pos_iff.1 ?_)
    rw [← hc x he]
    exact List.count_pos_iff.2 hx
theorem may_step {s t : St} (h : s.may = true) (hw : t.whole = true) (hg : t.goods = true) (hh : t.holds = true) (hc : t.counts = true) {k : Nat} {y y' : Gr} (hy : s.gs[k]? = some y) (hgs : t.gs = s.gs.set k y')
    (hr : ∀ n : Int, n ≠ (k : Int) + 1 → t.runs.count n = s.runs.count n) (ht : ∀ n : Int, n ≠ (k : Int) + 1 → (t.onM true).count n = (s.onM true).count n) (hwt : ∀ n : Int, n ≠ (k : Int) + 1 → t.waiters.count n = s.waiters.count n) (hf : ∀ n : Int, n ≠ (k : Int) + 1 → (t.onM false).count n = (s.onM false).count n)
    (hst : 1 ≤ y'.st ∧ y'.st ≤ 5) (kr : t.runs.count ((k : Int) + 1) = want y'.st 1) (kt : (t.onM true).count ((k : Int) + 1) = want y'.st 2) (kw : t.waiters.count ((k : Int) + 1) = want y'.st 3) (kf : (t.onM false).count ((k : Int) + 1) = want y'.st 4)
    (hm : if y'.st ≠ 2 ∧ y'.st ≠ 4 then y'.m = 0 else (1 ≤ y'.m ∧ y'.m ≤ t.ms.length) ∧ (t.ms.getD (y'.m - 1).toNat (0, 0)).2 = (k : Int) + 1)
    (hms : ∀ (j : Nat) g, j ≠ k → s.gs[j]? = some g → g.st = 2 ∨ g.st = 4 → g.m ≤ t.ms.length ∧ (t.ms.getD (g.m - 1).toNat (0, 0)).2 = (j : Int) + 1) : t.may = true := by
  obtain ⟨_, _, _, _, h5, h6⟩ := may_parts h
  have hkl := (List.getElem?_eq_some_iff.1 hy).1
  have hlen : t.gs.length = s.gs.length := by rw [hgs, List.length_set]
  have hk1 : (1 : Int) ≤ (k : Int) + 1 ∧ (k : Int) + 1 ≤ (s.gs.length : Int) := by omega
  unfold may
  simp only [Bool.and_eq_true]
  refine ⟨⟨⟨⟨⟨hw, hg⟩, hh⟩, hc⟩, ?_⟩, allIx_yes fun j g hj => ?_⟩
  · unfold allIn at h5 ⊢
    simp only [Bool.and_eq_true] at h5 ⊢
    rw [hlen]
    exact ⟨⟨⟨within_near h5.1.1.1 hk1 hr, within_near h5.1.1.2 hk1 hwt⟩, within_near h5.1.2 hk1 ht⟩, within_near h5.2 hk1 hf⟩
  · rw [hgs] at hj
    by_cases hjk : j = k
    · subst hjk
      rw [List.getElem?_set_self hkl] at hj
      obtain rfl := Option.some.inj hj
      unfold stands times
      rw [kr, kt, kw, kf, decide_eq_true hst, decide_eq_true ⟨rfl, rfl, rfl, rfl⟩, Bool.true_and, Bool.true_and]
      split
      · rename_i h24
        rw [if_pos h24] at hm
        exact decide_eq_true hm
      · rename_i h24
        rw [if_neg h24] at hm
        rw [decide_eq_true hm.1, decide_eq_true hm.2]
        rfl
    · rw [List.getElem?_set_ne (Ne.symm hjk)] at hj
      have hs := h6 j g hj
      have hjn : (j : Int) + 1 ≠ (k : Int) + 1 := by omega
      unfold stands times at hs ⊢
      rw [hr _ hjn, ht _ hjn, hwt _ hjn, hf _ hjn]
      simp only [Bool.and_eq_true] at hs ⊢
      refine ⟨hs.1, ?_⟩
      have h2 := hs.2
      by_cases h24 : g.st ≠ 2 ∧ g.st ≠ 4
      · rw [if_pos h24] at h2 ⊢
        exact h2
      · rw [if_neg h24] at h2 ⊢
        simp only [Bool.and_eq_true, decide_eq_true_eq] at h2 ⊢
        have := hms j g hjk hj (by omega)
        exact ⟨⟨h2.1.1, this.1⟩, this.2⟩
theorem goods_set {s t : St} (h : s.goods = true) (hp : t.prog = s.prog) {k : Nat} {y y' : Gr} (hy : s.gs[k]? = some y) (hgs : t.gs = s.gs.set k y') (h1 : y'.func = y.func) (h2 : y'.pc = y.pc) (h3 : low y'.seq = true) : t.goods = true := by
  unfold goods at h ⊢
  rw [List.all_eq_true] at h ⊢
  intro g hg
  rw [hgs] at hg
  rcases List.mem_or_eq_of_mem_set hg with hg | rfl
  · have := h g hg
    unfold good at this ⊢
    rw [hp]
    exact this
  · have := h y (List.mem_of_getElem? hy)
    unfold good at this ⊢
    rw [hp, h1, h2, h3]
    simp only [Bool.and_eq_true] at this ⊢
    exact ⟨⟨this.1.1, trivial⟩, this.2⟩
theorem tail_spec (s : St) {i : Nat} {x : Pr} (hx : s.ps[i]? = some x) (hb : x.ring.buf.length = 8) (hm : x.ring.may = true) {g : Int} (hg : 1 ≤ g) : ∃ (r : Ri) (gl : List Int), s.tail ((i : Int) + 1) g = { s with ps := s.ps.set i { x with ring := r }, glob := gl } ∧ r.may = true ∧ r.buf.length = 8 ∧ (∀ n, r.list.count n + gl.count n = x.ring.list.count n + s.glob.count n + [g].count n) ∧ (∀ n ∈ s.glob, n ∈ gl) ∧ ∀ n ∈ r.list, n ∈ x.ring.list ∨ n = g := by
  have hh := Ri.holds_may hb hm
  by_cases h8 : x.ring.list.length < 8
  · obtain ⟨r, h1, h2⟩ := Ri.holds_push hh hg h8
    refine ⟨r, s.glob, ?_, Ri.may_of h2, Ri.holds_len h2, fun n => ?_, fun n hn => hn, fun n hn => ?_⟩
    · rw [tail_push hx hg hm h1]
    · rw [Ri.list_of h2, List.count_append]; omega
    · rw [Ri.list_of h2, List.mem_append, List.mem_singleton] at hn; exact hn
  · have hn8 := Ri.holds_n hh
    have h1 := Ri.push_no hh (g := g) (.inr (by omega))
    obtain ⟨r, h2, h3⟩ := Ri.half_holds hh
    refine ⟨r, s.glob ++ x.ring.list.take ((x.ring.list.length + 1) / 2) ++ [g], ?_, Ri.may_of h3, Ri.holds_len h3, fun n => ?_, fun n hn => by simp [hn], fun n hn => ?_⟩
    · rw [tail_half hx hg hm h1 h2]
    · rw [Ri.list_of h3]
      have : x.ring.list.count n = (x.ring.list.take ((x.ring.list.length + 1) / 2) ++ x.ring.list.drop ((x.ring.list.length + 1) / 2)).count n := by rw [List.take_append_drop]
      rw [this, List.count_append, List.count_append, List.count_append]
      omega
    · rw [Ri.list_of h3] at hn; exact .inl (List.mem_of_mem_drop hn)
theorem may_ring {s : St} (h : s.may = true) {i : Nat} {x : Pr} (hx : s.ps[i]? = some x) : x.ring.may = true := by
  have := may_holdP h hx
  unfold holdP at this
  simp only [Bool.and_eq_true] at this
  exact this.1.1.1.1
theorem count_filter_ne (l : List Int) (a n : Int) (h : n ≠ a) : (l.filter (· != a)).count n = l.count n := by
  rw [List.count_filter (by simpa using h)]
theorem count_filter_self (l : List Int) (a : Int) : (l.filter (· != a)).count a = 0 := List.count_eq_zero.2 (by simp)
theorem low_succ {n : Int} (h : low n = true) (hs : n < 2305843009213693951) : low (n + 1) = true := by
  unfold low at h ⊢
  rw [decide_eq_true_eq] at h ⊢
  omega
theorem good_seq {s : St} (h : s.may = true) {k : Nat} {y : Gr} (hy : s.gs[k]? = some y) : low y.seq = true := by
  obtain ⟨_, h2, _⟩ := may_parts h
  unfold goods at h2
  have := List.all_eq_true.1 h2 y (List.mem_of_getElem? hy)
  unfold good at this
  simp only [Bool.and_eq_true] at this
  exact this.1.2
end St
namespace St
def looks (s : St) (p : Int) : Bool := s.may && decide (1 ≤ p ∧ p ≤ s.procs) && decide ((s.pAt p).m ≠ 0) && decide ((s.mAt (s.pAt p).m).2 = 0)
def runG (s : St) (p g : Int) : St := { s with gs := s.gs.set (g - 1).toNat { s.gAt g with st := 2, m := (s.pAt p).m, seq := (s.gAt g).seq + 1 }, ms := s.ms.set ((s.pAt p).m - 1).toNat ((s.mAt (s.pAt p).m).1, g) }
structure Idle (s : St) (i j : Nat) (x : Pr) : Prop where
  may : s.may = true
  use : (i : Int) + 1 ≤ s.procs
  at_ : s.ps[i]? = some x
  m : x.m = (j : Int) + 1
  hm : s.ms[j]? = some ((i : Int) + 1, 0)
theorem looks_no_may {s : St} {p : Int} (h : s.may = false) : s.looks p = false := by unfold looks; rw [h]; rfl
theorem looks_no_use {s : St} {p : Int} (h : ¬ (1 ≤ p ∧ p ≤ s.procs)) : s.looks p = false := by unfold looks; rw [decide_eq_false h]; simp
theorem may_pm {s : St} (h : s.may = true) {i : Nat} {x : Pr} (hx : s.ps[i]? = some x) (h0 : x.m ≠ 0) : ∃ (j : Nat) (g : Int), x.m = (j : Int) + 1 ∧ s.ms[j]? = some ((i : Int) + 1, g) := by
  have hh := may_holdP h hx
  unfold holdP at hh
  simp only [Bool.and_eq_true, decide_eq_true_eq] at hh
  obtain ⟨⟨⟨_, h1, h2⟩, h3⟩, _⟩ := hh
  obtain ⟨j, e⟩ : ∃ j : Nat, x.m = (j : Int) + 1 := ⟨(x.m - 1).toNat, by omega⟩
  have h3 := h3 (by omega)
  rw [e, show ((j : Int) + 1 - 1).toNat = j by omega] at h3
  obtain ⟨q, hq⟩ : ∃ q, s.ms[j]? = some q := ⟨_, List.getElem?_eq_getElem (by omega)⟩
  rw [List.getD, hq] at h3
  refine ⟨j, q.2, e, ?_⟩
  rw [hq]
  exact congrArg some (Prod.ext h3 rfl)
theorem looks_iff {s : St} {p : Int} : s.looks p = true ↔ ∃ (i j : Nat) (x : Pr), p = (i : Int) + 1 ∧ Idle s i j x := by
  constructor
  · intro h
    unfold looks at h
    simp only [Bool.and_eq_true, decide_eq_true_eq] at h
    obtain ⟨⟨⟨h1, h2⟩, h3⟩, h4⟩ := h
    have hps := may_procs h1
    obtain ⟨i, rfl⟩ : ∃ i : Nat, p = (i : Int) + 1 := ⟨(p - 1).toNat, by omega⟩
    obtain ⟨x, hx⟩ : ∃ x, s.ps[i]? = some x := ⟨_, List.getElem?_eq_getElem (by omega)⟩
    rw [pAt_of hx] at h3 h4
    obtain ⟨j, g, e, hj⟩ := may_pm h1 hx h3
    rw [e, mAt_of hj] at h4
    exact ⟨i, j, x, rfl, h1, h2.2, hx, e, by rw [hj, show g = 0 from h4]⟩
  · rintro ⟨i, j, x, rfl, h⟩
    unfold looks
    rw [h.may, pAt_of h.at_, h.m, mAt_of h.hm, decide_eq_true (show 1 ≤ (i : Int) + 1 ∧ (i : Int) + 1 ≤ s.procs from ⟨by omega, h.use⟩), decide_eq_true (show (j : Int) + 1 ≠ 0 by omega)]
    rfl
theorem runG_eq {s : St} {i j k : Nat} {x : Pr} {y : Gr} {q : Int × Int} (hx : s.ps[i]? = some x) (hm : x.m = (j : Int) + 1) (hq : s.ms[j]? = some q) (hy : s.gs[k]? = some y) :
    s.runG ((i : Int) + 1) ((k : Int) + 1) = { s with gs := s.gs.set k { y with st := 2, m := (j : Int) + 1, seq := y.seq + 1 }, ms := s.ms.set j (q.1, (k : Int) + 1) } := by
  unfold runG
  rw [pAt_of hx, gAt_of hy, hm, mAt_of hq, show ((k : Int) + 1 - 1).toNat = k by omega, show ((j : Int) + 1 - 1).toNat = j by omega]
end St
structure SitC (w : World) (W0 R B : Nat) (v : World) (C : List Value) (h : StH) (s : St) : Prop where
  box : v.heap[W0]? = some (.cells C.toArray 32 (0, 0))
  res : v.heap[R]? = some (.cells #[.slice none 0 0, .slice none 0 0, .slice none 0 0, .slice none 0 0, .slice none 0 0, .int .i64 0, .int .i64 0, .int .i64 0, .int .i64 0, .slice none 0 0, .slice none 0 0, .slice none 0 0, .slice none 0 0, .slice none 0 0, .int .i64 0, .int .i64 0] 32 (0, 0))
  ap : ∃ I, StApart B v I h s
  ext : Ext w v
  lo : W0 < B ∧ R < B ∧ W0 ≠ R ∧ w.heap.size ≤ W0 ∧ w.heap.size ≤ R ∧ B ≤ v.heap.size
namespace SitC
variable {w v v' : World} {W0 R B : Nat} {C : List Value} {h h' : StH} {s s' : St}
theorem of (k : Sit w W0 R B v h s) : SitC w W0 R B v (stL h s) h s := ⟨k.box, k.res, k.ap, k.ext, k.lo⟩
theorem turn (k : SitC w W0 R B v C h s) {g : Nat} (hu : Upd g v v') (hg : B ≤ g) (ha : ∃ I, StApart B v' I h s') : SitC w W0 R B v' C h s' := by
  have l := k.lo
  have hs := hu.size
  exact ⟨(hu.block W0 (by omega) (fun e => by injection e; omega)).trans k.box, (hu.block R (by omega) (fun e => by injection e; omega)).trans k.res, ha, k.ext.upd hu (by omega), by omega⟩
theorem setG (k : SitC w W0 R B v C h s) {i : Nat} {x x' : Gr} (hi : s.gs[i]? = some x) {j : Nat} {ds : List Value} (hj : j + ds.length ≤ 5) (hx : ∀ t, t < 5 → (gL x')[t]? = if j ≤ t ∧ t < j + ds.length then ds[t - j]? else (gL x)[t]?) :
    ∃ g, h.ga = some ⟨g, 0, none⟩ ∧ B ≤ g ∧ g < v.heap.size ∧ v.rangeAt g (i * 5) (gL x) ∧ v.there g (i * 5 + j) ds.length ∧ SitC w W0 R B (v.setCells g (i * 5 + j) ds) C h { s with gs := s.gs.set i x' } := by
  obtain ⟨I, a⟩ := k.ap
  obtain ⟨g, h1, h2, h3, h4, h5, h6⟩ := a.setG hi hj hx
  refine ⟨g, h1, h2, h3, ?_, h4, k.turn h6 h2 ⟨I, h5⟩⟩
  obtain ⟨b, o, e, hb, hc⟩ := (OwnRows.rows gL_len a.gs.1).get hi
  rw [h1] at e
  simp only [Option.some.injEq, Addr.mk.injEq, and_true] at e
  obtain ⟨rfl, rfl⟩ := e
  exact fun j u hu => by rw [← Nat.zero_add (i * 5)]; exact hc j u hu
theorem setM (k : SitC w W0 R B v C h s) {i : Nat} {x x' : Int × Int} (hi : s.ms[i]? = some x) {j : Nat} {ds : List Value} (hj : j + ds.length ≤ 2) (hx : ∀ t, t < 2 → (pairL x')[t]? = if j ≤ t ∧ t < j + ds.length then ds[t - j]? else (pairL x)[t]?) :
    ∃ g, h.ma = some ⟨g, 0, none⟩ ∧ B ≤ g ∧ g < v.heap.size ∧ v.rangeAt g (i * 2) (pairL x) ∧ v.there g (i * 2 + j) ds.length ∧ SitC w W0 R B (v.setCells g (i * 2 + j) ds) C h { s with ms := s.ms.set i x' } := by
  obtain ⟨I, a⟩ := k.ap
  obtain ⟨g, h1, h2, h3, h4, h5, h6⟩ := a.setM hi hj hx
  refine ⟨g, h1, h2, h3, ?_, h4, k.turn h6 h2 ⟨I, h5⟩⟩
  obtain ⟨b, o, e, hb, hc⟩ := (OwnRows.rows pairL_len a.ms.1).get hi
  rw [h1] at e
  simp only [Option.some.injEq, Addr.mk.injEq, and_true] at e
  obtain ⟨rfl, rfl⟩ := e
  exact fun j u hu => by rw [← Nat.zero_add (i * 2)]; exact hc j u hu
theorem getP (k : SitC w W0 R B v C h s) {i : Nat} {x : Pr} (hi : s.ps[i]? = some x) : ∃ g, h.qa = some ⟨g, 0, none⟩ ∧ v.rangeAt g (i * 13) (pL x) := by
  obtain ⟨I, a⟩ := k.ap
  obtain ⟨g, h1, h2, h3, h4, h5, h6⟩ := a.setP hi (j := 0) (ds := []) (by simp) (fun t _ => by rw [if_neg (by simp)])
  obtain ⟨b, o, e, hb, hc⟩ := (OwnRows.rows pL_len a.ps.1).get hi
  rw [h1] at e
  simp only [Option.some.injEq, Addr.mk.injEq, and_true] at e
  obtain ⟨rfl, rfl⟩ := e
  exact ⟨g, h1, fun j u hu => by rw [← Nat.zero_add (i * 13)]; exact hc j u hu⟩
end SitC
theorem gL_run (y : Gr) (m : Int) : ∀ t, t < 5 → (gL { y with st := 2, m := m, seq := y.seq + 1 })[t]? = if 2 ≤ t ∧ t < 2 + [Value.int .i64 2, .int .i64 m, .int .i64 (y.seq + 1)].length then [Value.int .i64 2, .int .i64 m, .int .i64 (y.seq + 1)][t - 2]? else (gL y)[t]? := by
  intro t ht
  obtain rfl | rfl | rfl | rfl | rfl : t = 0 ∨ t = 1 ∨ t = 2 ∨ t = 3 ∨ t = 4 := by omega
  all_goals rfl
theorem pair_set (p g n : Int) : ∀ t, t < 2 → (pairL (p, n))[t]? = if 1 ≤ t ∧ t < 1 + [Value.int .i64 n].length then [Value.int .i64 n][t - 1]? else (pairL (p, g))[t]? := by
  intro t ht
  obtain rfl | rfl : t = 0 ∨ t = 1 := by omega
  all_goals rfl
set_option maxRecDepth 100000 in
set_option maxHeartbeats 4000000 in
theorem flooks_any (h : StH) (s : St) (p : Int) (r : Bool) (hr : s.looks p = r) (w : World) (hk : StOk w h s) (hf : StFew s) : Calls Try.prog 84 #[stV h s, .int .i64 p] w fun e w' => e = .returned (.bool r) ∧ Ext w w' := by
  have HRR := Lib.hid hr
  have HF := Lib.hid hf
  clear hr
  have HK := Lib.hid hk
  obtain ⟨w1, hw1⟩ : ∃ w1, w.alloc (.cells #[.slice h.pa s.prog.length h.pc, .slice h.ga s.gs.length h.gc, .slice h.qa s.ps.length h.qc, .slice h.ma s.ms.length h.mc, .slice h.la s.glob.length h.lc, .int .i64 s.c0, .int .i64 s.c1, .int .i64 s.c2, .int .i64 s.c3, .slice h.a0 s.w0.length h.k0, .slice h.a1 s.w1.length h.k1, .slice h.a2 s.w2.length h.k2, .slice h.a3 s.w3.length h.k3, .slice h.ta s.timers.length h.tc, .int .i64 s.clock, .int .i64 s.procs] 32) = w1 := ⟨_, rfl⟩
  have HX1 : Hid (Ext w w1) := Lib.hid (by rw [← hw1]; exact (Ext.refl w).alloc _)
  have HB1 : Hid (w1.heap[w.heap.size]? = some (.cells (stC h s) 32 (0, 0))) := Lib.hid (by rw [← hw1]; exact blk_new w _)
  have HK1 := Lib.hid (hk.ext HX1.out)
  have HW1 := Lib.hid hw1
  clear hw1 hk
  clear hf
  unfold stV
  go_enter Try.func84, Try.ntmps84
  go_upto_region 1 with fail
  rw [HW1.out]
  generalize Value.agg #[.slice h.pa s.prog.length h.pc, .slice h.ga s.gs.length h.gc, .slice h.qa s.ps.length h.qc, .slice h.ma s.ms.length h.mc, .slice h.la s.glob.length h.lc, .int .i64 s.c0, .int .i64 s.c1, .int .i64 s.c2, .int .i64 s.c3, .slice h.a0 s.w0.length h.k0, .slice h.a1 s.w1.length h.k1, .slice h.a2 s.w2.length h.k2, .slice h.a3 s.w3.length h.k3, .slice h.ta s.timers.length h.tc, .int .i64 s.clock, .int .i64 s.procs] = sv0
  go_wp2_with (refine wpList_load_rowW (by rfl) 32 _ rfl w.heap.size (by go_simp) (stL h s) (stV h s) rfl _ (range_row HB1.out) Try.underlying32 rfl (by kernel_rfl) ?_)
  refine (sstmay_any h s _ rfl _ HK1.out HF.out).mono ?_
  rintro e wa ⟨rfl, hxa⟩
  have HXA := Lib.hid (HX1.out.trans hxa)
  have HBA := Lib.hid (hxa.blk HB1.out)
  clear hxa
  cases bm : s.may with
  | false =>
    have HQ : Hid (r = false) := Lib.hid (by rw [← HRR.out]; exact St.looks_no_may bm)
    clear bm
    go_wp2
    go_ret
    exact ⟨by rw [HQ.out] <;> rfl, HXA.out⟩
  | true =>
  have HM := Lib.hid bm
  clear bm
  go_wp2_with (refine wpList_load_rowW (by rfl) 32 _ rfl w.heap.size (by go_simp) (stL h s) (stV h s) rfl _ (range_row HBA.out) Try.underlying32 rfl (by kernel_rfl) ?_)
  refine (finuse_any h s p _ rfl wa (HK.out.ext HXA.out)).mono ?_
  rintro e wb ⟨rfl, hxb⟩
  have HXB := Lib.hid (HXA.out.trans hxb)
  have HBB := Lib.hid (hxb.blk HBA.out)
  clear hxb
  cases bi : decide (1 ≤ p ∧ p ≤ s.procs) with
  | false =>
    have HQ : Hid (r = false) := Lib.hid (by rw [← HRR.out]; exact St.looks_no_use (of_decide_eq_false bi))
    clear bi
    go_wp2
    go_ret
    exact ⟨by rw [HQ.out] <;> rfl, HXB.out⟩
  | true =>
  have hpp := of_decide_eq_true bi
  clear bi
  have hps := St.may_procs HM.out
  obtain ⟨i, rfl⟩ : ∃ i : Nat, p = (i : Int) + 1 := ⟨(p - 1).toNat, by omega⟩
  obtain ⟨x, hx⟩ : ∃ x, s.ps[i]? = some x := ⟨_, List.getElem?_eq_getElem (by omega)⟩
  have HP := Lib.hid hx
  have e1 : (i : Int) + 1 - 1 = (i : Int) := by omega
  have e4 : (i : Int) < (s.ps.length : Int) := by omega
  have e5 : (i : Int) < 100000 := by have := HF.out.ps; omega
  obtain ⟨bq, oq, hqa, hqb, hqc⟩ := ((HK.out.ext HXB.out).ps).get hx
  have c0 : wb.cell? ⟨bq, oq + i * 13, none⟩ = some (.int .i64 x.m) := hqc 0 _ rfl
  have q2 : wb.cell? ⟨w.heap.size, 2, none⟩ = some (.slice (some ⟨bq, oq, none⟩) s.ps.length h.qc) := by rw [← hqa]; exact st2 HBB.out
  have HIU : Hid ((i : Int) + 1 ≤ s.procs) := Lib.hid hpp.2
  clear hpp hps hx hqa hqb hqc
  go_upto_region 4 with fail
  clear e1 e4 e5 c0 q2
  by_cases h0 : x.m = 0
  · have h0' : (x.m != 0) = false := by simpa using h0
    have HQ : Hid (r = false) := Lib.hid (by rw [← HRR.out]; unfold St.looks; rw [St.pAt_of HP.out, decide_eq_false (show ¬ x.m ≠ 0 by simpa using h0)]; simp)
    clear h0
    go_wp2
    go_ret
    exact ⟨by rw [HQ.out] <;> rfl, HXB.out⟩
  · have h0' : (x.m != 0) = true := by simpa using h0
    obtain ⟨j, g, e, hj⟩ := St.may_pm HM.out HP.out h0
    have hjl := (List.getElem?_eq_some_iff.1 hj).1
    have HE := Lib.hid e
    have HJ := Lib.hid hj
    obtain ⟨bm, om, hma, hmb, hmc⟩ := ((HK.out.ext HXB.out).ms).get hj
    have c1 : wb.cell? ⟨bm, om + j * 2 + 1, none⟩ = some (.int .i64 g) := hmc 1 _ rfl
    have q3 : wb.cell? ⟨w.heap.size, 3, none⟩ = some (.slice (some ⟨bm, om, none⟩) s.ms.length h.mc) := by rw [← hma]; exact st3 HBB.out
    have e1 : x.m - 1 = (j : Int) := by omega
    have e4 : (j : Int) < (s.ms.length : Int) := by omega
    have e5 : (j : Int) < 100000 := by have := HF.out.ms; omega
    have e6 : (1 : Int) ≤ x.m := by omega
    have e7 : x.m ≤ 100001 := by have := HF.out.ms; omega
    have HQ : Hid (r = (g == 0)) := Lib.hid (by
      rw [← HRR.out]
      unfold St.looks
      rw [HM.out, St.pAt_of HP.out, e, St.mAt_of hj, decide_eq_true (show 1 ≤ (i : Int) + 1 ∧ (i : Int) + 1 ≤ s.procs from ⟨by omega, HIU.out⟩), decide_eq_true (show (j : Int) + 1 ≠ 0 by omega)]
      by_cases hg : g = 0 <;> simp [hg])
    clear h0 e hj hjl hma hmb hmc
    go_wp2
    go_ret
    exact ⟨by rw [HQ.out] <;> rfl, HXB.out⟩
set_option maxRecDepth 100000 in
set_option maxHeartbeats 4000000 in
theorem frun_any (W0 R B i j k : Nat) (C : List Value) (h : StH) (s : St) (x : Pr) (y : Gr) (q : Int × Int) (w0 w : World) (hs : SitC w0 W0 R B w C h s) (hc : C[1]? = some (.slice h.ga s.gs.length h.gc) ∧ C[2]? = some (.slice h.qa s.ps.length h.qc) ∧ C[3]? = some (.slice h.ma s.ms.length h.mc))
    (hx : s.ps[i]? = some x) (hm : x.m = (j : Int) + 1) (hq : s.ms[j]? = some q) (hy : s.gs[k]? = some y) (hseq : 0 ≤ y.seq ∧ y.seq < 4611686018427387904) (hf : StFew s) :
    Calls Try.prog 89 #[.pointer (some ⟨W0, 0, none⟩), .int .i64 ((i : Int) + 1), .int .i64 ((k : Int) + 1)] w fun e w' => e = .returned (.tuple #[]) ∧ SitC w0 W0 R B w' C h (s.runG ((i : Int) + 1) ((k : Int) + 1)) := by
  have HC1 : Hid (StFew s) := Lib.hid hf
  rw [St.runG_eq hx hm hq hy]
  have hil := (List.getElem?_eq_some_iff.1 hx).1
  have hjl := (List.getElem?_eq_some_iff.1 hq).1
  have hkl := (List.getElem?_eq_some_iff.1 hy).1
  obtain ⟨bp, hpa, hpr⟩ := hs.getP hx
  obtain ⟨bg, hga, hgB, hgl, hgr, hgt, hs1⟩ := hs.setG hy (x' := { y with st := 2, m := (j : Int) + 1, seq := y.seq + 1 }) (j := 2) (ds := [.int .i64 2, .int .i64 ((j : Int) + 1), .int .i64 (y.seq + 1)]) (Nat.le_refl 5) (gL_run y _)
  obtain ⟨w1, hw1⟩ : ∃ w1, w.setCells bg (k * 5 + 2) [.int .i64 2, .int .i64 ((j : Int) + 1), .int .i64 (y.seq + 1)] = w1 := ⟨_, rfl⟩
  rw [hw1] at hs1
  obtain ⟨bm, hma, hmB, hml, hmr, hmt, hs2⟩ := hs1.setM (i := j) (x := q) (show ({ s with gs := s.gs.set k { y with st := 2, m := (j : Int) + 1, seq := y.seq + 1 } } : St).ms[j]? = some q from hq) (x' := (q.1, (k : Int) + 1)) (j := 1) (ds := [.int .i64 ((k : Int) + 1)]) (Nat.le_refl 2) (pair_set q.1 q.2 _)
  obtain ⟨w2, hw2⟩ : ∃ w2, w1.setCell ⟨bm, j * 2 + 1, none⟩ (.int .i64 ((k : Int) + 1)) = w2 := ⟨_, rfl⟩
  have HS2 : Hid (SitC w0 W0 R B w2 C h { s with gs := s.gs.set k { y with st := 2, m := (j : Int) + 1, seq := y.seq + 1 }, ms := s.ms.set j (q.1, (k : Int) + 1) }) := Lib.hid (by rw [← hw2]; exact hs2)
  have q1 : w.cell? ⟨W0, 1, none⟩ = some (.slice (some ⟨bg, 0, none⟩) s.gs.length h.gc) := by rw [← hga]; exact blk_cell hs.box 1 _ (by rw [List.getElem?_toArray]; exact hc.1)
  have q2 : w.cell? ⟨W0, 2, none⟩ = some (.slice (some ⟨bp, 0, none⟩) s.ps.length h.qc) := by rw [← hpa]; exact blk_cell hs.box 2 _ (by rw [List.getElem?_toArray]; exact hc.2.1)
  have q3 : w1.cell? ⟨W0, 3, none⟩ = some (.slice (some ⟨bm, 0, none⟩) s.ms.length h.mc) := by rw [← hma]; exact blk_cell hs1.box 3 _ (by rw [List.getElem?_toArray]; exact hc.2.2)
  have p0 : w.cell? ⟨bp, i * 13, none⟩ = some (.int .i64 ((j : Int) + 1)) := by rw [← hm]; exact hpr 0 _ rfl
  have c2 : w.cell? ⟨bg, k * 5 + 2, none⟩ = some (.int .i64 y.st) := hgr 2 _ rfl
  have c3 : w.cell? ⟨bg, k * 5 + 3, none⟩ = some (.int .i64 y.m) := hgr 3 _ rfl
  have c4 : w.cell? ⟨bg, k * 5 + 4, none⟩ = some (.int .i64 y.seq) := hgr 4 _ rfl
  have f2 := (hgt 0 (by simp)).2
  have f3 := (hgt 1 (by simp)).2
  have f4 := (hgt 2 (by simp)).2
  rw [Nat.add_zero] at f2
  have m1 : w1.cell? ⟨bm, j * 2 + 1, none⟩ = some (.int .i64 q.2) := hmr 1 _ rfl
  have fm := (hmt 0 (by simp)).2
  rw [Nat.add_zero] at fm
  have e1 : (i : Int) + 1 - 1 = (i : Int) := by omega
  have e2 : (i : Int) < (s.ps.length : Int) := by omega
  have e3 : (i : Int) < 100000 := by have := HC1.out.ps; omega
  have e4 : (k : Int) + 1 - 1 = (k : Int) := by omega
  have e5 : (k : Int) < (s.gs.length : Int) := by omega
  have e6 : (k : Int) < 100000 := by have := HC1.out.gs; omega
  have e7 : (j : Int) + 1 - 1 = (j : Int) := by omega
  have e8 : (j : Int) < (s.ms.length : Int) := by omega
  have e9 : (j : Int) < 100000 := by have := HC1.out.ms; omega
  have HW1 : Hid (((w.setCell ⟨bg, k * 5 + 2, none⟩ (.int .i64 2)).setCell ⟨bg, k * 5 + 3, none⟩ (.int .i64 ((j : Int) + 1))).setCell ⟨bg, k * 5 + 4, none⟩ (.int .i64 (y.seq + 1)) = w1) := Lib.hid hw1
  have HW2 := Lib.hid hw2
  clear hs hc hx hm hq hy hil hjl hkl hpa hpr hga hgB hgl hgr hgt hs1 hw1 hma hmB hml hmr hmt hs2 hw2 hf
  go_enter Try.func89, Try.ntmps89
  go_upto_region 5 with (rw [HW1.out])
  try rw [HW1.out]
  go_wp2_with (rw [HW2.out])
  go_end0
  exact ⟨rfl, HS2.out⟩
namespace St
def own (s : St) (i : Nat) (x : Pr) : St × Int := if x.next ≠ 0 then ({ s with ps := s.ps.set i { x with next := 0 } }, x.next) else if x.ring.pop.2.2 = true then ({ s with ps := s.ps.set i { x with ring := x.ring.pop.1 } }, x.ring.pop.2.1) else (s, 0)
end St
theorem OwnInts.capY {w : World} {B n c : Nat} {A : Option Addr} {l : List Int} (h : OwnInts w B (.slice A n c) l) : n = l.length ∧ n ≤ c := by
  rcases h.2 with ⟨hv, h0⟩ | ⟨g, cap, cur, hv, hb, hg, hn, _⟩
  · simp only [Value.slice.injEq] at hv
    omega
  · simp only [Value.slice.injEq] at hv
    omega
set_option maxRecDepth 100000 in
set_option maxHeartbeats 4000000 in
theorem fown_any (W0 R B i : Nat) (h : StH) (s : St) (x : Pr) (q : St × Int) (w0 w : World) (hs : Sit w0 W0 R B w h s) (hx : s.ps[i]? = some x) (hb8 : x.ring.buf.length = 8) (hf : StFew s) (hq : s.own i x = q) :
    Calls Try.prog 85 #[.pointer (some ⟨W0, 0, none⟩), .int .i64 ((i : Int) + 1)] w fun e w' => e = .returned (.int .i64 q.2) ∧ Sit w0 W0 R B w' h q.1 := by
  have HQ := Lib.hid hq
  have S1 := Lib.hid hs
  have HF := Lib.hid hf
  have HP0 := Lib.hid hx
  have hil := (List.getElem?_eq_some_iff.1 hx).1
  obtain ⟨m, nx, r0, sq⟩ := x
  obtain ⟨b0, b1, b2, b3, b4, b5, b6, b7, hd, nn, rfl⟩ := Ri.open8 hb8
  have HP := Lib.hid hx
  obtain ⟨bq, hqa, hqB, hqr⟩ := hs.getP hx
  have q2 : w.cell? ⟨W0, 2, none⟩ = some (.slice (some ⟨bq, 0, none⟩) s.ps.length h.qc) := by rw [← hqa]; exact st2 hs.box
  have c1 : w.cell? ⟨bq, i * 13 + 1, none⟩ = some (.int .i64 nx) := hqr 1 _ rfl
  have HQA := Lib.hid hqa
  have HRG := Lib.hid (range_ring hqr)
  have e1 : (i : Int) + 1 - 1 = (i : Int) := by omega
  have e2 : (i : Int) < (s.ps.length : Int) := by omega
  have e3 : (i : Int) < 100000 := by have := hf.ps; omega
  by_cases h0 : nx = 0
  · subst h0
    obtain ⟨⟨r1, g, ok⟩, hpop⟩ : ∃ z, Ri.pop ⟨[b0, b1, b2, b3, b4, b5, b6, b7], hd, nn⟩ = z := ⟨_, rfl⟩
    have hl1 := Ri.pop_len (r := ⟨[b0, b1, b2, b3, b4, b5, b6, b7], hd, nn⟩) rfl
    rw [hpop] at hl1
    obtain ⟨c0, c1, c2, c3, c4, c5, c6, c7, hd1, nn1, rfl⟩ := Ri.open8 hl1
    have HPO := Lib.hid hpop
    have hb0 : (Int.ofNat 0 != 0) = false := rfl
    clear hq hs hf hx hqa hqB hqr hpop hl1 hb8 hil
    go_enter Try.func85, Try.ntmps85
    go_upto_region 6 with fail
    obtain ⟨rv, hrv⟩ : ∃ rv, Value.agg #[.int .i64 b0, .int .i64 b1, .int .i64 b2, .int .i64 b3, .int .i64 b4, .int .i64 b5, .int .i64 b6, .int .i64 b7, .int .i64 hd, .int .i64 nn] = rv := ⟨_, rfl⟩
    have HRV := Lib.hid hrv
    clear hrv q2 e1 e2 e3
    go_wp2_with (refine wpList_load_rowM (by rfl) 38 _ rfl bq (i * 13 + 2) (by go_simp) (rL ⟨[b0, b1, b2, b3, b4, b5, b6, b7], hd, nn⟩) rv HRV.out.symm _ (HRG.out) Try.underlying38 rfl (by first | kernel_rfl | (rw [pL_len]; kernel_rfl)) ?_)
    rw [← HRV.out]
    refine (rpop_k b0 b1 b2 b3 b4 b5 b6 b7 hd nn c0 c1 c2 c3 c4 c5 c6 c7 hd1 nn1 g ok HPO.out w).mono ?_
    rintro e w6 ⟨rfl, hx6⟩
    have S6 := Lib.hid (S1.out.more hx6)
    clear hx6
    obtain ⟨BX6, hBX⟩ : ∃ BX6, w6.heap.size = BX6 := ⟨_, rfl⟩
    obtain ⟨va6, vb6, hva, hvb, hth, hbx, hxb⟩ := ring_box w6 (r := ⟨[c0, c1, c2, c3, c4, c5, c6, c7], hd1, nn1⟩) rfl
    rw [hBX] at hvb hth hbx
    have HBX6 := Lib.hid hBX
    have HVA6 := Lib.hid hva
    have HVB6 := Lib.hid hvb
    have HTA6 := Lib.hid hth
    have HBR6 := Lib.hid hbx
    have HXB6 := Lib.hid hxb
    have HGB6 := Lib.hid (range_row hbx)
    obtain ⟨rv6, hrv⟩ : ∃ rv6, Value.agg #[.int .i64 c0, .int .i64 c1, .int .i64 c2, .int .i64 c3, .int .i64 c4, .int .i64 c5, .int .i64 c6, .int .i64 c7, .int .i64 hd1, .int .i64 nn1] = rv6 := ⟨_, rfl⟩
    have HRV6 := Lib.hid hrv
    rw [hrv]
    clear hBX hva hvb hth hbx hxb hrv
    have S7 := Lib.hid (S6.out.more HXB6.out)
    go_upto_region 7 with (first | rw [HVA6.out, HBX6.out] | (refine wpList_store_rowM rfl 38 _ _ rfl BX6 0 (rL ⟨[c0, c1, c2, c3, c4, c5, c6, c7], hd1, nn1⟩) rv6 (by go_simp) (by go_simp) HRV6.out.symm HTA6.out (by first | kernel_rfl | (rw [pL_len]; kernel_rfl)) (rL_one _) HVB6.out ?_))
    cases ok with
    | true =>
      obtain ⟨w8, hw8⟩ : ∃ w8, vb6.setCells bq (i * 13 + 2) (rL ⟨[c0, c1, c2, c3, c4, c5, c6, c7], hd1, nn1⟩) = w8 := ⟨_, rfl⟩
      have hst := S7.out.setP' HP.out HQA.out (x' := ⟨m, 0, ⟨[c0, c1, c2, c3, c4, c5, c6, c7], hd1, nn1⟩, sq⟩) (j := 2) (ds := rL ⟨[c0, c1, c2, c3, c4, c5, c6, c7], hd1, nn1⟩) (by rw [rL_len rfl]; decide) (pL_ring (x := ⟨m, 0, ⟨[b0, b1, b2, b3, b4, b5, b6, b7], hd, nn⟩, sq⟩) rfl rfl)
      rw [hw8] at hst
      have HTH8 := Lib.hid hst.1
      have HE : Hid (q = ({ s with ps := s.ps.set i ⟨m, 0, ⟨[c0, c1, c2, c3, c4, c5, c6, c7], hd1, nn1⟩, sq⟩ }, g)) := Lib.hid (by rw [← HQ.out]; unfold St.own; rw [if_neg (by simp)]; simp only [HPO.out]; rfl)
      have S8 : Hid (Sit w0 W0 R B w8 h q.1) := Lib.hid (by rw [HE.out]; exact hst.2)
      have HE2 : Hid (q.2 = g) := Lib.hid (by rw [HE.out])
      have HW8 := Lib.hid hw8
      clear hst hw8
      go_wp2_with (first | (refine wpList_load_rowM (by rfl) 38 _ rfl BX6 0 (by go_simp) (rL ⟨[c0, c1, c2, c3, c4, c5, c6, c7], hd1, nn1⟩) rv6 HRV6.out.symm _ (HGB6.out) Try.underlying38 rfl (by first | kernel_rfl | (rw [pL_len]; kernel_rfl)) ?_) | (refine wpList_store_rowM rfl 38 _ _ rfl bq (i * 13 + 2) (rL ⟨[c0, c1, c2, c3, c4, c5, c6, c7], hd1, nn1⟩) rv6 (by go_simp) (by go_simp) HRV6.out.symm HTH8.out (by first | kernel_rfl | (rw [pL_len]; kernel_rfl)) (rL_one _) HW8.out ?_))
      go_ret
      rw [HE2.out]
      exact ⟨rfl, S8.out⟩
    | false =>
      have HE : Hid (q = (s, 0)) := Lib.hid (by rw [← HQ.out]; unfold St.own; rw [if_neg (by simp)]; simp only [HPO.out]; rfl)
      have S8 : Hid (Sit w0 W0 R B vb6 h q.1) := Lib.hid (by rw [HE.out]; exact S7.out)
      have HE2 : Hid (q.2 = 0) := Lib.hid (by rw [HE.out])
      go_wp2
      go_ret
      rw [HE2.out]
      exact ⟨rfl, S8.out⟩
  · have h0' : (nx != 0) = true := by simpa using h0
    obtain ⟨w2, hw2⟩ : ∃ w2, w.setCell ⟨bq, i * 13 + 1, none⟩ (.int .i64 0) = w2 := ⟨_, rfl⟩
    have hst := hs.setP' hx hqa (x' := ⟨m, 0, ⟨[b0, b1, b2, b3, b4, b5, b6, b7], hd, nn⟩, sq⟩) (j := 1) (ds := [.int .i64 0]) (by show 2 ≤ 13; omega) (pL_next ⟨m, nx, ⟨[b0, b1, b2, b3, b4, b5, b6, b7], hd, nn⟩, sq⟩ 0)
    have f1 := (hst.1 0 (by simp)).2
    rw [Nat.add_zero] at f1
    have HE : Hid (q = ({ s with ps := s.ps.set i ⟨m, 0, ⟨[b0, b1, b2, b3, b4, b5, b6, b7], hd, nn⟩, sq⟩ }, nx)) := Lib.hid (by rw [← HQ.out]; unfold St.own; rw [if_pos h0])
    have S2 : Hid (Sit w0 W0 R B w2 h q.1) := Lib.hid (by rw [HE.out, ← hw2]; exact hst.2)
    have HE2 : Hid (q.2 = nx) := Lib.hid (by rw [HE.out])
    have HW2 := Lib.hid hw2
    clear hq hs hf hx hqa hqB hqr hb8 hil hst hw2 h0
    go_enter Try.func85, Try.ntmps85
    go_wp2_with (rw [HW2.out])
    go_ret
    rw [HE2.out]
    exact ⟨rfl, S2.out⟩
set_option maxRecDepth 100000 in
set_option maxHeartbeats 4000000 in
theorem fglobal_nil (W0 R B : Nat) (h : StH) (s : St) (w0 w : World) (hs : Sit w0 W0 R B w h s) (hg : s.glob = []) : Calls Try.prog 86 #[.pointer (some ⟨W0, 0, none⟩)] w fun e w' => e = .returned (.int .i64 0) ∧ w' = w := by
  have q4 : w.cell? ⟨W0, 4, none⟩ = some (.slice h.la 0 h.lc) := by have := st4 hs.box; rw [hg] at this; exact this
  clear hs hg
  go_enter Try.func86, Try.ntmps86
  go_wp2
  go_ret
  exact ⟨rfl, rfl⟩
set_option maxRecDepth 100000 in
set_option maxHeartbeats 4000000 in
theorem fglobal_cons (W0 R B : Nat) (h : StH) (s : St) (g : Int) (l : List Int) (w0 w : World) (hs : Sit w0 W0 R B w h s) (hg : s.glob = g :: l) (hf : StFew s) : Calls Try.prog 86 #[.pointer (some ⟨W0, 0, none⟩)] w fun e w' => e = .returned (.int .i64 g) ∧ SitC w0 W0 R B w' (stL { h with la := advK h.la 1 h.lc, lc := h.lc - 1 } { s with glob := l }) h s := by
  obtain ⟨I, ha⟩ := hs.ap
  have hcap := ha.glob.1.capY.2
  have hlen : s.glob.length = l.length + 1 := by rw [hg]; rfl
  have hl0 : l.length < 100000 := by have := hf.glob; omega
  obtain ⟨bg, og, hla, hbg, hcg⟩ := ints_get ha.glob.1.at.2 (k := 0) (by rw [hg]; rfl)
  rw [Nat.add_zero] at hcg
  have q4 : w.cell? ⟨W0, 4, none⟩ = some (.slice h.la (l.length + 1) h.lc) := by rw [← hlen]; exact st4 hs.box
  rw [hlen] at hcap
  have S1 : ∀ v, (Instr.slice 27 (.slice h.la (l.length + 1) h.lc) (some (.int .i64 1)) none none).run Try.prog v = .ok (.slice (advK h.la 1 h.lc) l.length (h.lc - 1)) v := fun v => irun_from h.la (l.length + 1) h.lc 1 (by omega) hcap v
  have z4 := frozen_of_row _ _ 4 _ _ hs.box
  obtain ⟨w1, hw1⟩ : ∃ w1, w.setCell ⟨W0, 4, none⟩ (.slice (advK h.la 1 h.lc) l.length (h.lc - 1)) = w1 := ⟨_, rfl⟩
  have hu : Upd W0 w w1 := by rw [← hw1]; exact (Upd.refl W0 w).set 4 _
  have HS : Hid (SitC w0 W0 R B w1 (stL { h with la := advK h.la 1 h.lc, lc := h.lc - 1 } { s with glob := l }) h s) := Lib.hid (by
    have lo := hs.lo
    exact ⟨by rw [← hw1]; exact blk_set hs.box 4 _, (hu.block R (by have := blk_lt hs.res; omega) (fun e => by injection e; omega)).trans hs.res, ⟨I, ha.far (But.upd (S := fun b => b = W0) hu rfl) (fun b hb => by omega)⟩, hs.ext.upd hu (by omega), by have := hu.size; omega⟩)
  have HW1 := Lib.hid hw1
  have HLA := Lib.hid hla
  have e1 : (0 : Int) < ((l.length + 1 : Nat) : Int) := by omega
  clear hs hg hf ha hcap hlen hbg hw1 hu
  obtain ⟨la, hla'⟩ : ∃ la, h.la = la := ⟨_, rfl⟩
  rw [hla'] at q4 S1 hla
  have HLA' := Lib.hid hla'
  clear hla'
  subst hla
  go_enter Try.func86, Try.ntmps86
  go_wp2_with (rw [← HLA'.out, HW1.out])
  go_ret
  exact ⟨rfl, HS.out⟩
set_option maxRecDepth 100000 in
set_option maxHeartbeats 4000000 in
theorem r14looks_any (h : StH) (s : St) (p : Int) (r : Bool) (hr : s.looks p = r) (w : World) (hk : StOk w h s) (hf : StFew s) : Calls Try.prog 35 #[stV h s, .int .i64 p] w fun e w' => e = .returned (.bool r) ∧ Ext w w' := by
  have HRR := Lib.hid hr
  have HF := Lib.hid hf
  clear hr
  have HK := Lib.hid hk
  obtain ⟨w1, hw1⟩ : ∃ w1, w.alloc (.cells #[.slice h.pa s.prog.length h.pc, .slice h.ga s.gs.length h.gc, .slice h.qa s.ps.length h.qc, .slice h.ma s.ms.length h.mc, .slice h.la s.glob.length h.lc, .int .i64 s.c0, .int .i64 s.c1, .int .i64 s.c2, .int .i64 s.c3, .slice h.a0 s.w0.length h.k0, .slice h.a1 s.w1.length h.k1, .slice h.a2 s.w2.length h.k2, .slice h.a3 s.w3.length h.k3, .slice h.ta s.timers.length h.tc, .int .i64 s.clock, .int .i64 s.procs] 32) = w1 := ⟨_, rfl⟩
  have HX1 : Hid (Ext w w1) := Lib.hid (by rw [← hw1]; exact (Ext.refl w).alloc _)
  have HB1 : Hid (w1.heap[w.heap.size]? = some (.cells (stC h s) 32 (0, 0))) := Lib.hid (by rw [← hw1]; exact blk_new w _)
  have HK1 := Lib.hid (hk.ext HX1.out)
  have HW1 := Lib.hid hw1
  clear hw1 hk
  clear hf
  unfold stV
  go_enter Try.func35, Try.ntmps35
  go_upto_region 1 with fail
  rw [HW1.out]
  generalize Value.agg #[.slice h.pa s.prog.length h.pc, .slice h.ga s.gs.length h.gc, .slice h.qa s.ps.length h.qc, .slice h.ma s.ms.length h.mc, .slice h.la s.glob.length h.lc, .int .i64 s.c0, .int .i64 s.c1, .int .i64 s.c2, .int .i64 s.c3, .slice h.a0 s.w0.length h.k0, .slice h.a1 s.w1.length h.k1, .slice h.a2 s.w2.length h.k2, .slice h.a3 s.w3.length h.k3, .slice h.ta s.timers.length h.tc, .int .i64 s.clock, .int .i64 s.procs] = sv0
  go_wp2_with (refine wpList_load_rowW (by rfl) 32 _ rfl w.heap.size (by go_simp) (stL h s) (stV h s) rfl _ (range_row HB1.out) Try.underlying32 rfl (by kernel_rfl) ?_)
  refine (rstmay_any h s _ rfl _ HK1.out HF.out).mono ?_
  rintro e wa ⟨rfl, hxa⟩
  have HXA := Lib.hid (HX1.out.trans hxa)
  have HBA := Lib.hid (hxa.blk HB1.out)
  clear hxa
  cases bm : s.may with
  | false =>
    have HQ : Hid (r = false) := Lib.hid (by rw [← HRR.out]; exact St.looks_no_may bm)
    clear bm
    go_wp2
    go_ret
    exact ⟨by rw [HQ.out] <;> rfl, HXA.out⟩
  | true =>
  have HM := Lib.hid bm
  clear bm
  have q15 := st15 HBA.out
  by_cases bi : 1 ≤ p ∧ p ≤ s.procs
  case neg =>
    have HQ : Hid (r = false) := Lib.hid (by rw [← HRR.out]; exact St.looks_no_use bi)
    by_cases b1 : p < 1
    · clear bi
      go_wp2
      go_ret
      exact ⟨by rw [HQ.out] <;> rfl, HXA.out⟩
    · have b2 : s.procs < p := by omega
      clear bi
      go_wp2
      go_ret
      exact ⟨by rw [HQ.out] <;> rfl, HXA.out⟩
  have hpp := bi
  have d1 : ¬ p < 1 := by omega
  have d2 : ¬ s.procs < p := by omega
  clear bi
  obtain ⟨wb, hwb⟩ : ∃ wb, wa = wb := ⟨_, rfl⟩
  subst hwb
  have HXB := Lib.hid HXA.out
  have HBB := Lib.hid HBA.out
  have hps := St.may_procs HM.out
  obtain ⟨i, rfl⟩ : ∃ i : Nat, p = (i : Int) + 1 := ⟨(p - 1).toNat, by omega⟩
  obtain ⟨x, hx⟩ : ∃ x, s.ps[i]? = some x := ⟨_, List.getElem?_eq_getElem (by omega)⟩
  have HP := Lib.hid hx
  have e1 : (i : Int) + 1 - 1 = (i : Int) := by omega
  have e4 : (i : Int) < (s.ps.length : Int) := by omega
  have e5 : (i : Int) < 100000 := by have := HF.out.ps; omega
  obtain ⟨bq, oq, hqa, hqb, hqc⟩ := ((HK.out.ext HXB.out).ps).get hx
  have c0 : wa.cell? ⟨bq, oq + i * 13, none⟩ = some (.int .i64 x.m) := hqc 0 _ rfl
  have q2 : wa.cell? ⟨w.heap.size, 2, none⟩ = some (.slice (some ⟨bq, oq, none⟩) s.ps.length h.qc) := by rw [← hqa]; exact st2 HBB.out
  have HIU : Hid ((i : Int) + 1 ≤ s.procs) := Lib.hid hpp.2
  have f1 : decide ((i : Int) + 1 < 1) = false := decide_eq_false (by omega)
  have f2 : decide (s.procs < (i : Int) + 1) = false := decide_eq_false (by omega)
  clear hpp hps hx hqa hqb hqc d1 d2
  go_upto_region 4 with fail
  clear e1 e4 e5 c0 q2 q15 f1 f2
  by_cases h0 : x.m = 0
  · have h0' : ¬ (0 : Int) < x.m := by omega
    have HQ : Hid (r = false) := Lib.hid (by rw [← HRR.out]; unfold St.looks; rw [St.pAt_of HP.out, decide_eq_false (show ¬ x.m ≠ 0 by simpa using h0)]; simp)
    clear h0
    go_wp2
    go_ret
    exact ⟨by rw [HQ.out] <;> rfl, HXB.out⟩
  · obtain ⟨j, g, e, hj⟩ := St.may_pm HM.out HP.out h0
    have hjl := (List.getElem?_eq_some_iff.1 hj).1
    have HE := Lib.hid e
    have HJ := Lib.hid hj
    obtain ⟨bm, om, hma, hmb, hmc⟩ := ((HK.out.ext HXB.out).ms).get hj
    have c1 : wa.cell? ⟨bm, om + j * 2 + 1, none⟩ = some (.int .i64 g) := hmc 1 _ rfl
    have q3 : wa.cell? ⟨w.heap.size, 3, none⟩ = some (.slice (some ⟨bm, om, none⟩) s.ms.length h.mc) := by rw [← hma]; exact st3 HBB.out
    have e1 : x.m - 1 = (j : Int) := by omega
    have e4 : (j : Int) < (s.ms.length : Int) := by omega
    have e5 : (j : Int) < 100000 := by have := HF.out.ms; omega
    have e6 : (1 : Int) ≤ x.m := by omega
    have h0' : (0 : Int) < x.m := by omega
    have e8 : max (j : Int) 0 = (j : Int) := by omega
    have e7 : x.m ≤ 100001 := by have := HF.out.ms; omega
    have HQ : Hid (r = (g == 0)) := Lib.hid (by
      rw [← HRR.out]
      unfold St.looks
      rw [HM.out, St.pAt_of HP.out, e, St.mAt_of hj, decide_eq_true (show 1 ≤ (i : Int) + 1 ∧ (i : Int) + 1 ≤ s.procs from ⟨by omega, HIU.out⟩), decide_eq_true (show (j : Int) + 1 ≠ 0 by omega)]
      by_cases hg : g = 0 <;> simp [hg])
    clear h0 e hj hjl hma hmb hmc
    go_wp2
    go_ret
    exact ⟨by rw [HQ.out] <;> rfl, HXB.out⟩
namespace St
theorem mem_queue_next {p : Pr} (h : p.next ≠ 0) : p.next ∈ queueOf p := by unfold queueOf; rw [if_pos h]; simp
theorem mem_queue_ring {p : Pr} {n : Int} (h : n ∈ p.ring.list) : n ∈ queueOf p := by unfold queueOf; exact List.mem_append_right _ h
end St
structure StGood (s : St) : Prop where
  few : StFew s
  buf : ∀ p ∈ s.ps, p.ring.buf.length = 8
  tim : s.timers.length ≤ 9000
namespace St
theorem half_spilt (r : Ri) : r.half.2.length ≤ 8 := by
  cases hm : r.may with
  | true => exact Ri.half_olen hm
  | false => rw [Ri.half, hm]; exact Nat.zero_le _
theorem tail_parts (s : St) (p g : Int) : (s.tail p g).prog = s.prog ∧ (s.tail p g).gs = s.gs ∧ (s.tail p g).ms = s.ms ∧ (s.tail p g).w0 = s.w0 ∧ (s.tail p g).w1 = s.w1 ∧ (s.tail p g).w2 = s.w2 ∧ (s.tail p g).w3 = s.w3 ∧ (s.tail p g).timers = s.timers ∧ (s.tail p g).glob.length ≤ s.glob.length + 9 := by
  have := half_spilt (s.pAt p).ring
  unfold tail
  split
  · split
    · exact ⟨rfl, rfl, rfl, rfl, rfl, rfl, rfl, rfl, by show s.glob.length ≤ _; omega⟩
    · exact ⟨rfl, rfl, rfl, rfl, rfl, rfl, rfl, rfl, by simp only [List.length_append, List.length_singleton]; omega⟩
  · exact ⟨rfl, rfl, rfl, rfl, rfl, rfl, rfl, rfl, by omega⟩
theorem tail_good {s : St} (h : StGood s) (hg : s.glob.length ≤ 90000) (p g : Int) : StGood (s.tail p g) := by
  obtain ⟨e1, e2, e3, e4, e5, e6, e7, e8, e9⟩ := tail_parts s p g
  have hf := h.few
  refine ⟨⟨by rw [e1]; exact hf.prog, by rw [e2]; exact hf.gs, by rw [(tail_keeps s p g).2.1]; exact hf.ps, by rw [e3]; exact hf.ms, by omega, by rw [e4, e5, e6, e7]; exact hf.w, by rw [e8]; exact hf.timers, by rw [e8]; exact hf.tnum⟩, ?_, by rw [e8]; exact h.tim⟩
  by_cases hc : 1 ≤ p ∧ p ≤ s.ps.length ∧ 1 ≤ g ∧ (s.pAt p).ring.may = true
  · obtain ⟨h1, h2, h3, h4⟩ := hc
    obtain ⟨i, rfl⟩ : ∃ i : Nat, p = (i : Int) + 1 := ⟨(p - 1).toNat, by omega⟩
    obtain ⟨x, hx⟩ : ∃ x, s.ps[i]? = some x := ⟨_, List.getElem?_eq_getElem (by omega)⟩
    rw [pAt_of hx] at h4
    obtain ⟨r, gl, e, _, m2, _⟩ := tail_spec s hx (h.buf x (List.mem_of_getElem? hx)) h4 h3
    rw [e]
    intro q hq
    rcases List.mem_or_eq_of_mem_set hq with hq | rfl
    · exact h.buf q hq
    · exact m2
  · rw [tail_no hc]
    exact h.buf
end St
namespace St
def tails (s : St) (p : Int) (l : List Int) : St := l.foldl (fun t g => t.tail p g) s
def steal (s : St) (p : Int) (vi : Nat) (v : Pr) : St × Int := match v.ring.half.2 with
  | [] => ({ s with ps := s.ps.set vi { v with next := 0 } }, v.next)
  | g :: l => (({ s with ps := s.ps.set vi { v with ring := v.ring.half.1 } } : St).tails p l, g)
theorem tails_good {p : Int} : ∀ {l : List Int} {s : St}, StGood s → s.glob.length + 9 * l.length ≤ 90000 → StGood (s.tails p l) ∧ (s.tails p l).glob.length ≤ s.glob.length + 9 * l.length
  | [], s, h, _ => ⟨h, by show s.glob.length ≤ _; omega⟩
  | g :: l, s, h, hl => by
    have e := (tail_parts s p g).2.2.2.2.2.2.2.2
    have := tails_good (p := p) (l := l) (tail_good h (by omega) p g) (by simp only [List.length_cons] at hl; omega)
    exact ⟨this.1, by have h2 := this.2; simp only [List.length_cons]; show (tails (s.tail p g) p l).glob.length ≤ _; omega⟩
theorem tails_take {p : Int} {l : List Int} {s : St} {k : Nat} {g : Int} (hk : l[k]? = some g) : s.tails p (l.take (k + 1)) = (s.tails p (l.take k)).tail p g := by
  unfold tails
  rw [List.take_add_one, hk, List.foldl_append]
  rfl
end St
theorem Sit.again {w v c : World} {W0 R B : Nat} {h h' : StH} {s s' : St} {I : Nat → Nat × Nat} (k : Sit w W0 R B v h s) (hx : Ext v c) (ha : StApart v.heap.size c I h' s') : c.there W0 0 (stL h' s').length ∧ Sit w W0 R B (c.setCells W0 0 (stL h' s')) h' s' := by
  have l := k.lo
  obtain ⟨h1, h2⟩ := Sit.start (w := w) rfl k.ext k.box k.res hx ha l.2.2.1 l.2.2.2.1 l.2.2.2.2.1
  have l2 := h2.lo
  obtain ⟨J, hJ⟩ := h2.ap
  exact ⟨h1, h2.box, h2.res, ⟨J, hJ.lower l.2.2.2.2.2⟩, h2.ext, by omega⟩
set_option maxRecDepth 100000 in
set_option maxHeartbeats 8000000 in
theorem fsteal_any (W0 R B vi : Nat) (p : Int) (h : StH) (s : St) (v : Pr) (q : St × Int) (w0 w : World) (hs : Sit w0 W0 R B w h s) (hv : s.ps[vi]? = some v) (hg : StGood s) (hgl : s.glob.length ≤ 80) (hmv : v.ring.may = true) (hq : s.steal p vi v = q) :
    Calls Try.prog 88 #[.pointer (some ⟨W0, 0, none⟩), .int .i64 p, .int .i64 ((vi : Int) + 1)] w fun e w' => e = .returned (.int .i64 q.2) ∧ ∃ h', Sit w0 W0 R B w' h' q.1 := by
  have HQ := Lib.hid hq
  have S1 := Lib.hid hs
  have HG := Lib.hid hg
  have HGL := Lib.hid hgl
  have hb8 := hg.buf v (List.mem_of_getElem? hv)
  have hil := (List.getElem?_eq_some_iff.1 hv).1
  have hf := hg.few
  obtain ⟨m, nx, r0, sq⟩ := v
  obtain ⟨b0, b1, b2, b3, b4, b5, b6, b7, hd, nn, rfl⟩ := Ri.open8 hb8
  have HP := Lib.hid hv
  have HMV : Hid (Ri.may ⟨[b0, b1, b2, b3, b4, b5, b6, b7], hd, nn⟩ = true) := Lib.hid hmv
  obtain ⟨bq, hqa, hqB, hqr⟩ := hs.getP hv
  have q2 : w.cell? ⟨W0, 2, none⟩ = some (.slice (some ⟨bq, 0, none⟩) s.ps.length h.qc) := by rw [← hqa]; exact st2 hs.box
  have HQA := Lib.hid hqa
  have HRG := Lib.hid (range_ring hqr)
  have e1 : (vi : Int) + 1 - 1 = (vi : Int) := by omega
  have e2 : (vi : Int) < (s.ps.length : Int) := by omega
  have e3 : (vi : Int) < 100000 := by have := hf.ps; omega
  obtain ⟨⟨r2, o⟩, hhalf⟩ : ∃ z, Ri.half ⟨[b0, b1, b2, b3, b4, b5, b6, b7], hd, nn⟩ = z := ⟨_, rfl⟩
  have hl2 := Ri.half_len (r := ⟨[b0, b1, b2, b3, b4, b5, b6, b7], hd, nn⟩) rfl
  rw [hhalf] at hl2
  obtain ⟨d0, d1, d2, d3, d4, d5, d6, d7, hd2, nn2, rfl⟩ := Ri.open8 hl2
  have HHA := Lib.hid hhalf
  have HOL : Hid (o.length ≤ 8) := Lib.hid (by have := Ri.half_olen (r := ⟨[b0, b1, b2, b3, b4, b5, b6, b7], hd, nn⟩) hmv; rwa [hhalf] at this)
  obtain ⟨rv, hrv⟩ : ∃ rv, Value.agg #[.int .i64 b0, .int .i64 b1, .int .i64 b2, .int .i64 b3, .int .i64 b4, .int .i64 b5, .int .i64 b6, .int .i64 b7, .int .i64 hd, .int .i64 nn] = rv := ⟨_, rfl⟩
  have HRV := Lib.hid hrv
  clear hq hs hg hgl hf hv hqa hqB hqr hhalf hl2 hb8 hil hmv hrv
  go_enter Try.func88, Try.ntmps88
  go_upto_region 2 with fail
  clear q2 e1 e2 e3
  go_wp2_with (refine wpList_load_rowM (by rfl) 38 _ rfl bq (vi * 13 + 2) (by go_simp) (rL ⟨[b0, b1, b2, b3, b4, b5, b6, b7], hd, nn⟩) rv HRV.out.symm _ (HRG.out) Try.underlying38 rfl (by first | kernel_rfl | (rw [pL_len]; kernel_rfl)) ?_)
  rw [← HRV.out]
  refine (rhalf_own b0 b1 b2 b3 b4 b5 b6 b7 hd nn d0 d1 d2 d3 d4 d5 d6 d7 hd2 nn2 o HHA.out w).mono ?_
  rintro e w6 ⟨Ao, co, rfl, hio, hx6⟩
  have S6 := Lib.hid (S1.out.more hx6)
  have HIO6 := Lib.hid hio
  clear hx6 hio
  obtain ⟨BX6, hBX⟩ : ∃ BX6, w6.heap.size = BX6 := ⟨_, rfl⟩
  obtain ⟨va6, vb6, hva, hvb, hth, hbx, hxb⟩ := ring_box w6 (r := ⟨[d0, d1, d2, d3, d4, d5, d6, d7], hd2, nn2⟩) rfl
  rw [hBX] at hvb hth hbx
  have HBX6 := Lib.hid hBX
  have HVA6 := Lib.hid hva
  have HVB6 := Lib.hid hvb
  have HTA6 := Lib.hid hth
  have HBR6 := Lib.hid hbx
  have HXB6 := Lib.hid hxb
  have HGB6 := Lib.hid (range_row hbx)
  obtain ⟨rv6, hrv⟩ : ∃ rv6, Value.agg #[.int .i64 d0, .int .i64 d1, .int .i64 d2, .int .i64 d3, .int .i64 d4, .int .i64 d5, .int .i64 d6, .int .i64 d7, .int .i64 hd2, .int .i64 nn2] = rv6 := ⟨_, rfl⟩
  have HRV6 := Lib.hid hrv
  rw [hrv]
  clear hBX hva hvb hth hbx hxb hrv
  have S7 := Lib.hid (S6.out.more HXB6.out)
  have HIO7 := Lib.hid (HIO6.out.ext HXB6.out)
  go_upto_region 3 with (first | rw [HVA6.out, HBX6.out] | (refine wpList_store_rowM rfl 38 _ _ rfl BX6 0 (rL ⟨[d0, d1, d2, d3, d4, d5, d6, d7], hd2, nn2⟩) rv6 (by go_simp) (by go_simp) HRV6.out.symm HTA6.out (by first | kernel_rfl | (rw [pL_len]; kernel_rfl)) (rL_one _) HVB6.out ?_))
  cases o with
  | nil =>
    have c1 : vb6.cell? ⟨bq, vi * 13 + 1, none⟩ = some (.int .i64 nx) := (S7.out.getP' HP.out HQA.out) 1 _ rfl
    obtain ⟨w2, hw2⟩ : ∃ w2, vb6.setCell ⟨bq, vi * 13 + 1, none⟩ (.int .i64 0) = w2 := ⟨_, rfl⟩
    have hst := S7.out.setP' HP.out HQA.out (x' := ⟨m, 0, ⟨[b0, b1, b2, b3, b4, b5, b6, b7], hd, nn⟩, sq⟩) (j := 1) (ds := [.int .i64 0]) (by show 2 ≤ 13; omega) (pL_next ⟨m, nx, ⟨[b0, b1, b2, b3, b4, b5, b6, b7], hd, nn⟩, sq⟩ 0)
    have f1 := (hst.1 0 (by simp)).2
    rw [Nat.add_zero] at f1
    have HE : Hid (q = ({ s with ps := s.ps.set vi ⟨m, 0, ⟨[b0, b1, b2, b3, b4, b5, b6, b7], hd, nn⟩, sq⟩ }, nx)) := Lib.hid (by rw [← HQ.out]; unfold St.steal; simp only [HHA.out])
    have S2 : Hid (Sit w0 W0 R B w2 h q.1) := Lib.hid (by rw [HE.out, ← hw2]; exact hst.2)
    have HE2 : Hid (q.2 = nx) := Lib.hid (by rw [HE.out])
    have HW2 := Lib.hid hw2
    clear hst hw2
    simp only [List.length_nil]
    go_wp2_with (rw [HW2.out])
    go_ret
    rw [HE2.out]
    exact ⟨rfl, h, S2.out⟩
  | cons g l =>
    obtain ⟨w8, hw8⟩ : ∃ w8, vb6.setCells bq (vi * 13 + 2) (rL ⟨[d0, d1, d2, d3, d4, d5, d6, d7], hd2, nn2⟩) = w8 := ⟨_, rfl⟩
    have hst := S7.out.setP' HP.out HQA.out (x' := ⟨m, nx, ⟨[d0, d1, d2, d3, d4, d5, d6, d7], hd2, nn2⟩, sq⟩) (j := 2) (ds := rL ⟨[d0, d1, d2, d3, d4, d5, d6, d7], hd2, nn2⟩) (by rw [rL_len rfl]; decide) (pL_ring (x := ⟨m, nx, ⟨[b0, b1, b2, b3, b4, b5, b6, b7], hd, nn⟩, sq⟩) rfl rfl)
    rw [hw8] at hst
    obtain ⟨s2, hs2⟩ : ∃ s2 : St, { s with ps := s.ps.set vi ⟨m, nx, ⟨[d0, d1, d2, d3, d4, d5, d6, d7], hd2, nn2⟩, sq⟩ } = s2 := ⟨_, rfl⟩
    rw [hs2] at hst
    have HTH8 := Lib.hid hst.1
    have S8 := Lib.hid hst.2
    have HW8 := Lib.hid hw8
    have HG2 : Hid (StGood s2) := Lib.hid (by
      rw [← hs2]
      have hf := HG.out.few
      refine ⟨⟨hf.prog, hf.gs, by show (s.ps.set vi _).length ≤ _; rw [List.length_set]; exact hf.ps, hf.ms, hf.glob, hf.w, hf.timers, hf.tnum⟩, fun p hp => ?_, HG.out.tim⟩
      rcases List.mem_or_eq_of_mem_set hp with hp | rfl
      · exact HG.out.buf p hp
      · rfl)
    have HGL2 : Hid (s2.glob.length ≤ 80) := Lib.hid (by rw [← hs2]; exact HGL.out)
    have HE : Hid (q = (s2.tails p l, g)) := Lib.hid (by rw [← HQ.out, ← hs2]; unfold St.steal; simp only [HHA.out])
    have HUB : Hid (bq < vb6.heap.size ∧ bq < w.heap.size ∧ W0 < w.heap.size) := Lib.hid ⟨S7.out.ltP HP.out HQA.out, S1.out.ltP HP.out HQA.out, blk_lt S1.out.box⟩
    have HIO8 : Hid (OwnInts w8 w.heap.size (.slice Ao (g :: l).length co) (g :: l)) := Lib.hid (by rw [← hw8]; exact HIO7.out.updB (setCells_upd _ _ _ _) HUB.out.2.1)
    have HCAP := Lib.hid HIO8.out.capY.2
    have HLL : Hid (l.length ≤ 7) := Lib.hid (by have := HOL.out; simp only [List.length_cons] at this; omega)
    clear hst hw8 hs2
    have hb0 : (((l.length : Int) + 1) == 0) = false := by simp; omega
    have T1 : ∀ v, (Instr.slice 27 (.slice Ao (l.length + 1) co) (some (.int .i64 1)) none none).run Try.prog v = .ok (.slice (advK Ao 1 co) l.length (co - 1)) v := fun v => irun_from Ao (l.length + 1) co 1 (by omega) HCAP.out v
    simp only [List.length_cons]
    go_upto_region 8 with (first | (refine wpList_load_rowM (by rfl) 38 _ rfl BX6 0 (by go_simp) (rL ⟨[d0, d1, d2, d3, d4, d5, d6, d7], hd2, nn2⟩) rv6 HRV6.out.symm _ (HGB6.out) Try.underlying38 rfl (by first | kernel_rfl | (rw [pL_len]; kernel_rfl)) ?_) | (refine wpList_store_rowM rfl 38 _ _ rfl bq (vi * 13 + 2) (rL ⟨[d0, d1, d2, d3, d4, d5, d6, d7], hd2, nn2⟩) rv6 (by go_simp) (by go_simp) HRV6.out.symm HTH8.out (by first | kernel_rfl | (rw [pL_len]; kernel_rfl)) (rL_one _) HW8.out ?_))
    clear hb0
    go_wp2_with fail
    clear T1
    obtain ⟨av, hav⟩ : ∃ av, advK Ao 1 co = av := ⟨_, rfl⟩
    rw [hav]
    have HAV := Lib.hid hav
    clear hav
    go_loopw [46] (fun iv wr => ∃ k : Nat, k ≤ l.length ∧ iv = .int .i64 k ∧ OwnInts wr w.heap.size (.slice Ao (g :: l).length co) (g :: l) ∧ ∃ h', Sit w0 W0 R B wr h' (s2.tails p (l.take k))) (fun iv _ => l.length - (intOf iv).toNat)
    case atStart => exact ⟨0, Nat.zero_le _, rfl, HIO8.out, h, S8.out⟩
    case round =>
      obtain ⟨k, hk, rfl, ho, h1, hsk⟩ := hrel
      have HO := Lib.hid ho
      have SK := Lib.hid hsk
      clear ho hsk
      by_cases hlt : k < l.length
      · obtain ⟨x, hx⟩ : ∃ x, l[k]? = some x := ⟨_, List.getElem?_eq_getElem hlt⟩
        obtain ⟨bo, oo, hA, hb, hcx⟩ := ints_get (HO.out.at.2.behind (k := 1) (by simp) HCAP.out) (k := k) (show ((g :: l).drop 1)[k]? = some x from hx)
        have HX := Lib.hid hx
        rw [HAV.out] at hA
        subst hA
        obtain ⟨sk, hsk⟩ : ∃ sk, s2.tails p (l.take k) = sk := ⟨_, rfl⟩
        have hgk := St.tails_good (p := p) (l := l.take k) HG2.out (by have := HGL2.out; have := HLL.out; rw [List.length_take]; omega)
        rw [hsk] at hgk SK
        have HGK := Lib.hid hgk.1
        have HNX : Hid (s2.tails p (l.take (k + 1)) = sk.tail p x) := Lib.hid (by rw [St.tails_take hx, hsk])
        have HGT : Hid (sk.glob.length ≤ 90000) := Lib.hid (by have a1 := hgk.2; have := HGL2.out; have := HLL.out; rw [List.length_take] at a1; omega)
        have HKK : Hid (StOk wr h1 sk) := Lib.hid (by obtain ⟨I, hI⟩ := SK.out.ap; exact hI.ok HGK.out.buf)
        have e1 : (k : Int) < (l.length : Int) := by omega
        have e2 : (k : Int) < 100000 := by have := HLL.out; omega
        have HW0 : Hid (W0 < w.heap.size) := Lib.hid HUB.out.2.2
        clear hx hb hgk hsk
        go_wp2_with (refine wpList_load_rowW (by rfl) 32 _ rfl W0 (by go_simp) (stL h1 sk) (stV h1 sk) rfl _ (range_row SK.out.box) Try.underlying32 rfl (by kernel_rfl) ?_)
        refine (rdTail_any h1 sk p x wr HKK.out HGK.out.few).mono ?_
        rintro e w9 ⟨h2, I, rfl, ha, hx9⟩
        obtain ⟨sn, hsn⟩ : ∃ sn, sk.tail p x = sn := ⟨_, rfl⟩
        rw [hsn] at ha ⊢
        have hst := SK.out.again hx9 ha
        obtain ⟨wa, hwa⟩ : ∃ wa, w9.setCells W0 0 (stL h2 sn) = wa := ⟨_, rfl⟩
        rw [hwa] at hst
        have HTA := Lib.hid hst.1
        have NS : Hid (Sit w0 W0 R B wa h2 (s2.tails p (l.take (k + 1)))) := Lib.hid (by rw [HNX.out, hsn]; exact hst.2)
        have NO : Hid (OwnInts wa w.heap.size (.slice Ao (g :: l).length co) (g :: l)) := Lib.hid (by rw [← hwa]; exact (HO.out.ext hx9).updB (setCells_upd _ _ _ _) HW0.out)
        have HWA := Lib.hid hwa
        clear ha hx9 hsn hst hwa hcx
        go_wp2_with (refine wpList_store_row rfl 32 _ _ rfl W0 (stL h2 sn) (stV h2 sn) (by go_simp) (by go_simp) rfl HTA.out (by kernel_rfl) (stL_one _ _) HWA.out ?_)
        go_roundw
        case rel => exact ⟨k + 1, by omega, by go_num, NO.out, h2, NS.out⟩
        case measure => simp [intOf]; omega
      · obtain rfl : k = l.length := by omega
        obtain ⟨bo, oo, hA, hb, hcx⟩ := ints_get HO.out.at.2 (k := 0) (x := g) rfl
        rw [Nat.add_zero] at hcx
        have S9 : Hid (∃ h', Sit w0 W0 R B wr h' q.1) := Lib.hid ⟨h1, by rw [HE.out]; have := SK.out; rw [List.take_length] at this; exact this⟩
        have HE2 : Hid (q.2 = g) := Lib.hid (by rw [HE.out])
        have e0 : (0 : Int) < (l.length : Int) + 1 := by omega
        clear hb SK
        subst hA
        go_wp2
        go_ret
        rw [HE2.out]
        exact ⟨rfl, S9.out⟩
namespace St
theorem in_runs {s : St} (h : s.may = true) {g : Int} (hg : g ∈ s.runs) : ∃ (k : Nat) (y : Gr), g = (k : Int) + 1 ∧ s.gs[k]? = some y := by
  obtain ⟨_, _, _, _, h5, _⟩ := may_parts h
  unfold allIn at h5
  simp only [Bool.and_eq_true, within_iff] at h5
  have := h5.1.1.1 g hg
  exact ⟨(g - 1).toNat, _, by omega, List.getElem?_eq_getElem (by omega)⟩
theorem queue_runs {s : St} {i : Nat} {x : Pr} (hx : s.ps[i]? = some x) {g : Int} (hg : g ∈ queueOf x) : g ∈ s.runs := List.mem_append_left _ (List.mem_flatMap.2 ⟨x, List.mem_of_getElem? hx, hg⟩)
theorem queue_nil {x : Pr} (h : x.next = 0) (hl : x.ring.list = []) : queueOf x = [] := by unfold queueOf; rw [if_neg (by simp [h]), hl]; rfl
theorem queue_of_nil {x : Pr} (h : queueOf x = []) : x.next = 0 ∧ x.ring.list = [] := by
  unfold queueOf at h
  rw [List.append_eq_nil_iff] at h
  refine ⟨?_, h.2⟩
  by_cases h0 : x.next = 0
  · exact h0
  · have := h.1
    rw [if_pos h0] at this
    cases this
theorem own_next {s : St} {i : Nat} {x : Pr} (h0 : x.next ≠ 0) : s.own i x = ({ s with ps := s.ps.set i { x with next := 0 } }, x.next) := by unfold own; rw [if_pos h0]
theorem own_spec (s : St) (i : Nat) {x : Pr} (hb : x.ring.buf.length = 8) (hm : x.ring.may = true) (h0 : x.next = 0) :
    (∃ g l r, x.ring.list = g :: l ∧ 1 ≤ g ∧ r.Holds l ∧ s.own i x = ({ s with ps := s.ps.set i { x with ring := r } }, g)) ∨ (x.ring.list = [] ∧ s.own i x = (s, 0)) := by
  have hh := Ri.holds_may hb hm
  unfold own
  rw [if_neg (by simp [h0])]
  cases hl : x.ring.list with
  | nil =>
    rw [hl] at hh
    rw [Ri.pop_nil hh]
    exact .inr ⟨rfl, rfl⟩
  | cons g l =>
    rw [hl] at hh
    obtain ⟨r, h1, h2⟩ := Ri.holds_pop hh
    rw [h1]
    exact .inl ⟨g, l, r, rfl, Ri.holds_pos hh g (by simp), h2, rfl⟩
theorem tails_spec {i : Nat} : ∀ {l m : List Int} {s : St} {x : Pr}, s.ps[i]? = some x → x.ring.Holds m → m.length + l.length ≤ 8 → (∀ g ∈ l, 1 ≤ g) → ∃ r : Ri, r.Holds (m ++ l) ∧ s.tails ((i : Int) + 1) l = { s with ps := s.ps.set i { x with ring := r } }
  | [], m, s, x, hx, hh, _, _ => by
    refine ⟨x.ring, by rw [List.append_nil]; exact hh, ?_⟩
    have hil := (List.getElem?_eq_some_iff.1 hx).1
    have : s.ps.set i x = s.ps := by
      apply List.ext_getElem?
      intro a
      by_cases ha : a = i
      · subst ha
        rw [List.getElem?_set_self hil, hx]
      · rw [List.getElem?_set_ne (Ne.symm ha)]
    show s = { s with ps := s.ps.set i x }
    rw [this]
  | g :: l, m, s, x, hx, hh, hl, hp => by
    have hil := (List.getElem?_eq_some_iff.1 hx).1
    simp only [List.length_cons] at hl
    obtain ⟨r, h1, h2⟩ := Ri.holds_push hh (hp g (by simp)) (by omega)
    obtain ⟨r', h3, h4⟩ := tails_spec (l := l) (m := m ++ [g]) (s := { s with ps := s.ps.set i { x with ring := r } }) (x := { x with ring := r }) (List.getElem?_set_self hil) h2 (by rw [List.length_append]; simp; omega) (fun y hy => hp y (by simp [hy]))
    refine ⟨r', by simpa using h3, ?_⟩
    show tails (s.tail ((i : Int) + 1) g) _ l = _
    rw [tail_push hx (hp g (by simp)) (Ri.may_of hh) h1, h4]
    simp only [List.set_set]
inductive PickC (s : St) (i : Nat) (x : Pr) (vc : Int) : St → Int → Prop
  | next (h : x.next ≠ 0) : PickC s i x vc { s with ps := s.ps.set i { x with next := 0 } } x.next
  | ring {g : Int} {l : List Int} {r : Ri} (h : x.next = 0) (hl : x.ring.list = g :: l) (hr : r.Holds l) : PickC s i x vc { s with ps := s.ps.set i { x with ring := r } } g
  | glob {g : Int} {l : List Int} (h : queueOf x = []) (hg : s.glob = g :: l) : PickC s i x vc { s with glob := l } g
  | half {vi : Nat} {v : Pr} {g : Int} {l : List Int} {r1 r2 : Ri} (h : queueOf x = []) (hg : s.glob = []) (hv : vc = (vi : Int) + 1) (hne : vi ≠ i) (hu : (vi : Int) + 1 ≤ s.procs) (hvx : s.ps[vi]? = some v) (hl : v.ring.list.take ((v.ring.list.length + 1) / 2) = g :: l) (hr1 : r1.Holds (v.ring.list.drop ((v.ring.list.length + 1) / 2))) (hr2 : r2.Holds l) :
      PickC s i x vc { s with ps := (s.ps.set vi { v with ring := r1 }).set i { x with ring := r2 } } g
  | vnext {vi : Nat} {v : Pr} (h : queueOf x = []) (hg : s.glob = []) (hv : vc = (vi : Int) + 1) (hne : vi ≠ i) (hu : (vi : Int) + 1 ≤ s.procs) (hvx : s.ps[vi]? = some v) (hl : v.ring.list = []) : PickC s i x vc { s with ps := s.ps.set vi { v with next := 0 } } v.next
  | none (h : queueOf x = []) (hg : s.glob = []) (hv : ¬ (vc ≠ (i : Int) + 1 ∧ 1 ≤ vc ∧ vc ≤ s.procs)) : PickC s i x vc s 0
theorem steal_pick {s : St} {i j vi : Nat} {x v : Pr} (h : Idle s i j x) (hb : ∀ p ∈ s.ps, p.ring.buf.length = 8) (hq : queueOf x = []) (hg : s.glob = []) (hne : vi ≠ i) (hu : (vi : Int) + 1 ≤ s.procs) (hv : s.ps[vi]? = some v) :
    PickC s i x ((vi : Int) + 1) (s.steal ((i : Int) + 1) vi v).1 (s.steal ((i : Int) + 1) vi v).2 := by
  have hh := Ri.holds_may (hb v (List.mem_of_getElem? hv)) (may_ring h.may hv)
  have hhx := Ri.holds_may (hb x (List.mem_of_getElem? h.at_)) (may_ring h.may h.at_)
  rw [(queue_of_nil hq).2] at hhx
  have h8 := (Ri.holds_n hh).2
  have hpos := Ri.holds_pos hh
  obtain ⟨r1, e1, hr1⟩ := Ri.half_holds hh
  unfold steal
  rw [e1]
  simp only
  cases hl : v.ring.list.take ((v.ring.list.length + 1) / 2) with
  | nil =>
    have : v.ring.list = [] := by
      have hz := congrArg List.length hl
      rw [List.length_take] at hz
      simp only [List.length_nil] at hz
      exact List.length_eq_zero_iff.1 (by omega)
    exact .vnext hq hg rfl hne hu hv this
  | cons g l =>
    have hlen := congrArg List.length hl
    rw [List.length_take] at hlen
    simp only [List.length_cons] at hlen
    have hxi : ({ s with ps := s.ps.set vi { v with ring := r1 } } : St).ps[i]? = some x := by show (s.ps.set vi _)[i]? = _; rw [List.getElem?_set_ne hne]; exact h.at_
    obtain ⟨r2, hr2, e2⟩ := tails_spec (l := l) hxi hhx (by simp only [List.length_nil]; omega) (fun y hy => hpos y (List.mem_of_mem_take (by rw [hl]; simp [hy])))
    simp only
    rw [e2]
    exact .half hq hg rfl hne hu hv hl hr1 (by simpa using hr2)
theorem PickC.like {s t : St} {i : Nat} {x : Pr} {vc g : Int} (h : PickC s i x vc t g) (hx : s.ps[i]? = some x) : t.gs = s.gs ∧ t.ms = s.ms ∧ t.ps.length = s.ps.length ∧ (∃ x', t.ps[i]? = some x' ∧ x'.m = x.m) ∧ t.prog = s.prog ∧ t.timers = s.timers ∧ t.glob.length ≤ s.glob.length ∧ t.wts = s.wts := by
  have hil := (List.getElem?_eq_some_iff.1 hx).1
  cases h with
  | next h => exact ⟨rfl, rfl, List.length_set, ⟨_, List.getElem?_set_self hil, rfl⟩, rfl, rfl, Nat.le_refl _, rfl⟩
  | ring h hl hr => exact ⟨rfl, rfl, List.length_set, ⟨_, List.getElem?_set_self hil, rfl⟩, rfl, rfl, Nat.le_refl _, rfl⟩
  | glob h hg => exact ⟨rfl, rfl, rfl, ⟨x, hx, rfl⟩, rfl, rfl, by rw [hg]; simp, rfl⟩
  | half h hg hv hne hu hvx hl hr1 hr2 => exact ⟨rfl, rfl, by simp only [List.length_set], ⟨_, List.getElem?_set_self (by rw [List.length_set]; exact hil), rfl⟩, rfl, rfl, Nat.le_refl _, rfl⟩
  | vnext h hg hv hne hu hvx hl => exact ⟨rfl, rfl, List.length_set, ⟨x, by show (s.ps.set _ _)[i]? = _; rw [List.getElem?_set_ne hne]; exact hx, rfl⟩, rfl, rfl, Nat.le_refl _, rfl⟩
  | none h hg hv => exact ⟨rfl, rfl, rfl, ⟨x, hx, rfl⟩, rfl, rfl, Nat.le_refl _, rfl⟩
theorem PickC.buf {s t : St} {i : Nat} {x : Pr} {vc g : Int} (h : PickC s i x vc t g) (hx : s.ps[i]? = some x) (hb : ∀ p ∈ s.ps, p.ring.buf.length = 8) : ∀ p ∈ t.ps, p.ring.buf.length = 8 := by
  have hbx := hb x (List.mem_of_getElem? hx)
  have set1 : ∀ {k : Nat} {y : Pr}, y.ring.buf.length = 8 → ∀ p ∈ s.ps.set k y, p.ring.buf.length = 8 := fun hy p hp => by
    rcases List.mem_or_eq_of_mem_set hp with hp | rfl
    · exact hb p hp
    · exact hy
  cases h with
  | next h => exact set1 hbx
  | ring h hl hr => exact set1 (Ri.holds_len hr)
  | glob h hg => exact hb
  | half h hg hv hne hu hvx hl hr1 hr2 =>
    intro p hp
    rcases List.mem_or_eq_of_mem_set hp with hp | rfl
    · exact set1 (Ri.holds_len hr1) p hp
    · exact Ri.holds_len hr2
  | @vnext vi v h hg hv hne hu hvx hl => exact set1 (y := { v with next := 0 }) (hb v (List.mem_of_getElem? hvx))
  | none h hg hv => exact hb
theorem PickC.good {s t : St} {i : Nat} {x : Pr} {vc g : Int} (h : PickC s i x vc t g) (hx : s.ps[i]? = some x) (hg : StGood s) : StGood t := by
  obtain ⟨e1, e2, e3, _, e5, e6, e7, e8⟩ := h.like hx
  have hf := hg.few
  have w0 : t.w0 = s.w0 ∧ t.w1 = s.w1 ∧ t.w2 = s.w2 ∧ t.w3 = s.w3 := by
    unfold wts at e8
    simp only [List.cons.injEq, and_true] at e8
    exact e8
  exact ⟨⟨by rw [e5]; exact hf.prog, by rw [e1]; exact hf.gs, by rw [e3]; exact hf.ps, by rw [e2]; exact hf.ms, Nat.le_trans e7 hf.glob, by rw [w0.1, w0.2.1, w0.2.2.1, w0.2.2.2]; exact hf.w, by rw [e6]; exact hf.timers, by rw [e6]; exact hf.tnum⟩, h.buf hx hg.buf, by rw [e6]; exact hg.tim⟩
theorem PickC.runs {s t : St} {i : Nat} {x : Pr} {vc g : Int} (h : PickC s i x vc t g) (hx : s.ps[i]? = some x) : g = 0 ∨ g ∈ s.runs := by
  cases h with
  | next h => exact .inr (queue_runs hx (mem_queue_next h))
  | ring h hl hr => exact .inr (queue_runs hx (mem_queue_ring (by rw [hl]; simp)))
  | glob h hg => exact .inr (List.mem_append_right _ (by rw [hg]; simp))
  | half h hg hv hne hu hvx hl hr1 hr2 => exact .inr (queue_runs hvx (mem_queue_ring (List.mem_of_mem_take (by rw [hl]; simp))))
  | @vnext vi v h hg hv hne hu hvx hl =>
    by_cases h0 : v.next = 0
    · exact .inl h0
    · exact .inr (queue_runs hvx (mem_queue_next h0))
  | none h hg hv => exact .inl rfl
def after (t : St) (p g : Int) : St := if g = 0 then t else t.runG p g
end St
end Go.Proofs.Ytogcfndhcphpaaa
