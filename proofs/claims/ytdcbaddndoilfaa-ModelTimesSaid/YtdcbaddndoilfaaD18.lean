/-
  Several texts in one: Hzn, Lr, Lf, Lq, Hzo, Hzp, Hzq.
-/
import Derived.Test.YtdcbaddndoilfaaD10
import Derived.Test.YtdcbaddndoilfaaD06
import Derived.Test.YtdcbaddndoilfaaD16
import Derived.Test.YtdcbaddndoilfaaD01
import Derived.Lib.SmallJoins
import Derived.Test.YtdcbaddndoilfaaD17
import Derived.Test.YtdcbaddndoilfaaD14
set_option linter.unusedVariables false
set_option linter.unusedSimpArgs false
namespace Go.Proofs.Ytdcbaddndoilfaa
open Go.RowKit
namespace Md
theorem hasP_mem {m : Int} : ∀ {l : List (Int × Int)} {i : Int}, hasP l m i ≠ 0 → ∃ (k : Nat) (p : Int × Int), l[k]? = some p ∧ p.1 = m ∧ hasP l m i = i + (k : Int)
  | [], i, h => absurd rfl h
  | p :: l, i, h => by
    unfold hasP at h ⊢
    by_cases hp : p.1 = m
    · exact ⟨0, p, rfl, hp, by rw [if_pos hp]; omega⟩
    · rw [if_neg hp] at h ⊢
      obtain ⟨k, q, h1, h2, h3⟩ := hasP_mem h
      exact ⟨k + 1, q, by simpa using h1, h2, by rw [h3]; omega⟩
theorem hasP_ne {m : Int} : ∀ {l : List (Int × Int)} {i : Int} {k : Nat} {p : Int × Int}, 0 < i → l[k]? = some p → p.1 = m → hasP l m i ≠ 0
  | [], _, _, _, _, h, _ => by simp at h
  | q :: l, i, k, p, hi, h, hp => by
    unfold hasP
    by_cases hq : q.1 = m
    · rw [if_pos hq]; omega
    · rw [if_neg hq]
      cases k with
      | zero => obtain rfl : q = p := by simpa using h
                exact absurd hp hq
      | succ k => exact hasP_ne (by omega) (by simpa using h) hp
theorem hasP_set {l : List (Int × Int)} {k : Nat} {m : Int} (hk : k < l.length) : hasP (setP l ((k : Int) + 1) m) m 1 ≠ 0 := by
  have h := List.getElem?_eq_getElem hk
  rw [setP_at (a := l[k].1) (b := l[k].2) h]
  exact hasP_ne (k := k) (p := (m, l[k].2 + 1)) (by omega) (List.getElem?_set_self hk) rfl
theorem hasP_set0 {l : List (Int × Int)} {p m : Int} (hm : 1 ≤ m) (hp : p ≠ 0) (h : hasP (setP l p 0) m 1 = p) : False := by
  obtain ⟨k, q, h1, h2, h3⟩ := hasP_mem (by rw [h]; exact hp)
  rw [h] at h3
  have hk : (p - 1).toNat = k := by omega
  unfold setP at h1
  rw [hk] at h1
  have hkl : k < l.length := by have := (List.getElem?_eq_some_iff.1 h1).1; simpa using this
  rw [List.getElem?_set_self hkl] at h1
  obtain rfl := Option.some.inj h1
  simp only at h2
  omega
theorem setG_key {l : List Gs4} (hr : rises l) {g st m : Int} {z : Gs4} (h : z ∈ setG l g st m) (hz : z.1 = g) : z.2.2.1 = m ∧ z.2.1 = st := by
  unfold setG at h
  cases hf : fnd l g with
  | none =>
    rw [hf] at h
    exact absurd hz (fnd_none.1 hf z h)
  | some k =>
    rw [hf] at h
    obtain ⟨y, h1, h2, _⟩ := fnd_some hf
    obtain ⟨j, hj⟩ := List.mem_iff_getElem?.1 h
    by_cases hjk : j = k
    · subst hjk
      simp only at hj
      rw [List.getElem?_set_self (List.getElem?_eq_some_iff.1 h1).1] at hj
      obtain rfl := Option.some.inj hj
      exact ⟨rfl, rfl⟩
    · simp only at hj
      rw [List.getElem?_set_ne (Ne.symm hjk)] at hj
      have := fnd_of hr hj hz
      rw [hf] at this
      exact absurd (Option.some.inj this).symm hjk
theorem hasG_set0 {l : List Gs4} (hr : rises l) {g st m : Int} (hm : 1 ≤ m) (hg : g ≠ 0) (h : hasG (setG l g st 0) m = g) : False := by
  obtain ⟨z, h1, h2, h3⟩ := hasG_mem (by rw [h]; exact hg)
  rw [h] at h2
  have := (setG_key hr h1 h2).1
  omega
theorem stat_set {l : List Gs4} (hr : rises l) {g st m : Int} {k : Nat} (hf : fnd l g = some k) : (stat (setG l g st m) g).1 = st := by
  have hr2 := setG_rises hr g st m
  obtain ⟨y, h1, h2, _⟩ := fnd_some hf
  have hs : (setG l g st m)[k]? = some (g, st, m, y.2.2.2 + 1) := by rw [setG_at hf h1]; exact List.getElem?_set_self (List.getElem?_eq_some_iff.1 h1).1
  have hf2 := fnd_of hr2 hs rfl
  unfold stat
  rw [hf2]
  simp only
  rw [List.getD_eq_getElem?_getD, hs]
  rfl
theorem mem_insert {l : List Gs4} {k : Nat} {y : Gs4} (hk : k ≤ l.length) : y ∈ l.insertIdx k y := by
  rw [insertIdx_eq l k y hk]
  simp
theorem ask_again {x : Sn} {l : Lg} (hx : x.may = true) (hm : 1 ≤ l.m) (h : ask x l = true) : ask (thn x l) l = false := by
  have hr := (rises_may hx).1
  obtain ⟨time, ps, gs⟩ := x
  obtain ⟨lt, lm, kd, lg, lp, ls⟩ := l
  simp only at hr hm
  cases hb : ask (thn ⟨time, ps, gs⟩ ⟨lt, lm, kd, lg, lp, ls⟩) ⟨lt, lm, kd, lg, lp, ls⟩ with
  | false => rfl
  | true =>
    exfalso
    by_cases k1 : kd = 1
    · subst k1
      simp only [ask, thn, Int.reduceEq, if_true, if_false, if_pos, Bool.and_eq_true, decide_eq_true_eq] at h hb
      obtain ⟨k, rfl, hk⟩ := free_range h.1.1
      exact hasP_set hk hb.1.2
    by_cases k2 : kd = 2
    · subst k2
      simp only [ask, thn, Int.reduceEq, if_true, if_false, if_pos, Bool.and_eq_true, decide_eq_true_eq] at h hb
      exact hasP_set0 hm (fun e => hb.1.1 (by rw [← hb.1.2]; exact e)) hb.1.2.symm
    by_cases k3 : kd = 3
    · subst k3
      simp only [ask, thn, Int.reduceEq, if_true, if_false, if_pos, Bool.and_eq_true, decide_eq_true_eq] at h hb
      exact fnd_none.1 hb.2 _ (mem_insert (gpos_le _ _)) rfl
    by_cases k4 : kd = 4
    · subst k4
      simp only [ask, thn, Int.reduceEq, if_true, if_false, if_pos, Bool.and_eq_true, decide_eq_true_eq] at h hb
      obtain ⟨k, hf⟩ := stat_some (l := gs) (g := lg) (by rw [h.2]; simp)
      have := stat_set hr (st := 2) (m := lm) hf
      rw [hb.2] at this
      simp at this
    by_cases k5 : kd = 5
    · subst k5
      simp only [ask, thn, Int.reduceEq, or_self, or_true, true_or, or_false, false_or, if_true, if_false, if_pos, Bool.and_eq_true, decide_eq_true_eq] at h hb
      exact hasG_set0 hr hm (fun e => hb.1.2 (by rw [← hb.2]; exact e)) hb.2.symm
    by_cases k6 : kd = 6
    · subst k6
      simp only [ask, thn, Int.reduceEq, or_self, or_true, true_or, or_false, false_or, if_true, if_false, if_pos, Bool.and_eq_true, decide_eq_true_eq] at h hb
      exact hasG_set0 hr hm (fun e => hb.1.2 (by rw [← hb.2]; exact e)) hb.2.symm
    by_cases k7 : kd = 7
    · subst k7
      simp only [ask, thn, Int.reduceEq, or_self, or_true, true_or, or_false, false_or, if_true, if_false, if_pos, Bool.and_eq_true, decide_eq_true_eq] at h hb
      obtain ⟨k, hf⟩ := stat_some (l := gs) (g := lg) (by rw [h.2]; simp)
      have := stat_set hr (st := 1) (m := 0) hf
      rw [hb.2] at this
      simp at this
    by_cases k8 : kd = 8
    · subst k8
      simp only [ask, thn, Int.reduceEq, or_self, or_true, true_or, or_false, false_or, if_true, if_false, if_pos, Bool.and_eq_true, decide_eq_true_eq] at h hb
      obtain ⟨y, g1, g2, _⟩ := hasG_mem h.1.2
      obtain ⟨k, hf⟩ := fnd_mem g1 (g2.trans h.2.symm)
      rw [← wo_eq hr hf] at hb
      obtain ⟨z, z1, z2, _⟩ := hasG_mem hb.1.2
      have := (List.mem_filter.1 z1).2
      rw [z2, ← hb.2] at this
      simp at this
    by_cases k9 : kd = 9
    · subst k9
      simp only [ask, thn, Int.reduceEq, or_self, or_true, true_or, or_false, false_or, if_true, if_false, if_pos, Bool.and_eq_true, decide_eq_true_eq] at h hb
      exact hasP_set0 hm (fun e => hb.1.1.1 (by rw [← hb.2]; exact e)) hb.2.symm
    by_cases k10 : kd = 10
    · subst k10
      by_cases hp : lp = 0
      · subst hp
        simp only [ask, thn, Int.reduceEq, or_self, or_true, true_or, or_false, false_or, if_true, if_false, if_pos, Bool.and_eq_true, decide_eq_true_eq] at h hb
        exact hasG_set0 hr hm (fun e => hb.1.1.2 (by rw [← hb.1.2]; exact e)) hb.1.2.symm
      · simp only [ask, thn, hp, Int.reduceEq, or_self, or_true, true_or, or_false, false_or, false_and, decide_false, Bool.false_or, if_true, if_false, if_pos, Bool.and_eq_true, decide_eq_true_eq] at h hb
        obtain ⟨k, rfl, hk⟩ := free_range h.2
        exact hasP_set hk hb.1.1.1
    · simp only [ask, k1, k2, k3, k4, k5, k6, k7, k8, k9, k10, or_self, if_false] at h
      cases h
theorem app_some {x : Sn} {l : Lg} {y : Sn} (h : app x l = some y) : (1 ≤ l.m ∧ x.time ≤ l.time ∧ x.may = true ∧ ask x l = true ∧ ({ thn x l with time := l.time } : Sn).may = true) ∧ y = { thn x l with time := l.time } := by
  unfold app at h
  split at h
  · next hh => exact ⟨hh, (Option.some.inj h).symm⟩
  · cases h
theorem app_once {x : Sn} {l : Lg} {y : Sn} (h : app x l = some y) : app y l = none := by
  obtain ⟨⟨h1, h2, h3, h4, h5⟩, rfl⟩ := app_some h
  have h6 := ask_again h3 h1 h4
  unfold app
  rw [if_neg]
  rintro ⟨_, _, _, k4, _⟩
  have : ask { thn x l with time := l.time } l = ask (thn x l) l := rfl
  rw [this, h6] at k4
  cases k4
theorem may_timed {x : Sn} {t t' : Int} (h : ({ x with time := t } : Sn).may = true) (h0 : 0 ≤ t' ∧ t' < 4611686018427387904) : ({ x with time := t' } : Sn).may = true := by
  rw [Sn.may_iff] at h ⊢
  exact ⟨(snNum_iff _).2 h0, h.2⟩
theorem app_later {x : Sn} {l : Lg} {y : Sn} (h : app x l = some y) {t : Int} (h1 : x.time ≤ t) (h0 : 0 ≤ t ∧ t < 4611686018427387904) : app x { l with time := t } = some { y with time := t } := by
  obtain ⟨⟨a1, a2, a3, a4, a5⟩, rfl⟩ := app_some h
  unfold app
  rw [if_pos ⟨a1, h1, a3, a4, may_timed a5 h0⟩]
  rfl
theorem app_early {x : Sn} {l : Lg} {t : Int} (h : t < x.time) : app x { l with time := t } = none := by
  unfold app
  rw [if_neg (fun k => by have := k.2.1; simp only at this; omega)]
theorem app_time {x : Sn} {l : Lg} {y : Sn} (h : app x l = some y) : 0 ≤ x.time ∧ x.time ≤ l.time ∧ l.time < 4611686018427387904 ∧ y.may = true ∧ y.time = l.time ∧ y.ps.length = x.ps.length := by
  obtain ⟨⟨a1, a2, a3, a4, a5⟩, rfl⟩ := app_some h
  have b1 := (snNum_iff _).1 ((Sn.may_iff _).1 a3).1
  have b2 := (snNum_iff _).1 ((Sn.may_iff _).1 a5).1
  refine ⟨b1.1, a2, b2.2, a5, rfl, ?_⟩
  unfold thn
  repeat' split
  all_goals first | rfl | (unfold setP; simp)
theorem setG_keep {l : List Gs4} {g st m : Int} {z : Gs4} (h : z ∈ l) (hz : z.1 ≠ g) : z ∈ setG l g st m := by
  unfold setG
  cases hf : fnd l g with
  | none => exact h
  | some k =>
    obtain ⟨y, h1, h2, _⟩ := fnd_some hf
    obtain ⟨j, hj⟩ := List.mem_iff_getElem?.1 h
    have hjk : j ≠ k := fun e => by
      subst e
      rw [h1] at hj
      obtain rfl := Option.some.inj hj
      exact hz h2
    exact List.mem_of_getElem? (i := j) (by simp only; rw [List.getElem?_set_ne (Ne.symm hjk)]; exact hj)
theorem ins_keep {l : List Gs4} {k : Nat} {y z : Gs4} (hk : k ≤ l.length) (h : z ∈ l) : z ∈ l.insertIdx k y := by
  rw [insertIdx_eq l k y hk]
  rw [← List.take_append_drop k l] at h
  rcases List.mem_append.1 h with h | h
  · exact List.mem_append_left _ h
  · exact List.mem_append_right _ (List.mem_cons_of_mem _ h)
theorem thn_keeps {x : Sn} {l : Lg} (hx : x.may = true) (ha : ask x l = true) {z : Gs4} (h : z ∈ x.gs) (hz : z.1 ≠ l.g) : z ∈ (thn x l).gs := by
  have hr := (rises_may hx).1
  have hf := finds hx ha
  unfold thn
  by_cases k8 : l.kind = 8
  · obtain ⟨k, hk⟩ := hf.g1 (by omega)
    simp only [k8, Int.reduceEq, if_true, if_false, or_self]
    rw [← wo_eq hr hk]
    exact List.mem_filter.2 ⟨h, by simpa using hz⟩
  · repeat' split
    all_goals first | exact h | exact setG_keep h hz | exact ins_keep (gpos_le _ _) h | contradiction
theorem app_keeps {x : Sn} {l : Lg} {y : Sn} (h : app x l = some y) {z : Gs4} (hm : z ∈ x.gs) (hz : z.1 ≠ l.g) : ∃ k : Nat, fnd y.gs z.1 = some k ∧ y.gs[k]? = some z := by
  have hy := (app_time h).2.2.2.1
  obtain ⟨⟨a1, a2, a3, a4, a5⟩, rfl⟩ := app_some h
  have h1 := thn_keeps a3 a4 hm hz
  obtain ⟨k, hk⟩ := List.mem_iff_getElem?.1 h1
  exact ⟨k, fnd_of (rises_may hy).1 hk rfl, hk⟩
end Md
open Go.ChangeShapes Go.WideShapes Go.Deep Go.RowKit
def RecsAt {α : Type} (m : Nat) (R : World → List Value → α → Prop) (w : World) (v : Value) (xs : List α) : Prop :=
  ∃ A c, v = .slice A xs.length c ∧ xs.length ≤ c ∧ (0 < xs.length → ∃ b o, A = some ⟨b, o, none⟩ ∧ b < w.heap.size ∧ ∀ j x, xs[j]? = some x → ∃ cs : List Value, cs.length = m ∧ R w cs x ∧ ∀ i u, cs[i]? = some u → w.cell? ⟨b, o + j * m + i, none⟩ = some u)
theorem RecsAt.rows {α : Type} {m : Nat} {f : α → List Value} {w : World} {v : Value} {xs : List α} (h : RecsAt m (fun _ cs x => cs = f x) w v xs) : RowsAt m f w v xs := by
  obtain ⟨A, c, rfl, hc, hA⟩ := h
  refine ⟨A, c, rfl, hc, fun h0 => ?_⟩
  obtain ⟨b, o, hb, hlt, hk⟩ := hA h0
  refine ⟨b, o, hb, hlt, fun j x hj i u hu => ?_⟩
  obtain ⟨cs, _, rfl, h3⟩ := hk j x hj
  exact h3 i u hu
section
variable {H : Type} {enc : TypeId × Value → H} {P : Program} {w : World} {base : Nat} {held : Bool}
theorem open_recs {α : Type} {R : World → List Value → α → Prop} {G : α → Prop} {m : Nat} (x0 : α) {t e : TypeId} {fuel len cap : Nat} {A : Option Addr} {x : DataW H × List MemPlace} (ht : P.underlying t = some (.slice e)) (hC : P.cellsOf e = m) (hm0 : 0 < m)
    (elem : ∀ (n : Nat) (cs : List Value) (y : DataW H × List MemPlace), DataW.trod enc P w base (fun _ => true) held n e cs = some y → ∃ x : α, R w cs x ∧ G x)
    (h : DataW.trod enc P w base (fun _ => true) held fuel t [.slice A len cap] = some x) :
    len ≤ maxLen ∧ ∃ l : List α, l.length = len ∧ RecsAt m R w (.slice A len cap) l ∧ ∀ x ∈ l, G x := by
  rcases open_slice ht h with ⟨h0, _⟩ | ⟨a, l, c, mm, n, D, Pl, hcs, _, hl, hm, hmm, _, hi⟩
  · simp at h0
    obtain ⟨rfl, rfl, rfl⟩ := h0
    exact ⟨by simp [maxLen], [], rfl, ⟨none, 0, rfl, Nat.le_refl _, fun h => by simp at h⟩, by simp⟩
  · simp at hcs
    obtain ⟨rfl, rfl, rfl⟩ := hcs
    have hmc : mm = cap := by simpa using hmm
    subst hmc
    have key : ∀ i, i < len → ∃ x : α, G x ∧ ∃ cs : List Value, cs.length = m ∧ R w cs x ∧ ∀ j u, cs[j]? = some u → w.cell? (a.add (i * m + j)) = some u := fun i hi' => by
      obtain ⟨cs', hc, ht'⟩ := hi i (by omega)
      rw [hC] at hc
      obtain ⟨x, hx, hg⟩ := elem _ _ _ ht'
      obtain ⟨_, hcl, hat⟩ := World.cells?_some hc
      refine ⟨x, hg, cs', hcl, hx, fun j u hj => ?_⟩
      have hjl : j < m := by rw [← hcl]; exact (List.getElem?_eq_some_iff.1 hj).1
      rw [← Go.Deep.add_add, hat j hjl, hj]
    refine ⟨by omega, (List.range len).map fun i => if h : i < len then (key i h).choose else x0, by simp, ⟨some a, mm, by simp, by simpa using hl, fun hpos => ?_⟩, ?_⟩
    · obtain ⟨b, o, spot⟩ := a
      have hl0 : 0 < len := by simpa using hpos
      have h00 : ∃ u, w.cell? ((⟨b, o, spot⟩ : Addr).add 0) = some u := by
        obtain ⟨_, _, cs, hcl, _, hat⟩ := key 0 hl0
        refine ⟨cs[0]'(by omega), ?_⟩
        have := hat 0 _ (List.getElem?_eq_getElem (by omega))
        simpa using this
      have hspot : spot = none := by
        obtain ⟨u, hu⟩ := h00
        simpa [Addr.add] using World.cell?_spot hu
      subst hspot
      refine ⟨b, o, rfl, ?_, fun j p hj => ?_⟩
      · obtain ⟨u, hu⟩ := h00
        rw [Addr.add_lit] at hu
        exact block_lt_of_cell hu
      · rw [List.getElem?_map] at hj
        have hjl : j < len := by
          rcases Nat.lt_or_ge j len with h | h
          · exact h
          · rw [List.getElem?_eq_none (by simpa using h)] at hj; simp at hj
        rw [List.getElem?_range hjl] at hj
        simp only [Option.map_some, Option.some.injEq, hjl, dif_pos] at hj
        obtain ⟨_, cs, k0, k1, k2⟩ := (key j hjl).choose_spec
        rw [hj] at k1
        refine ⟨cs, k0, k1, fun i u hu => ?_⟩
        have := k2 i u hu
        rw [Addr.add_lit] at this
        rw [Nat.add_assoc]
        exact this
    · intro x hx
      obtain ⟨i, hi', rfl⟩ := List.mem_map.1 hx
      have hil := List.mem_range.1 hi'
      rw [dif_pos hil]
      exact (key i hil).choose_spec.1
theorem cells_fields {e : TypeId} {fs : Array Field} {n : Nat} {cs : List Value} {y : DataW H × List MemPlace} (he : P.underlying e = some (.struct fs)) (hone : oneCellFields P fs = true) (hC : P.cellsOf e = fs.size)
    (h : DataW.trod enc P w base (fun _ => true) held n e cs = some y) :
    cs.length = fs.size ∧ ∀ (j : Nat) (f : Field), fs[j]? = some f → ∃ (v : Value) (z : DataW H × List MemPlace) (k : Nat), cs[j]? = some v ∧ DataW.trod enc P w base (fun _ => true) held k f.type [v] = some z := by
  obtain ⟨ys, n', hn', hy, hlen, hyl, hf⟩ := DataW.trod_struct he h
  refine ⟨by rw [hlen, hC], fun j f hj => ?_⟩
  obtain ⟨ho, hk⟩ := hone_of hone j f hj
  have hjl : j < fs.size := (Array.getElem?_eq_some_iff.1 hj).1
  have h1 := hf j f hj
  rw [ho, hk] at h1
  have hone' : (cs.drop j).take 1 = [cs[j]'(by omega)] := by
    rw [List.drop_eq_getElem_cons (by omega)]
    rfl
  rw [hone'] at h1
  have hys : ys[j]? = some (ys[j]'(by omega)) := List.getElem?_eq_getElem (by omega)
  exact ⟨_, _, _, List.getElem?_eq_getElem (by omega), h1.trans hys⟩
theorem cells_int {t : TypeId} {n : Nat} {v : Value} {y : DataW H × List MemPlace} (t0 : P.underlying t = some (.int .i64)) (h : DataW.trod enc P w base (fun _ => true) held n t [v] = some y) : ∃ a : Int, v = .int .i64 a ∧ (Lit.int .i64 a).wf = true := by
  obtain ⟨a, e0, _, w0⟩ := DataW.trod_int t0 h
  simp at e0
  exact ⟨a, e0, w0⟩
theorem cells_pair {e : TypeId} {f0 f1 : Field} {n : Nat} {cs : List Value} {y : DataW H × List MemPlace} (he : P.underlying e = some (.struct #[f0, f1])) (hone : oneCellFields P #[f0, f1] = true) (hC : P.cellsOf e = 2)
    (t0 : P.underlying f0.type = some (.int .i64)) (t1 : P.underlying f1.type = some (.int .i64)) (h : DataW.trod enc P w base (fun _ => true) held n e cs = some y) :
    ∃ p : Int × Int, cs = [.int .i64 p.1, .int .i64 p.2] ∧ (Lit.int .i64 p.1).wf = true ∧ (Lit.int .i64 p.2).wf = true := by
  obtain ⟨hl, hf⟩ := cells_fields he hone hC h
  obtain ⟨v0, _, _, c0, h0⟩ := hf 0 f0 rfl
  obtain ⟨v1, _, _, c1, h1⟩ := hf 1 f1 rfl
  obtain ⟨a, rfl, wa⟩ := cells_int t0 h0
  obtain ⟨b, rfl, wb⟩ := cells_int t1 h1
  match cs, hl, c0, c1 with
  | [u0, u1], _, c0, c1 =>
    simp only [List.getElem?_cons_zero, List.getElem?_cons_succ, Option.some.injEq] at c0 c1
    subst c0 c1
    exact ⟨(a, b), rfl, wa, wb⟩
theorem cells_four {e : TypeId} {f0 f1 f2 f3 : Field} {n : Nat} {cs : List Value} {y : DataW H × List MemPlace} (he : P.underlying e = some (.struct #[f0, f1, f2, f3])) (hone : oneCellFields P #[f0, f1, f2, f3] = true) (hC : P.cellsOf e = 4)
    (t0 : P.underlying f0.type = some (.int .i64)) (t1 : P.underlying f1.type = some (.int .i64)) (t2 : P.underlying f2.type = some (.int .i64)) (t3 : P.underlying f3.type = some (.int .i64)) (h : DataW.trod enc P w base (fun _ => true) held n e cs = some y) :
    ∃ p : Int × Int × Int × Int, cs = [.int .i64 p.1, .int .i64 p.2.1, .int .i64 p.2.2.1, .int .i64 p.2.2.2] ∧ (Lit.int .i64 p.1).wf = true ∧ (Lit.int .i64 p.2.1).wf = true ∧ (Lit.int .i64 p.2.2.1).wf = true ∧ (Lit.int .i64 p.2.2.2).wf = true := by
  obtain ⟨hl, hf⟩ := cells_fields he hone hC h
  obtain ⟨v0, _, _, c0, h0⟩ := hf 0 f0 rfl
  obtain ⟨v1, _, _, c1, h1⟩ := hf 1 f1 rfl
  obtain ⟨v2, _, _, c2, h2⟩ := hf 2 f2 rfl
  obtain ⟨v3, _, _, c3, h3⟩ := hf 3 f3 rfl
  obtain ⟨a, rfl, wa⟩ := cells_int t0 h0
  obtain ⟨b, rfl, wb⟩ := cells_int t1 h1
  obtain ⟨c, rfl, wc⟩ := cells_int t2 h2
  obtain ⟨d, rfl, wd⟩ := cells_int t3 h3
  match cs, hl, c0, c1, c2, c3 with
  | [u0, u1, u2, u3], _, c0, c1, c2, c3 =>
    simp only [List.getElem?_cons_zero, List.getElem?_cons_succ, Option.some.injEq] at c0 c1 c2 c3
    subst c0 c1 c2 c3
    exact ⟨(a, b, c, d), rfl, wa, wb, wc, wd⟩
theorem cells_slice {t e : TypeId} {n : Nat} {v : Value} {y : DataW H × List MemPlace} (ht : P.underlying t = some (.slice e)) (h : DataW.trod enc P w base (fun _ => true) held n t [v] = some y) : ∃ A len cap, v = .slice A len cap := by
  rcases open_slice ht h with ⟨h0, _⟩ | ⟨a, l, c, mm, n, D, Pl, hcs, _⟩
  · simp at h0; exact ⟨_, _, _, h0⟩
  · simp at hcs; exact ⟨_, _, _, hcs⟩
end
open Go.ChangeShapes Go.WideShapes Go.Deep Go.RowKit Go.Maps
section
variable {H : Type} {enc : TypeId × Value → H} {P : Program} {w : World} {base : Nat} {held : Bool}
def wf64 (a : Int) : Prop := (Lit.int .i64 a).wf = true
def SnIn (s : Sn) : Prop := wf64 s.time ∧ s.ps.length ≤ maxLen ∧ s.gs.length ≤ maxLen ∧ (∀ p ∈ s.ps, wf64 p.1 ∧ wf64 p.2) ∧ ∀ g ∈ s.gs, wf64 g.1 ∧ wf64 g.2.1 ∧ wf64 g.2.2.1 ∧ wf64 g.2.2.2
theorem open_snap {r : Reach} {b0 : Nat} {t ep eg : TypeId} {f0 f1 f2 p0 p1 g0 g1 g2 g3 : Field} {v : Value} {d : DataW H} {p : List MemPlace} (hs : P.underlying t = some (.struct #[f0, f1, f2])) (hone : oneCellFields P #[f0, f1, f2] = true) (hC : P.cellsOf t = 3)
    (t0 : P.underlying f0.type = some (.int .i64)) (t1 : P.underlying f1.type = some (.slice ep)) (t2 : P.underlying f2.type = some (.slice eg))
    (hp : P.underlying ep = some (.struct #[p0, p1])) (hpo : oneCellFields P #[p0, p1] = true) (hpC : P.cellsOf ep = 2) (tp : P.underlying p0.type = some (.int .i64) ∧ P.underlying p1.type = some (.int .i64))
    (hg : P.underlying eg = some (.struct #[g0, g1, g2, g3])) (hgo : oneCellFields P #[g0, g1, g2, g3] = true) (hgC : P.cellsOf eg = 4) (tg : P.underlying g0.type = some (.int .i64) ∧ P.underlying g1.type = some (.int .i64) ∧ P.underlying g2.type = some (.int .i64) ∧ P.underlying g3.type = some (.int .i64))
    (hv : Value.okWide P w r b0 t v) (h : DataW.Trod enc P w base (fun _ => true) held t v d p) : ∃ s : Sn, SnAt w v s ∧ SnIn s := by
  obtain ⟨v0, v1, v2, y0, y1, y2, n, rfl, _, _, h0, h1, h2⟩ := Go.Joins.open_agg3 hs hone hC hv h
  obtain ⟨a, rfl, wa⟩ := cells_int t0 h0
  obtain ⟨A, l, c, rfl⟩ := cells_slice t1 h1
  obtain ⟨B, m, d, rfl⟩ := cells_slice t2 h2
  obtain ⟨m1, ps, rfl, hps, wps⟩ := open_recs (R := fun _ cs x => cs = snPCells x) (G := fun p => wf64 p.1 ∧ wf64 p.2) (0, 0) t1 hpC (by decide) (fun n cs y hy => cells_pair hp hpo hpC tp.1 tp.2 hy) h1
  obtain ⟨m2, gs, rfl, hgs, wgs⟩ := open_recs (R := fun _ cs x => cs = snGCells x) (G := fun g => wf64 g.1 ∧ wf64 g.2.1 ∧ wf64 g.2.2.1 ∧ wf64 g.2.2.2) (0, 0, 0, 0) t2 hgC (by decide) (fun n cs y hy => cells_four hg hgo hgC tg.1 tg.2.1 tg.2.2.1 tg.2.2.2 hy) h2
  exact ⟨⟨a, ps, gs⟩, ⟨A, c, B, d, rfl, hps.rows, hgs.rows⟩, wa, m1, m2, wps, wgs⟩
end
open Go.ChangeShapes Go.WideShapes Go.Deep Go.RowKit Go.Maps
section
variable {H : Type} {enc : TypeId × Value → H} {w : World} {base : Nat} {held : Bool}
def LgIn (l : Lg) (wy st : Value) : Prop := wy.oneCell' = true ∧ st.oneCell' = true ∧ wf64 l.time ∧ wf64 l.m ∧ wf64 l.kind ∧ wf64 l.g ∧ wf64 l.p ∧ wf64 l.seq
theorem array8 {α : Type} {cs : Array α} (h : cs.size = 8) : ∃ c0 c1 c2 c3 c4 c5 c6 c7, cs = #[c0, c1, c2, c3, c4, c5, c6, c7] := by
  obtain ⟨l⟩ := cs
  match l, h with
  | [c0, c1, c2, c3, c4, c5, c6, c7], _ => exact ⟨c0, c1, c2, c3, c4, c5, c6, c7, rfl⟩
set_option maxRecDepth 100000 in
theorem open_log {r : Reach} {b : Nat} {v : Value} {d : DataW H} {p : List MemPlace} (hv : Value.okWide Try.prog w r b 28 v) (h : DataW.Trod enc Try.prog w base (fun _ => true) held 28 v d p) :
    ∃ l wy st, v = lgV l wy st ∧ LgIn l wy st := by
  obtain ⟨cs, rfl, hsz⟩ := okWide_struct Try.underlying28 hv
  obtain ⟨c0, c1, c2, c3, c4, c5, c6, c7, rfl⟩ := array8 (hsz.trans (by kernel_rfl))
  obtain ⟨fuel, hf⟩ := h
  have hf' : DataW.trod enc Try.prog w base (fun _ => true) held fuel 28 [c0, c1, c2, c3, c4, c5, c6, c7] = some (d, p) := by simpa [Value.cells] using hf
  obtain ⟨-, hfd⟩ := cells_fields Try.underlying28 (by kernel_rfl) (by kernel_rfl) hf'
  obtain ⟨v0, _, _, k0, h0⟩ := hfd 0 _ rfl
  obtain ⟨v1, _, _, k1, h1⟩ := hfd 1 _ rfl
  obtain ⟨v2, _, _, k2, h2⟩ := hfd 2 _ rfl
  obtain ⟨v3, _, _, k3, h3⟩ := hfd 3 _ rfl
  obtain ⟨v4, _, _, k4, h4⟩ := hfd 4 _ rfl
  obtain ⟨v5, _, _, k5, h5⟩ := hfd 5 _ rfl
  obtain ⟨v6, _, _, k6, h6⟩ := hfd 6 _ rfl
  obtain ⟨v7, _, _, k7, h7⟩ := hfd 7 _ rfl
  obtain ⟨sy, e6, _, _⟩ := DataW.trod_string Try.underlying9 h6
  obtain rfl : v6 = .string sy := by simpa using e6
  obtain ⟨A7, n7, c7', rfl⟩ := cells_slice Try.underlying26 h7
  obtain ⟨a0, rfl, w0⟩ := cells_int Try.underlying3 h0
  obtain ⟨a1, rfl, w1⟩ := cells_int Try.underlying3 h1
  obtain ⟨a2, rfl, w2⟩ := cells_int Try.underlying3 h2
  obtain ⟨a3, rfl, w3⟩ := cells_int Try.underlying3 h3
  obtain ⟨a4, rfl, w4⟩ := cells_int Try.underlying3 h4
  obtain ⟨a5, rfl, w5⟩ := cells_int Try.underlying3 h5
  simp only [List.getElem?_cons_zero, List.getElem?_cons_succ, Option.some.injEq] at k0 k1 k2 k3 k4 k5 k6 k7
  subst k0 k1 k2 k3 k4 k5 k6 k7
  exact ⟨⟨a0, a1, a2, a3, a4, a5⟩, _, _, rfl, rfl, rfl, w0, w1, w2, w3, w4, w5⟩
end
set_option maxRecDepth 100000 in
set_option maxHeartbeats 1000000 in
theorem rmsmall_any (v : Value) (s : Sn) (w : World) (hs : SnAt w v s) (r : Bool) (hr : (decide (s.ps.length ≤ 70) && decide (s.gs.length ≤ 100)) = r) :
    Calls Try.prog 8 #[v] w fun e w' => e = .returned (.bool r) ∧ Ext w w' := by
  obtain ⟨A, c, B, d, rfl, h2, h3⟩ := hs
  obtain ⟨time, ps, gs⟩ := s
  simp only at *
  clear h2 h3
  by_cases h1 : ps.length ≤ 70
  · by_cases h2 : gs.length ≤ 100
    · obtain rfl : r = true := by rw [← hr]; simp [h1, h2]
      have i1 : (ps.length : Int) ≤ 70 := by omega
      have i2 : (gs.length : Int) ≤ 100 := by omega
      clear h1 h2 hr
      have HB := Lib.hid (blk_new w (.cells #[.int .i64 time, .slice A ps.length c, .slice B gs.length d] 25))
      go_enter Try.func8, Try.ntmps8
      go_wp2
      go_ret
      exact ⟨by first | rfl | (simp; done) | (simp; omega), (Ext.refl w).alloc _⟩
    · obtain rfl : r = false := by rw [← hr]; simp [h1]; omega
      have i1 : (ps.length : Int) ≤ 70 := by omega
      have i2 : 100 < (gs.length : Int) := by omega
      clear h1 h2 hr
      have HB := Lib.hid (blk_new w (.cells #[.int .i64 time, .slice A ps.length c, .slice B gs.length d] 25))
      go_enter Try.func8, Try.ntmps8
      go_wp2
      go_ret
      exact ⟨by first | rfl | (simp; done) | (simp; omega), (Ext.refl w).alloc _⟩
  · obtain rfl : r = false := by rw [← hr]; simp [h1]
    have i1 : 70 < (ps.length : Int) := by omega
    clear h1 hr
    have HB := Lib.hid (blk_new w (.cells #[.int .i64 time, .slice A ps.length c, .slice B gs.length d] 25))
    go_enter Try.func8, Try.ntmps8
    go_wp2
    go_ret
    exact ⟨by first | rfl | (simp; done) | (simp; omega), (Ext.refl w).alloc _⟩
theorem SnApp.form2 {w w' : World} {o : Option Sn} {e : Ending} (h : SnApp w o e w') {y : Sn} (hy : o.getD Md.zero = y) {b : Bool} (hb : o.isSome = b) : ∃ A c B d, e = .returned (.tuple #[.agg #[.int .i64 y.time, .slice A y.ps.length c, .slice B y.gs.length d], .bool b]) ∧ SnAt w' (.agg #[.int .i64 y.time, .slice A y.ps.length c, .slice B y.gs.length d]) y ∧ Ext w w' := by
  subst hy hb
  obtain ⟨u, he, ⟨A, c, B, d, rfl, h2, h3⟩, hx⟩ := h
  exact ⟨A, c, B, d, he, ⟨A, c, B, d, rfl, h2, h3⟩, hx⟩
theorem Md.app_few {x : Sn} {l : Lg} {y : Sn} (hy : (Md.app x l).getD Md.zero = y) : y.ps.length ≤ 1000 ∧ y.gs.length ≤ 1000 := by
  subst hy
  cases h : Md.app x l with
  | none => exact ⟨Nat.zero_le _, Nat.zero_le _⟩
  | some y =>
    have := (Sn.may_iff _).1 (Md.app_time h).2.2.2.1
    exact ⟨Nat.le_trans this.2.1 (by decide), this.2.2.1⟩
set_option maxRecDepth 100000 in
set_option maxHeartbeats 16000000 in
theorem walk_ModelApplies (v : Value) (x : Sn) (l : Lg) (wy st : Value) (w : World) (hs : SnAt w v x) (hi : SnIn x) (hl : LgIn l wy st) :
    Calls Try.prog 3 #[v, lgV l wy st] w fun e w' => e = .returned (.bool true) ∧ Ext w w' := by
  obtain ⟨A, c, B, d, rfl, h2, h3⟩ := hs
  obtain ⟨time, ps, gs⟩ := x
  obtain ⟨lt, lm, kd, lg, lp, ls⟩ := l
  simp only at h2 h3 ⊢
  have HI := Lib.hid hi
  have HL := Lib.hid hl
  obtain ⟨w1, hw1, hx1, hb1, hl1⟩ := of_two w #[.int .i64 time, .slice A ps.length c, .slice B gs.length d] 25 #[.int .i64 lt, .int .i64 lm, .int .i64 kd, .int .i64 lg, .int .i64 lp, .int .i64 ls, wy, st] 28
  obtain ⟨S0, hS0⟩ : ∃ S0, w.heap.size = S0 := ⟨_, rfl⟩
  rw [hS0] at hb1 hl1
  have HS0 := Lib.hid hS0
  have HW1 := Lib.hid hw1
  have X0 := Lib.hid hx1
  have HBX := Lib.hid hb1
  have HBL := Lib.hid hl1
  have H2 := Lib.hid (h2.ext hx1)
  have H3 := Lib.hid (h3.ext hx1)
  have HSX : Hid (∀ v, Ext w1 v → SnAt v (.agg #[.int .i64 time, .slice A ps.length c, .slice B gs.length d]) ⟨time, ps, gs⟩) := Lib.hid fun v hv => ⟨A, c, B, d, rfl, H2.out.ext hv, H3.out.ext hv⟩
  have HRX : Hid (∀ v, Ext w1 v → v.rangeAt S0 0 [.int .i64 time, .slice A ps.length c, .slice B gs.length d]) := Lib.hid fun v hv => range_row (hv.blk HBX.out)
  have HRL : Hid (∀ v, Ext w1 v → v.rangeAt (S0 + 1) 0 [.int .i64 lt, .int .i64 lm, .int .i64 kd, .int .i64 lg, .int .i64 lp, .int .i64 ls, wy, st]) := Lib.hid fun v hv => range_row (hv.blk HBL.out)
  have XC := Lib.hid (Ext.refl w1)
  clear hS0 hw1 hx1 hb1 hl1 h2 h3 hi hl H2 H3
  unfold lgV
  go_enter Try.func3, Try.ntmps3
  go_upto_region 1 with fail
  rw [HW1.out, HS0.out]
  go_wp2_with (first | (refine wpList_load_rowW rfl 25 _ rfl S0 rfl [.int .i64 time, .slice A ps.length c, .slice B gs.length d] (.agg #[.int .i64 time, .slice A ps.length c, .slice B gs.length d]) rfl _ (HRX.out _ XC.out) Try.underlying25 rfl (by kernel_rfl) ?_) | (refine wpList_load_rowW rfl 28 _ rfl (S0 + 1) rfl [.int .i64 lt, .int .i64 lm, .int .i64 kd, .int .i64 lg, .int .i64 lp, .int .i64 ls, wy, st] (.agg #[.int .i64 lt, .int .i64 lm, .int .i64 kd, .int .i64 lg, .int .i64 lp, .int .i64 ls, wy, st]) rfl _ (HRL.out _ XC.out) Try.underlying28 rfl (by kernel_rfl) ?_))
  obtain ⟨sm, hsm⟩ : ∃ sm, (decide (ps.length ≤ 70) && decide (gs.length ≤ 100)) = sm := ⟨_, rfl⟩
  have HSM := Lib.hid hsm
  clear hsm
  refine (rmsmall_any _ ⟨time, ps, gs⟩ _ (HSX.out _ XC.out) sm HSM.out).mono ?_
  rintro e wk ⟨rfl, hx⟩
  have XD := Lib.hid (XC.out.trans hx)
  clear XC hx
  have XC := XD
  clear XD
  cases sm with
  | false =>
    go_wp2_with fail
    refine (mdfixed_yes _).mono ?_
    rintro e wk ⟨rfl, hx⟩
    have XD := Lib.hid (XC.out.trans hx)
    clear XC hx
    have XC := XD
    clear XD
    go_wp2
    go_ret
    exact ⟨rfl, X0.out.trans XC.out⟩
  | true =>
  have HLEN : Hid (ps.length ≤ 1000 ∧ gs.length ≤ 1000) := Lib.hid (by have := HSM.out; simp at this; omega)
  obtain ⟨y, hy⟩ : ∃ y, (Md.app ⟨time, ps, gs⟩ ⟨lt, lm, kd, lg, lp, ls⟩).getD Md.zero = y := ⟨_, rfl⟩
  obtain ⟨b, hb⟩ : ∃ b, (Md.app ⟨time, ps, gs⟩ ⟨lt, lm, kd, lg, lp, ls⟩).isSome = b := ⟨_, rfl⟩
  obtain ⟨⟨ra, rb⟩, hab⟩ : ∃ r, Md.has ⟨time, ps, gs⟩ lm = r := ⟨_, rfl⟩
  have HY := Lib.hid hy
  have HBO := Lib.hid hb
  have HAS := Lib.hid hab
  have HYF := Lib.hid (Md.app_few hy)
  clear hy hb hab
  go_wp2_with (first | (refine wpList_load_rowW rfl 25 _ rfl S0 rfl [.int .i64 time, .slice A ps.length c, .slice B gs.length d] (.agg #[.int .i64 time, .slice A ps.length c, .slice B gs.length d]) rfl _ (HRX.out _ XC.out) Try.underlying25 rfl (by kernel_rfl) ?_) | (refine wpList_load_rowW rfl 28 _ rfl (S0 + 1) rfl [.int .i64 lt, .int .i64 lm, .int .i64 kd, .int .i64 lg, .int .i64 lp, .int .i64 ls, wy, st] (.agg #[.int .i64 lt, .int .i64 lm, .int .i64 kd, .int .i64 lg, .int .i64 lp, .int .i64 ls, wy, st]) rfl _ (HRL.out _ XC.out) Try.underlying28 rfl (by kernel_rfl) ?_))
  refine (mApply_all _ ⟨time, ps, gs⟩ ⟨lt, lm, kd, lg, lp, ls⟩ wy st _ (HSX.out _ XC.out) _ rfl).mono ?_
  rintro e wb1 hh
  obtain ⟨A1, c1, B1, d1, rfl, hsy, hx0⟩ := hh.form2 HY.out HBO.out
  obtain ⟨wz1, wc1, hwz, hth, hwc, hb, hxc⟩ := sn_box wb1 y A1 B1 c1 d1
  have hx := hx0.trans hxc
  obtain ⟨n1, hn⟩ : ∃ n, wb1.heap.size = n := ⟨_, rfl⟩
  rw [hn] at hth hwc hb
  have HS1 := Lib.hid (hsy.ext hxc)
  have HN1 := Lib.hid hn
  have HWZ1 := Lib.hid hwz
  have HTH1 := Lib.hid hth
  have HWC1 := Lib.hid hwc
  have HB1 := Lib.hid hb
  clear hh hwz hth hwc hb hxc hn hsy hx0
  have XD := Lib.hid (XC.out.trans hx)
  clear XC hx
  have XC := XD
  clear XD
  go_wp2_with (first | rw [HWZ1.out, HN1.out] | (refine wpList_store_rowN rfl 25 _ _ rfl n1 0 [.int .i64 y.time, .slice A1 y.ps.length c1, .slice B1 y.gs.length d1] (.agg ([.int .i64 y.time, .slice A1 y.ps.length c1, .slice B1 y.gs.length d1]).toArray) (by go_simp) (by go_simp) rfl HTH1.out (by kernel_rfl) (sn3_one _ _ _ rfl rfl) HWC1.out ?_) | (refine wpList_load_rowW rfl 25 _ rfl S0 rfl [.int .i64 time, .slice A ps.length c, .slice B gs.length d] (.agg #[.int .i64 time, .slice A ps.length c, .slice B gs.length d]) rfl _ (HRX.out _ XC.out) Try.underlying25 rfl (by kernel_rfl) ?_) | (refine wpList_load_rowW rfl 28 _ rfl (S0 + 1) rfl [.int .i64 lt, .int .i64 lm, .int .i64 kd, .int .i64 lg, .int .i64 lp, .int .i64 ls, wy, st] (.agg #[.int .i64 lt, .int .i64 lm, .int .i64 kd, .int .i64 lg, .int .i64 lp, .int .i64 ls, wy, st]) rfl _ (HRL.out _ XC.out) Try.underlying28 rfl (by kernel_rfl) ?_))
  refine (rapply_all _ ⟨time, ps, gs⟩ ⟨lt, lm, kd, lg, lp, ls⟩ wy st _ (HSX.out _ XC.out) _ rfl).mono ?_
  rintro e wb2 hh
  obtain ⟨A2, c2, B2, d2, rfl, hsy, hx0⟩ := hh.form2 HY.out HBO.out
  obtain ⟨wz2, wc2, hwz, hth, hwc, hb, hxc⟩ := sn_box wb2 y A2 B2 c2 d2
  have hx := hx0.trans hxc
  obtain ⟨n2, hn⟩ : ∃ n, wb2.heap.size = n := ⟨_, rfl⟩
  rw [hn] at hth hwc hb
  have HBN := Lib.hid (hx.blk HB1.out)
  clear HB1
  have HB1 := HBN
  clear HBN
  have HSN := Lib.hid (HS1.out.ext hx)
  clear HS1
  have HS1 := HSN
  clear HSN
  have HS2 := Lib.hid (hsy.ext hxc)
  have HN2 := Lib.hid hn
  have HWZ2 := Lib.hid hwz
  have HTH2 := Lib.hid hth
  have HWC2 := Lib.hid hwc
  have HB2 := Lib.hid hb
  clear hh hwz hth hwc hb hxc hn hsy hx0
  have XD := Lib.hid (XC.out.trans hx)
  clear XC hx
  have XC := XD
  clear XD
  have m1 := blk_cell (XC.out.blk HBL.out) 1 _ rfl
  go_wp2_with (first | rw [HWZ2.out, HN2.out] | (refine wpList_store_rowN rfl 25 _ _ rfl n2 0 [.int .i64 y.time, .slice A2 y.ps.length c2, .slice B2 y.gs.length d2] (.agg ([.int .i64 y.time, .slice A2 y.ps.length c2, .slice B2 y.gs.length d2]).toArray) (by go_simp) (by go_simp) rfl HTH2.out (by kernel_rfl) (sn3_one _ _ _ rfl rfl) HWC2.out ?_) | (refine wpList_load_rowW rfl 25 _ rfl S0 rfl [.int .i64 time, .slice A ps.length c, .slice B gs.length d] (.agg #[.int .i64 time, .slice A ps.length c, .slice B gs.length d]) rfl _ (HRX.out _ XC.out) Try.underlying25 rfl (by kernel_rfl) ?_) | (refine wpList_load_rowW rfl 28 _ rfl (S0 + 1) rfl [.int .i64 lt, .int .i64 lm, .int .i64 kd, .int .i64 lg, .int .i64 lp, .int .i64 ls, wy, st] (.agg #[.int .i64 lt, .int .i64 lm, .int .i64 kd, .int .i64 lg, .int .i64 lp, .int .i64 ls, wy, st]) rfl _ (HRL.out _ XC.out) Try.underlying28 rfl (by kernel_rfl) ?_))
  refine (mHas_any _ ⟨time, ps, gs⟩ lm _ (HSX.out _ XC.out) HLEN.out.1 HLEN.out.2 ra rb HAS.out).mono ?_
  rintro e wk ⟨rfl, hx⟩
  have HBN := Lib.hid (hx.blk HB1.out)
  clear HB1
  have HB1 := HBN
  clear HBN
  have HSN := Lib.hid (HS1.out.ext hx)
  clear HS1
  have HS1 := HSN
  clear HSN
  have HBN := Lib.hid (hx.blk HB2.out)
  clear HB2
  have HB2 := HBN
  clear HBN
  have HSN := Lib.hid (HS2.out.ext hx)
  clear HS2
  have HS2 := HSN
  clear HSN
  have XD := Lib.hid (XC.out.trans hx)
  clear XC hx
  have XC := XD
  clear XD
  clear m1
  have m1 := blk_cell (XC.out.blk HBL.out) 1 _ rfl
  go_wp2_with (first | (refine wpList_load_rowW rfl 25 _ rfl S0 rfl [.int .i64 time, .slice A ps.length c, .slice B gs.length d] (.agg #[.int .i64 time, .slice A ps.length c, .slice B gs.length d]) rfl _ (HRX.out _ XC.out) Try.underlying25 rfl (by kernel_rfl) ?_) | (refine wpList_load_rowW rfl 28 _ rfl (S0 + 1) rfl [.int .i64 lt, .int .i64 lm, .int .i64 kd, .int .i64 lg, .int .i64 lp, .int .i64 ls, wy, st] (.agg #[.int .i64 lt, .int .i64 lm, .int .i64 kd, .int .i64 lg, .int .i64 lp, .int .i64 ls, wy, st]) rfl _ (HRL.out _ XC.out) Try.underlying28 rfl (by kernel_rfl) ?_))
  refine (rHas_any _ ⟨time, ps, gs⟩ lm _ (HSX.out _ XC.out) HLEN.out.1 HLEN.out.2 ra rb HAS.out).mono ?_
  rintro e wk ⟨rfl, hx⟩
  have HBN := Lib.hid (hx.blk HB1.out)
  clear HB1
  have HB1 := HBN
  clear HBN
  have HSN := Lib.hid (HS1.out.ext hx)
  clear HS1
  have HS1 := HSN
  clear HSN
  have HBN := Lib.hid (hx.blk HB2.out)
  clear HB2
  have HB2 := HBN
  clear HBN
  have HSN := Lib.hid (HS2.out.ext hx)
  clear HS2
  have HS2 := HSN
  clear HSN
  have XD := Lib.hid (XC.out.trans hx)
  clear XC hx
  have XC := XD
  clear XD
  clear m1
  go_wp2_with fail
  refine (mdfixed_yes _).mono ?_
  rintro e wk ⟨rfl, hx⟩
  have HBN := Lib.hid (hx.blk HB1.out)
  clear HB1
  have HB1 := HBN
  clear HBN
  have HSN := Lib.hid (HS1.out.ext hx)
  clear HS1
  have HS1 := HSN
  clear HSN
  have HBN := Lib.hid (hx.blk HB2.out)
  clear HB2
  have HB2 := HBN
  clear HBN
  have HSN := Lib.hid (HS2.out.ext hx)
  clear HS2
  have HS2 := HSN
  clear HSN
  have XD := Lib.hid (XC.out.trans hx)
  clear XC hx
  have XC := XD
  clear XD
  go_wp2_with (first | (refine wpList_load_rowW rfl 25 _ rfl n1 rfl [.int .i64 y.time, .slice A1 y.ps.length c1, .slice B1 y.gs.length d1] (.agg #[.int .i64 y.time, .slice A1 y.ps.length c1, .slice B1 y.gs.length d1]) rfl _ (range_row HB1.out) Try.underlying25 rfl (by kernel_rfl) ?_) | (refine wpList_load_rowW rfl 25 _ rfl n2 rfl [.int .i64 y.time, .slice A2 y.ps.length c2, .slice B2 y.gs.length d2] (.agg #[.int .i64 y.time, .slice A2 y.ps.length c2, .slice B2 y.gs.length d2]) rfl _ (range_row HB2.out) Try.underlying25 rfl (by kernel_rfl) ?_))
  refine (rsnsame_any _ _ y y _ HS1.out HS2.out (by have := HYF.out; omega) (by have := HYF.out; omega) true (by simp)).mono ?_
  rintro e wk ⟨rfl, hx⟩
  have XD := Lib.hid (XC.out.trans hx)
  clear XC hx
  have XC := XD
  clear XD
  go_wp2
  go_ret
  exact ⟨rfl, X0.out.trans XC.out⟩
set_option maxRecDepth 100000 in
set_option maxHeartbeats 16000000 in
theorem walk_ModelOnce (v : Value) (x : Sn) (l : Lg) (wy st : Value) (w : World) (hs : SnAt w v x) (hi : SnIn x) (hl : LgIn l wy st) :
    Calls Try.prog 6 #[v, lgV l wy st] w fun e w' => e = .returned (.bool true) ∧ Ext w w' := by
  obtain ⟨A, c, B, d, rfl, h2, h3⟩ := hs
  obtain ⟨time, ps, gs⟩ := x
  obtain ⟨lt, lm, kd, lg, lp, ls⟩ := l
  simp only at h2 h3 ⊢
  have HI := Lib.hid hi
  have HL := Lib.hid hl
  obtain ⟨w1, hw1, hx1, hb1, hl1⟩ := of_two w #[.int .i64 time, .slice A ps.length c, .slice B gs.length d] 25 #[.int .i64 lt, .int .i64 lm, .int .i64 kd, .int .i64 lg, .int .i64 lp, .int .i64 ls, wy, st] 28
  obtain ⟨S0, hS0⟩ : ∃ S0, w.heap.size = S0 := ⟨_, rfl⟩
  rw [hS0] at hb1 hl1
  have HS0 := Lib.hid hS0
  have HW1 := Lib.hid hw1
  have X0 := Lib.hid hx1
  have HBX := Lib.hid hb1
  have HBL := Lib.hid hl1
  have H2 := Lib.hid (h2.ext hx1)
  have H3 := Lib.hid (h3.ext hx1)
  have HSX : Hid (∀ v, Ext w1 v → SnAt v (.agg #[.int .i64 time, .slice A ps.length c, .slice B gs.length d]) ⟨time, ps, gs⟩) := Lib.hid fun v hv => ⟨A, c, B, d, rfl, H2.out.ext hv, H3.out.ext hv⟩
  have HRX : Hid (∀ v, Ext w1 v → v.rangeAt S0 0 [.int .i64 time, .slice A ps.length c, .slice B gs.length d]) := Lib.hid fun v hv => range_row (hv.blk HBX.out)
  have HRL : Hid (∀ v, Ext w1 v → v.rangeAt (S0 + 1) 0 [.int .i64 lt, .int .i64 lm, .int .i64 kd, .int .i64 lg, .int .i64 lp, .int .i64 ls, wy, st]) := Lib.hid fun v hv => range_row (hv.blk HBL.out)
  have XC := Lib.hid (Ext.refl w1)
  clear hS0 hw1 hx1 hb1 hl1 h2 h3 hi hl H2 H3
  unfold lgV
  go_enter Try.func6, Try.ntmps6
  go_upto_region 1 with fail
  rw [HW1.out, HS0.out]
  obtain ⟨y, hy⟩ : ∃ y, (Md.app ⟨time, ps, gs⟩ ⟨lt, lm, kd, lg, lp, ls⟩).getD Md.zero = y := ⟨_, rfl⟩
  obtain ⟨b, hb⟩ : ∃ b, (Md.app ⟨time, ps, gs⟩ ⟨lt, lm, kd, lg, lp, ls⟩).isSome = b := ⟨_, rfl⟩
  have HY := Lib.hid hy
  have HBO := Lib.hid hb
  clear hy hb
  go_wp2_with (first | (refine wpList_load_rowW rfl 25 _ rfl S0 rfl [.int .i64 time, .slice A ps.length c, .slice B gs.length d] (.agg #[.int .i64 time, .slice A ps.length c, .slice B gs.length d]) rfl _ (HRX.out _ XC.out) Try.underlying25 rfl (by kernel_rfl) ?_) | (refine wpList_load_rowW rfl 28 _ rfl (S0 + 1) rfl [.int .i64 lt, .int .i64 lm, .int .i64 kd, .int .i64 lg, .int .i64 lp, .int .i64 ls, wy, st] (.agg #[.int .i64 lt, .int .i64 lm, .int .i64 kd, .int .i64 lg, .int .i64 lp, .int .i64 ls, wy, st]) rfl _ (HRL.out _ XC.out) Try.underlying28 rfl (by kernel_rfl) ?_))
  refine (rapply_all _ ⟨time, ps, gs⟩ ⟨lt, lm, kd, lg, lp, ls⟩ wy st _ (HSX.out _ XC.out) _ rfl).mono ?_
  rintro e wb1 hh
  obtain ⟨A1, c1, B1, d1, rfl, hsy, hx0⟩ := hh.form2 HY.out HBO.out
  obtain ⟨wz1, wc1, hwz, hth, hwc, hb, hxc⟩ := sn_box wb1 y A1 B1 c1 d1
  have hx := hx0.trans hxc
  obtain ⟨n1, hn⟩ : ∃ n, wb1.heap.size = n := ⟨_, rfl⟩
  rw [hn] at hth hwc hb
  have HS1 := Lib.hid (hsy.ext hxc)
  have HN1 := Lib.hid hn
  have HWZ1 := Lib.hid hwz
  have HTH1 := Lib.hid hth
  have HWC1 := Lib.hid hwc
  have HB1 := Lib.hid hb
  clear hh hwz hth hwc hb hxc hn hsy hx0
  have XD := Lib.hid (XC.out.trans hx)
  clear XC hx
  have XC := XD
  clear XD
  go_wp2_with (first | rw [HWZ1.out, HN1.out] | (refine wpList_store_rowN rfl 25 _ _ rfl n1 0 [.int .i64 y.time, .slice A1 y.ps.length c1, .slice B1 y.gs.length d1] (.agg ([.int .i64 y.time, .slice A1 y.ps.length c1, .slice B1 y.gs.length d1]).toArray) (by go_simp) (by go_simp) rfl HTH1.out (by kernel_rfl) (sn3_one _ _ _ rfl rfl) HWC1.out ?_) | (refine wpList_load_rowW rfl 25 _ rfl S0 rfl [.int .i64 time, .slice A ps.length c, .slice B gs.length d] (.agg #[.int .i64 time, .slice A ps.length c, .slice B gs.length d]) rfl _ (HRX.out _ XC.out) Try.underlying25 rfl (by kernel_rfl) ?_) | (refine wpList_load_rowW rfl 28 _ rfl (S0 + 1) rfl [.int .i64 lt, .int .i64 lm, .int .i64 kd, .int .i64 lg, .int .i64 lp, .int .i64 ls, wy, st] (.agg #[.int .i64 lt, .int .i64 lm, .int .i64 kd, .int .i64 lg, .int .i64 lp, .int .i64 ls, wy, st]) rfl _ (HRL.out _ XC.out) Try.underlying28 rfl (by kernel_rfl) ?_))
  refine (mdfixed_yes _).mono ?_
  rintro e wk ⟨rfl, hx⟩
  have HBN := Lib.hid (hx.blk HB1.out)
  clear HB1
  have HB1 := HBN
  clear HBN
  have HSN := Lib.hid (HS1.out.ext hx)
  clear HS1
  have HS1 := HSN
  clear HSN
  have XD := Lib.hid (XC.out.trans hx)
  clear XC hx
  have XC := XD
  clear XD
  go_wp2_with (first | (refine wpList_load_rowW rfl 25 _ rfl S0 rfl [.int .i64 time, .slice A ps.length c, .slice B gs.length d] (.agg #[.int .i64 time, .slice A ps.length c, .slice B gs.length d]) rfl _ (HRX.out _ XC.out) Try.underlying25 rfl (by kernel_rfl) ?_) | (refine wpList_load_rowW rfl 28 _ rfl (S0 + 1) rfl [.int .i64 lt, .int .i64 lm, .int .i64 kd, .int .i64 lg, .int .i64 lp, .int .i64 ls, wy, st] (.agg #[.int .i64 lt, .int .i64 lm, .int .i64 kd, .int .i64 lg, .int .i64 lp, .int .i64 ls, wy, st]) rfl _ (HRL.out _ XC.out) Try.underlying28 rfl (by kernel_rfl) ?_))
  obtain ⟨sm, hsm⟩ : ∃ sm, (decide (ps.length ≤ 70) && decide (gs.length ≤ 100)) = sm := ⟨_, rfl⟩
  have HSM := Lib.hid hsm
  clear hsm
  refine (rmsmall_any _ ⟨time, ps, gs⟩ _ (HSX.out _ XC.out) sm HSM.out).mono ?_
  rintro e wk ⟨rfl, hx⟩
  have HBN := Lib.hid (hx.blk HB1.out)
  clear HB1
  have HB1 := HBN
  clear HBN
  have HSN := Lib.hid (HS1.out.ext hx)
  clear HS1
  have HS1 := HSN
  clear HSN
  have XD := Lib.hid (XC.out.trans hx)
  clear XC hx
  have XC := XD
  clear XD
  cases sm with
  | false =>
    go_wp2_with fail
    refine (mdfixed_yes _).mono ?_
    rintro e wk ⟨rfl, hx⟩
    have XD := Lib.hid (XC.out.trans hx)
    clear XC hx
    have XC := XD
    clear XD
    go_wp2
    go_ret
    exact ⟨rfl, X0.out.trans XC.out⟩
  | true =>
  cases b with
  | false =>
    go_wp2_with fail
    refine (mdfixed_yes _).mono ?_
    rintro e wk ⟨rfl, hx⟩
    have XD := Lib.hid (XC.out.trans hx)
    clear XC hx
    have XC := XD
    clear XD
    go_wp2
    go_ret
    exact ⟨rfl, X0.out.trans XC.out⟩
  | true =>
  have HSO : Hid (Md.app ⟨time, ps, gs⟩ ⟨lt, lm, kd, lg, lp, ls⟩ = some y) := Lib.hid (by
    have h1 := HY.out
    have h2 := HBO.out
    cases h : Md.app ⟨time, ps, gs⟩ ⟨lt, lm, kd, lg, lp, ls⟩ with
    | none => rw [h] at h2; cases h2
    | some z => rw [h] at h1; exact congrArg some h1)
  have HAG := Lib.hid (Md.app_once HSO.out)
  go_wp2_with (first | (refine wpList_load_rowW rfl 25 _ rfl n1 rfl [.int .i64 y.time, .slice A1 y.ps.length c1, .slice B1 y.gs.length d1] (.agg #[.int .i64 y.time, .slice A1 y.ps.length c1, .slice B1 y.gs.length d1]) rfl _ (range_row HB1.out) Try.underlying25 rfl (by kernel_rfl) ?_) | (refine wpList_load_rowW rfl 25 _ rfl S0 rfl [.int .i64 time, .slice A ps.length c, .slice B gs.length d] (.agg #[.int .i64 time, .slice A ps.length c, .slice B gs.length d]) rfl _ (HRX.out _ XC.out) Try.underlying25 rfl (by kernel_rfl) ?_) | (refine wpList_load_rowW rfl 28 _ rfl (S0 + 1) rfl [.int .i64 lt, .int .i64 lm, .int .i64 kd, .int .i64 lg, .int .i64 lp, .int .i64 ls, wy, st] (.agg #[.int .i64 lt, .int .i64 lm, .int .i64 kd, .int .i64 lg, .int .i64 lp, .int .i64 ls, wy, st]) rfl _ (HRL.out _ XC.out) Try.underlying28 rfl (by kernel_rfl) ?_))
  refine (mApply_all _ y ⟨lt, lm, kd, lg, lp, ls⟩ wy st _ HS1.out _ rfl).mono ?_
  rintro e wb2 hh
  obtain ⟨A2, c2, B2, d2, rfl, hsy, hx0⟩ := hh.form2 (by rw [HAG.out]) (by rw [HAG.out])
  obtain ⟨wz2, wc2, hwz, hth, hwc, hb, hxc⟩ := sn_box wb2 Md.zero A2 B2 c2 d2
  have hx := hx0.trans hxc
  obtain ⟨n2, hn⟩ : ∃ n, wb2.heap.size = n := ⟨_, rfl⟩
  rw [hn] at hth hwc hb
  have HS2 := Lib.hid (hsy.ext hxc)
  have HN2 := Lib.hid hn
  have HWZ2 := Lib.hid hwz
  have HTH2 := Lib.hid hth
  have HWC2 := Lib.hid hwc
  have HB2 := Lib.hid hb
  clear hh hwz hth hwc hb hxc hn hsy hx0
  have XD := Lib.hid (XC.out.trans hx)
  clear XC hx
  have XC := XD
  clear XD
  go_wp2_with (first | rw [HWZ2.out, HN2.out] | (refine wpList_store_rowN rfl 25 _ _ rfl n2 0 [.int .i64 Md.zero.time, .slice A2 Md.zero.ps.length c2, .slice B2 Md.zero.gs.length d2] (.agg ([.int .i64 Md.zero.time, .slice A2 Md.zero.ps.length c2, .slice B2 Md.zero.gs.length d2]).toArray) (by go_simp) (by go_simp) rfl HTH2.out (by kernel_rfl) (sn3_one _ _ _ rfl rfl) HWC2.out ?_) | (refine wpList_load_rowW rfl 25 _ rfl S0 rfl [.int .i64 time, .slice A ps.length c, .slice B gs.length d] (.agg #[.int .i64 time, .slice A ps.length c, .slice B gs.length d]) rfl _ (HRX.out _ XC.out) Try.underlying25 rfl (by kernel_rfl) ?_) | (refine wpList_load_rowW rfl 28 _ rfl (S0 + 1) rfl [.int .i64 lt, .int .i64 lm, .int .i64 kd, .int .i64 lg, .int .i64 lp, .int .i64 ls, wy, st] (.agg #[.int .i64 lt, .int .i64 lm, .int .i64 kd, .int .i64 lg, .int .i64 lp, .int .i64 ls, wy, st]) rfl _ (HRL.out _ XC.out) Try.underlying28 rfl (by kernel_rfl) ?_))
  go_ret
  exact ⟨rfl, X0.out.trans XC.out⟩
theorem lg_one {wy st : Value} (a b c d e f : Int) (h1 : wy.oneCell' = true) (h2 : st.oneCell' = true) : ∀ x ∈ [Value.int .i64 a, .int .i64 b, .int .i64 c, .int .i64 d, .int .i64 e, .int .i64 f, wy, st], x.oneCell' = true := by
  intro x hx
  simp only [List.mem_cons, List.not_mem_nil, or_false] at hx
  rcases hx with rfl | rfl | rfl | rfl | rfl | rfl | rfl | rfl
  iterate 6 rfl
  · exact h1
  · exact h2
theorem SnAt.off {w w' : World} {v : Value} {y : Sn} {R : Nat} {t : Int} {s1 s2 : Value} {T : TypeId} {fr : Nat × Nat} (h : SnAt w v y) (hb : w.heap[R]? = some (.cells #[.int .i64 t, s1, s2] T fr)) (h1 : ∀ a, s1 ≠ .int .i64 a) (h2 : ∀ a, s2 ≠ .int .i64 a) (hu : Upd R w w') : SnAt w' v y := by
  obtain ⟨A, c, B, d, hv, k2, k3⟩ := h
  exact ⟨A, c, B, d, hv, rows_off k2 snP_two hb h1 h2 hu, rows_off k3 snG_two hb h1 h2 hu⟩
theorem SnAt.timed {w : World} {t : Int} {A B : Option Addr} {c d : Nat} {y : Sn} (h : SnAt w (.agg #[.int .i64 t, .slice A y.ps.length c, .slice B y.gs.length d]) y) (t' : Int) : SnAt w (.agg #[.int .i64 t', .slice A y.ps.length c, .slice B y.gs.length d]) ⟨t', y.ps, y.gs⟩ := by
  obtain ⟨A', c', B', d', hv, k2, k3⟩ := h
  simp only [Value.agg.injEq] at hv
  have e2 : Value.slice A y.ps.length c = .slice A' y.ps.length c' := by have := congrArg (fun a : Array Value => a[1]?) hv; simpa using this
  have e3 : Value.slice B y.gs.length d = .slice B' y.gs.length d' := by have := congrArg (fun a : Array Value => a[2]?) hv; simpa using this
  rw [e2, e3]
  exact ⟨A', c', B', d', rfl, k2, k3⟩
theorem tm_set {wq w8 : World} {T1 T2 : Nat} {lt a b : Int} {r : List Value} {T : TypeId} (hx : Ext wq w8) (h1 : w8.heap[T1]? = some (.cells (.int .i64 lt :: r).toArray T (0, 0))) (h2 : w8.heap[T2]? = some (.cells (.int .i64 lt :: r).toArray T (0, 0))) (hne : T1 ≠ T2) (g1 : wq.heap.size ≤ T1) (g2 : wq.heap.size ≤ T2) :
    w8.cell? ⟨T1, 0, none⟩ = some (.int .i64 lt) ∧ w8.frozen? ⟨T1, 0, none⟩ = false ∧ ∃ w9, w8.setCell ⟨T1, 0, none⟩ (.int .i64 a) = w9 ∧ Ext wq w9 ∧ w9.cell? ⟨T2, 0, none⟩ = some (.int .i64 lt) ∧ w9.frozen? ⟨T2, 0, none⟩ = false ∧ ∃ w10, w9.setCell ⟨T2, 0, none⟩ (.int .i64 b) = w10 ∧ Ext wq w10 ∧ w10.heap[T1]? = some (.cells (.int .i64 a :: r).toArray T (0, 0)) ∧ w10.heap[T2]? = some (.cells (.int .i64 b :: r).toArray T (0, 0)) := by
  have u1 : Upd T1 w8 (w8.setCell ⟨T1, 0, none⟩ (.int .i64 a)) := (Upd.refl _ _).set 0 _
  have k1 := blk_set h1 0 (.int .i64 a)
  have k2 : (w8.setCell ⟨T1, 0, none⟩ (.int .i64 a)).heap[T2]? = some (.cells (.int .i64 lt :: r).toArray T (0, 0)) := u1.blk h2 (Ne.symm hne)
  have u2 : Upd T2 (w8.setCell ⟨T1, 0, none⟩ (.int .i64 a)) ((w8.setCell ⟨T1, 0, none⟩ (.int .i64 a)).setCell ⟨T2, 0, none⟩ (.int .i64 b)) := (Upd.refl _ _).set 0 _
  have k3 := blk_set k2 0 (.int .i64 b)
  refine ⟨blk_cell h1 0 _ (by simp), frozen_of_row _ _ 0 _ _ h1, _, rfl, Ext.upd hx u1 g1, blk_cell k2 0 _ (by simp), frozen_of_row _ _ 0 _ _ k2, _, rfl, Ext.upd (Ext.upd hx u1 g1) u2 g2, ?_, by simpa using k3⟩
  exact u2.blk (by simpa using k1) hne
set_option maxRecDepth 100000 in
set_option maxHeartbeats 16000000 in
theorem walk_ModelTimes (v : Value) (x : Sn) (l : Lg) (wy st : Value) (more : Int) (w : World) (hs : SnAt w v x) (hi : SnIn x) (hl : LgIn l wy st) (hn : (Lit.int .i64 more).wf = true) :
    Calls Try.prog 7 #[v, lgV l wy st, .int .i64 more] w fun e w' => e = .returned (.bool true) ∧ Ext w w' := by
  obtain ⟨A, c, B, d, rfl, h2, h3⟩ := hs
  obtain ⟨time, ps, gs⟩ := x
  obtain ⟨lt, lm, kd, lg, lp, ls⟩ := l
  simp only at h2 h3 ⊢
  have HI := Lib.hid hi
  have HL := Lib.hid hl
  obtain ⟨w1, hw1, hx1, hb1, hl1⟩ := of_two w #[.int .i64 time, .slice A ps.length c, .slice B gs.length d] 25 #[.int .i64 lt, .int .i64 lm, .int .i64 kd, .int .i64 lg, .int .i64 lp, .int .i64 ls, wy, st] 28
  obtain ⟨S0, hS0⟩ : ∃ S0, w.heap.size = S0 := ⟨_, rfl⟩
  rw [hS0] at hb1 hl1
  have HS0 := Lib.hid hS0
  have HW1 := Lib.hid hw1
  have X0 := Lib.hid hx1
  have HBX := Lib.hid hb1
  have HBL := Lib.hid hl1
  have H2 := Lib.hid (h2.ext hx1)
  have H3 := Lib.hid (h3.ext hx1)
  have HSX : Hid (∀ v, Ext w1 v → SnAt v (.agg #[.int .i64 time, .slice A ps.length c, .slice B gs.length d]) ⟨time, ps, gs⟩) := Lib.hid fun v hv => ⟨A, c, B, d, rfl, H2.out.ext hv, H3.out.ext hv⟩
  have HRX : Hid (∀ v, Ext w1 v → v.rangeAt S0 0 [.int .i64 time, .slice A ps.length c, .slice B gs.length d]) := Lib.hid fun v hv => range_row (hv.blk HBX.out)
  have HRL : Hid (∀ v, Ext w1 v → v.rangeAt (S0 + 1) 0 [.int .i64 lt, .int .i64 lm, .int .i64 kd, .int .i64 lg, .int .i64 lp, .int .i64 ls, wy, st]) := Lib.hid fun v hv => range_row (hv.blk HBL.out)
  have XC := Lib.hid (Ext.refl w1)
  clear hS0 hw1 hx1 hb1 hl1 h2 h3 hi hl H2 H3
  unfold lgV
  go_enter Try.func7, Try.ntmps7
  go_upto_region 1 with fail
  rw [HW1.out, HS0.out]
  obtain ⟨y, hy⟩ : ∃ y, (Md.app ⟨time, ps, gs⟩ ⟨lt, lm, kd, lg, lp, ls⟩).getD Md.zero = y := ⟨_, rfl⟩
  obtain ⟨b, hb⟩ : ∃ b, (Md.app ⟨time, ps, gs⟩ ⟨lt, lm, kd, lg, lp, ls⟩).isSome = b := ⟨_, rfl⟩
  have HY := Lib.hid hy
  have HBO := Lib.hid hb
  have HMW := Lib.hid hn
  clear hy hb hn
  go_wp2_with (first | (refine wpList_load_rowW rfl 25 _ rfl S0 rfl [.int .i64 time, .slice A ps.length c, .slice B gs.length d] (.agg #[.int .i64 time, .slice A ps.length c, .slice B gs.length d]) rfl _ (HRX.out _ XC.out) Try.underlying25 rfl (by kernel_rfl) ?_) | (refine wpList_load_rowW rfl 28 _ rfl (S0 + 1) rfl [.int .i64 lt, .int .i64 lm, .int .i64 kd, .int .i64 lg, .int .i64 lp, .int .i64 ls, wy, st] (.agg #[.int .i64 lt, .int .i64 lm, .int .i64 kd, .int .i64 lg, .int .i64 lp, .int .i64 ls, wy, st]) rfl _ (HRL.out _ XC.out) Try.underlying28 rfl (by kernel_rfl) ?_))
  refine (mApply_all _ ⟨time, ps, gs⟩ ⟨lt, lm, kd, lg, lp, ls⟩ wy st _ (HSX.out _ XC.out) _ rfl).mono ?_
  rintro e wb1 hh
  obtain ⟨A1, c1, B1, d1, rfl, hsy, hx0⟩ := hh.form2 HY.out HBO.out
  obtain ⟨wz1, wc1, hwz, hth, hwc, hb, hxc⟩ := sn_box wb1 y A1 B1 c1 d1
  have hx := hx0.trans hxc
  obtain ⟨n1, hn⟩ : ∃ n, wb1.heap.size = n := ⟨_, rfl⟩
  rw [hn] at hth hwc hb
  have HZ1 : Hid (w1.heap.size ≤ n1) := Lib.hid (by rw [← hn]; exact (XC.out.trans hx0).size)
  have HS1 := Lib.hid (hsy.ext hxc)
  have HN1 := Lib.hid hn
  have HWZ1 := Lib.hid hwz
  have HTH1 := Lib.hid hth
  have HWC1 := Lib.hid hwc
  have HB1 := Lib.hid hb
  clear hh hwz hth hwc hb hxc hn hsy hx0
  have XD := Lib.hid (XC.out.trans hx)
  clear XC hx
  have XC := XD
  clear XD
  go_wp2_with (first | rw [HWZ1.out, HN1.out] | (refine wpList_store_rowN rfl 25 _ _ rfl n1 0 [.int .i64 y.time, .slice A1 y.ps.length c1, .slice B1 y.gs.length d1] (.agg ([.int .i64 y.time, .slice A1 y.ps.length c1, .slice B1 y.gs.length d1]).toArray) (by go_simp) (by go_simp) rfl HTH1.out (by kernel_rfl) (sn3_one _ _ _ rfl rfl) HWC1.out ?_) | (refine wpList_load_rowW rfl 25 _ rfl S0 rfl [.int .i64 time, .slice A ps.length c, .slice B gs.length d] (.agg #[.int .i64 time, .slice A ps.length c, .slice B gs.length d]) rfl _ (HRX.out _ XC.out) Try.underlying25 rfl (by kernel_rfl) ?_) | (refine wpList_load_rowW rfl 28 _ rfl (S0 + 1) rfl [.int .i64 lt, .int .i64 lm, .int .i64 kd, .int .i64 lg, .int .i64 lp, .int .i64 ls, wy, st] (.agg #[.int .i64 lt, .int .i64 lm, .int .i64 kd, .int .i64 lg, .int .i64 lp, .int .i64 ls, wy, st]) rfl _ (HRL.out _ XC.out) Try.underlying28 rfl (by kernel_rfl) ?_))
  refine (mdfixed_yes _).mono ?_
  rintro e wk ⟨rfl, hx⟩
  have HBN := Lib.hid (hx.blk HB1.out)
  clear HB1
  have HB1 := HBN
  clear HBN
  have HSN := Lib.hid (HS1.out.ext hx)
  clear HS1
  have HS1 := HSN
  clear HSN
  have XD := Lib.hid (XC.out.trans hx)
  clear XC hx
  have XC := XD
  clear XD
  go_wp2_with (first | (refine wpList_load_rowW rfl 25 _ rfl S0 rfl [.int .i64 time, .slice A ps.length c, .slice B gs.length d] (.agg #[.int .i64 time, .slice A ps.length c, .slice B gs.length d]) rfl _ (HRX.out _ XC.out) Try.underlying25 rfl (by kernel_rfl) ?_) | (refine wpList_load_rowW rfl 28 _ rfl (S0 + 1) rfl [.int .i64 lt, .int .i64 lm, .int .i64 kd, .int .i64 lg, .int .i64 lp, .int .i64 ls, wy, st] (.agg #[.int .i64 lt, .int .i64 lm, .int .i64 kd, .int .i64 lg, .int .i64 lp, .int .i64 ls, wy, st]) rfl _ (HRL.out _ XC.out) Try.underlying28 rfl (by kernel_rfl) ?_))
  obtain ⟨sm, hsm⟩ : ∃ sm, (decide (ps.length ≤ 70) && decide (gs.length ≤ 100)) = sm := ⟨_, rfl⟩
  have HSM := Lib.hid hsm
  clear hsm
  refine (rmsmall_any _ ⟨time, ps, gs⟩ _ (HSX.out _ XC.out) sm HSM.out).mono ?_
  rintro e wk ⟨rfl, hx⟩
  have HBN := Lib.hid (hx.blk HB1.out)
  clear HB1
  have HB1 := HBN
  clear HBN
  have HSN := Lib.hid (HS1.out.ext hx)
  clear HS1
  have HS1 := HSN
  clear HSN
  have XD := Lib.hid (XC.out.trans hx)
  clear XC hx
  have XC := XD
  clear XD
  cases sm with
  | false =>
    go_wp2_with fail
    refine (mdfixed_yes _).mono ?_
    rintro e wk ⟨rfl, hx⟩
    have XD := Lib.hid (XC.out.trans hx)
    clear XC hx
    have XC := XD
    clear XD
    go_wp2
    go_ret
    exact ⟨rfl, X0.out.trans XC.out⟩
  | true =>
  cases b with
  | false =>
    go_wp2_with fail
    refine (mdfixed_yes _).mono ?_
    rintro e wk ⟨rfl, hx⟩
    have XD := Lib.hid (XC.out.trans hx)
    clear XC hx
    have XC := XD
    clear XD
    go_wp2
    go_ret
    exact ⟨rfl, X0.out.trans XC.out⟩
  | true =>
  have HSO : Hid (Md.app ⟨time, ps, gs⟩ ⟨lt, lm, kd, lg, lp, ls⟩ = some y) := Lib.hid (by
    have h1 := HY.out
    have h2 := HBO.out
    cases h : Md.app ⟨time, ps, gs⟩ ⟨lt, lm, kd, lg, lp, ls⟩ with
    | none => rw [h] at h2; cases h2
    | some z => rw [h] at h1; exact congrArg some h1)
  have htm := Md.app_time HSO.out
  have HTM := Lib.hid htm
  obtain ⟨a1, a2, a3, -⟩ := htm
  simp only at a1 a2 a3
  have a4 : 0 ≤ lt := by omega
  by_cases k1 : more < 0
  · have e1 : decide (more < 0) = true := decide_eq_true k1
    clear k1
    go_wp2_with fail
    refine (mdfixed_yes _).mono ?_
    rintro e wk ⟨rfl, hx⟩
    have XD := Lib.hid (XC.out.trans hx)
    clear XC hx
    have XC := XD
    clear XD
    go_wp2
    go_ret
    exact ⟨rfl, X0.out.trans XC.out⟩
  have e1 : decide (more < 0) = false := decide_eq_false k1
  have m0 := blk_cell (XC.out.blk HBL.out) 0 _ rfl
  by_cases k2 : 4611686018427387904 - lt ≤ more
  · have e2 : decide (4611686018427387904 - lt ≤ more) = true := decide_eq_true k2
    clear k2
    go_wp2_with fail
    clear m0
    refine (mdfixed_yes _).mono ?_
    rintro e wk ⟨rfl, hx⟩
    have XD := Lib.hid (XC.out.trans hx)
    clear XC hx
    have XC := XD
    clear XD
    go_wp2
    go_ret
    exact ⟨rfl, X0.out.trans XC.out⟩
  have e2 : decide (4611686018427387904 - lt ≤ more) = false := decide_eq_false k2
  go_wp2_with fail
  clear m0 e1 e2
  refine region_rgw ([(2, (fun u => ∃ g, u = .pointer (some ⟨g, 0, none⟩) : Value → Prop), (fun u w => BoxW 28 8 wk w (u 2) : (Nat → GV) → World → Prop)), (3, (fun u => ∃ g, u = .pointer (some ⟨g, 0, none⟩) : Value → Prop), (fun u w => BoxW 28 8 wk w (u 3) : (Nat → GV) → World → Prop)), (4, (fun u => u = undef : Value → Prop), (fun u w => HasW 28 wk w (u 2) [.int .i64 lt, .int .i64 lm, .int .i64 kd, .int .i64 lg, .int .i64 lp, .int .i64 ls, wy, st] : (Nat → GV) → World → Prop)), (5, (fun u => u = undef : Value → Prop), (fun u w => HasW 28 wk w (u 3) [.int .i64 lt, .int .i64 lm, .int .i64 kd, .int .i64 lg, .int .i64 lp, .int .i64 ls, wy, st] : (Nat → GV) → World → Prop))]) (wk) ([(4, 0, [2]), (5, 0, [3])]) (by kernel_rfl) (by kernel_rfl) ?_ ?_ ?_ ?_
  · exact List.forall_mem_cons.2 ⟨List.forall_mem_cons.2 ⟨by kernel_rfl, List.forall_mem_nil _⟩, List.forall_mem_cons.2 ⟨List.forall_mem_cons.2 ⟨by kernel_rfl, List.forall_mem_nil _⟩, List.forall_mem_nil _⟩⟩
  · exact List.forall_mem_cons.2 ⟨⟨⟨_, 0, rfl⟩, fun u v w h ht => by show (fun u w => BoxW 28 8 wk w (u 2) : (Nat → GV) → World → Prop) v w; dsimp only; rw [← h 2 (.inl rfl) (by kernel_rfl)]; exact ht, fun u w w2 hx ht => ht.ext hx, List.forall_mem_cons.2 ⟨fun _ hp => by first | (intro u w w2 hap haq hc ht; (exact ht.chg hc); done) | exact rg_vac hp (by kernel_rfl), List.forall_mem_cons.2 ⟨fun _ hp => by first | (intro u w w2 hap haq hc ht; (exact ht.chg hc); done) | exact rg_vac hp (by kernel_rfl), List.forall_mem_nil _⟩⟩⟩, List.forall_mem_cons.2 ⟨⟨⟨_, 0, rfl⟩, fun u v w h ht => by show (fun u w => BoxW 28 8 wk w (u 3) : (Nat → GV) → World → Prop) v w; dsimp only; rw [← h 3 (.inl rfl) (by kernel_rfl)]; exact ht, fun u w w2 hx ht => ht.ext hx, List.forall_mem_cons.2 ⟨fun _ hp => by first | (intro u w w2 hap haq hc ht; (exact ht.chg hc); done) | exact rg_vac hp (by kernel_rfl), List.forall_mem_cons.2 ⟨fun _ hp => by first | (intro u w w2 hap haq hc ht; (exact ht.chg hc); done) | exact rg_vac hp (by kernel_rfl), List.forall_mem_nil _⟩⟩⟩, List.forall_mem_cons.2 ⟨⟨⟨_, rfl⟩, fun u v w h ht => by show (fun u w => HasW 28 wk w (u 2) [.int .i64 lt, .int .i64 lm, .int .i64 kd, .int .i64 lg, .int .i64 lp, .int .i64 ls, wy, st] : (Nat → GV) → World → Prop) v w; dsimp only; rw [← h 2 (.inr (by kernel_rfl)) (by kernel_rfl)]; exact ht, fun u w w2 hx ht => ht.ext hx, List.forall_mem_cons.2 ⟨fun hne => absurd rfl hne, List.forall_mem_cons.2 ⟨fun _ hp => by first | (intro u w w2 hap haq hc ht; (refine ht.far hc ?_; intro x hx; simp only [List.map_cons, List.map_nil, List.mem_cons, List.not_mem_nil, or_false] at hx; subst hx; exact haq 3 (by simp) 2 (by kernel_rfl) (by kernel_rfl) (by decide)); done) | exact rg_vac hp (by kernel_rfl), List.forall_mem_nil _⟩⟩⟩, List.forall_mem_cons.2 ⟨⟨⟨_, rfl⟩, fun u v w h ht => by show (fun u w => HasW 28 wk w (u 3) [.int .i64 lt, .int .i64 lm, .int .i64 kd, .int .i64 lg, .int .i64 lp, .int .i64 ls, wy, st] : (Nat → GV) → World → Prop) v w; dsimp only; rw [← h 3 (.inr (by kernel_rfl)) (by kernel_rfl)]; exact ht, fun u w w2 hx ht => ht.ext hx, List.forall_mem_cons.2 ⟨fun _ hp => by first | (intro u w w2 hap haq hc ht; (refine ht.far hc ?_; intro x hx; simp only [List.map_cons, List.map_nil, List.mem_cons, List.not_mem_nil, or_false] at hx; subst hx; exact haq 2 (by simp) 3 (by kernel_rfl) (by kernel_rfl) (by decide)); done) | exact rg_vac hp (by kernel_rfl), List.forall_mem_cons.2 ⟨fun hne => absurd rfl hne, List.forall_mem_nil _⟩⟩⟩, List.forall_mem_nil _⟩⟩⟩⟩
  · first | assumption | exact Ext.refl _
  refine rg_pure (v := .agg #[.int .i64 lt, .int .i64 lm, .int .i64 kd, .int .i64 lg, .int .i64 lp, .int .i64 ls, wy, st]) rfl (by kernel_rfl) (by kernel_rfl) (fun w hS hN => ?_) ?_
  · clear hN
    exact givesP_load 28 _ rfl _ (by go_simp) ([.int .i64 lt, .int .i64 lm, .int .i64 kd, .int .i64 lg, .int .i64 lp, .int .i64 ls, wy, st]) _ rfl _ (range_row (hS.blk (XC.out.blk HBL.out))) Try.underlying28 rfl (by kernel_rfl)
  refine rg_pure (v := .agg #[.int .i64 lt, .int .i64 lm, .int .i64 kd, .int .i64 lg, .int .i64 lp, .int .i64 ls, wy, st]) rfl (by kernel_rfl) (by kernel_rfl) (fun w hS hN => ?_) ?_
  · clear hN
    exact givesP_load 28 _ rfl _ (by go_simp) ([.int .i64 lt, .int .i64 lm, .int .i64 kd, .int .i64 lg, .int .i64 lp, .int .i64 ls, wy, st]) _ rfl _ (range_row (hS.blk (XC.out.blk HBL.out))) Try.underlying28 rfl (by kernel_rfl)
  refine rg_mem (fun u => ∃ g, u = .pointer (some ⟨g, 0, none⟩) : Value → Prop) (fun u w => BoxW 28 8 wk w (u 2) : (Nat → GV) → World → Prop) (fun _ => Ext) rfl rfl rfl rfl (by kernel_rfl) (by kernel_rfl) (fun w hS hN R hR => ?_) ?_
  · have HR := Lib.hid hR
    clear hR
    (try clear hN)
    go_simp
    exact givesM_val (HR.out _ _ ⟨_, rfl⟩ (BoxW.made hS [.int .i64 0, .int .i64 0, .int .i64 0, .int .i64 0, .int .i64 0, .int .i64 0, .string ByteArray.empty, .slice none 0 0]) ((Ext.refl w).alloc _))
  rintro u2 s2 t2 ⟨g2, rfl⟩
  refine rg_mem (fun u => ∃ g, u = .pointer (some ⟨g, 0, none⟩) : Value → Prop) (fun u w => BoxW 28 8 wk w (u 3) : (Nat → GV) → World → Prop) (fun _ => Ext) rfl rfl rfl rfl (by kernel_rfl) (by kernel_rfl) (fun w hS hN R hR => ?_) ?_
  · have HR := Lib.hid hR
    clear hR
    (try clear hN)
    go_simp
    exact givesM_val (HR.out _ _ ⟨_, rfl⟩ (BoxW.made hS [.int .i64 0, .int .i64 0, .int .i64 0, .int .i64 0, .int .i64 0, .int .i64 0, .string ByteArray.empty, .slice none 0 0]) ((Ext.refl w).alloc _))
  rintro u3 s3 t3 ⟨g3, rfl⟩
  refine rg_mem (fun u => u = undef : Value → Prop) (fun u w => HasW 28 wk w (u 2) [.int .i64 lt, .int .i64 lm, .int .i64 kd, .int .i64 lg, .int .i64 lp, .int .i64 ls, wy, st] : (Nat → GV) → World → Prop) (fun u => ChgIn (wk) (0) ([2].map u)) rfl rfl rfl rfl (by kernel_rfl) (by kernel_rfl) (fun w hS hN R hR => ?_) ?_
  · have HR := Lib.hid hR
    clear hR
    have h6 : BoxW 28 8 wk w ⟨.pointer (some ⟨g2, 0, none⟩), s2, t2⟩ := hN.get 2 rfl (by kernel_rfl)
    obtain ⟨g, cz, hcz, hg, hg2, hg3, hg4⟩ := h6
    simp only [Value.pointer.injEq, Option.some.injEq, Addr.mk.injEq, and_true] at hg
    subst hg
    clear hN
    refine givesM_store 28 _ _ rfl g2 0 (by go_simp) [.int .i64 lt, .int .i64 lm, .int .i64 kd, .int .i64 lg, .int .i64 lp, .int .i64 ls, wy, st] (by go_simp) (there_row hg4 (by simp [hcz])) (by kernel_rfl) (lg_one _ _ _ _ _ _ HL.out.1 HL.out.2.1) ?_
    exact HR.out _ _ rfl ⟨g2, rfl, hg2, hg3, setCells_at cz _ hcz hg4⟩ (ChgIn.row hcz hS hg2 hg3 hg4)
  rintro u4 s4 t4 rfl
  refine rg_mem (fun u => u = undef : Value → Prop) (fun u w => HasW 28 wk w (u 3) [.int .i64 lt, .int .i64 lm, .int .i64 kd, .int .i64 lg, .int .i64 lp, .int .i64 ls, wy, st] : (Nat → GV) → World → Prop) (fun u => ChgIn (wk) (0) ([3].map u)) rfl rfl rfl rfl (by kernel_rfl) (by kernel_rfl) (fun w hS hN R hR => ?_) ?_
  · have HR := Lib.hid hR
    clear hR
    have h6 : BoxW 28 8 wk w ⟨.pointer (some ⟨g3, 0, none⟩), s3, t3⟩ := hN.get 3 rfl (by kernel_rfl)
    obtain ⟨g, cz, hcz, hg, hg2, hg3, hg4⟩ := h6
    simp only [Value.pointer.injEq, Option.some.injEq, Addr.mk.injEq, and_true] at hg
    subst hg
    clear hN
    refine givesM_store 28 _ _ rfl g3 0 (by go_simp) [.int .i64 lt, .int .i64 lm, .int .i64 kd, .int .i64 lg, .int .i64 lp, .int .i64 ls, wy, st] (by go_simp) (there_row hg4 (by simp [hcz])) (by kernel_rfl) (lg_one _ _ _ _ _ _ HL.out.1 HL.out.2.1) ?_
    exact HR.out _ _ rfl ⟨g3, rfl, hg2, hg3, setCells_at cz _ hcz hg4⟩ (ChgIn.row hcz hS hg2 hg3 hg4)
  rintro u5 s5 t5 rfl
  refine rg_doneA rfl (Nat.le_of_ble_eq_true (by kernel_rfl)) ?_
  intro w8 hS hT hA
  have k4 : HasW 28 wk w8 ⟨.pointer (some ⟨g2, 0, none⟩), s2, t2⟩ [.int .i64 lt, .int .i64 lm, .int .i64 kd, .int .i64 lg, .int .i64 lp, .int .i64 ls, wy, st] := hT (4, ⟨undef, s4, t4⟩) (by simp)
  have k5 : HasW 28 wk w8 ⟨.pointer (some ⟨g3, 0, none⟩), s3, t3⟩ [.int .i64 lt, .int .i64 lm, .int .i64 kd, .int .i64 lg, .int .i64 lp, .int .i64 ls, wy, st] := hT (5, ⟨undef, s5, t5⟩) (by simp)
  have hap : t2 ≤ s3 ∨ t3 ≤ s2 := hA (2, ⟨.pointer (some ⟨g2, 0, none⟩), s2, t2⟩) (by simp) (3, ⟨.pointer (some ⟨g3, 0, none⟩), s3, t3⟩) (by simp) (by simp)
  have hne : g2 ≠ g3 := by
    obtain ⟨g, e, _, k2, _⟩ := k4
    obtain ⟨g', e', _, k2', _⟩ := k5
    simp only [Value.pointer.injEq, Option.some.injEq, Addr.mk.injEq, and_true] at e e'
    subst e e'
    dsimp only at k2 k2'
    omega
  obtain ⟨x0, f0, w9, hw9, hx9, x1, f1, w10, hw10, hx10, hT1, hT2⟩ := tm_set (a := lt + more) (b := time - 1) hS (k4.get rfl).2 (k5.get rfl).2 hne (k4.get rfl).1 (k5.get rfl).1
  have m0 := blk_cell ((XC.out.trans hS).blk HBL.out) 0 _ rfl
  have c0 := blk_cell ((XC.out.trans hx9).blk HBX.out) 0 _ rfl
  have HW9 := Lib.hid hw9
  have HW10 := Lib.hid hw10
  have HT1 := Lib.hid hT1
  have HT2 := Lib.hid hT2
  have hx := hx10
  clear hT hA hap hne k4 k5 hw9 hw10 hT1 hT2 hS hx9 hx10
  have HBN := Lib.hid (hx.blk HB1.out)
  clear HB1
  have HB1 := HBN
  clear HBN
  have HSN := Lib.hid (HS1.out.ext hx)
  clear HS1
  have HS1 := HSN
  clear HSN
  have XD := Lib.hid (XC.out.trans hx)
  clear XC hx
  have XC := XD
  clear XD
  have HRT1 : Hid (∀ v, Ext w10 v → v.rangeAt g2 0 [.int .i64 (lt + more), .int .i64 lm, .int .i64 kd, .int .i64 lg, .int .i64 lp, .int .i64 ls, wy, st]) := Lib.hid fun v hv => range_row (hv.blk HT1.out)
  have HRT2 : Hid (∀ v, Ext w10 v → v.rangeAt g3 0 [.int .i64 (time - 1), .int .i64 lm, .int .i64 kd, .int .i64 lg, .int .i64 lp, .int .i64 ls, wy, st]) := Lib.hid fun v hv => range_row (hv.blk HT2.out)
  have HLA : Hid (Md.app ⟨time, ps, gs⟩ ⟨lt + more, lm, kd, lg, lp, ls⟩ = some ⟨lt + more, y.ps, y.gs⟩) := Lib.hid (Md.app_later HSO.out (t := lt + more) (by simp only; omega) (by omega))
  have HEA : Hid (Md.app ⟨time, ps, gs⟩ ⟨time - 1, lm, kd, lg, lp, ls⟩ = none) := Lib.hid (Md.app_early (l := ⟨lt, lm, kd, lg, lp, ls⟩) (t := time - 1) (by simp only; omega))
  have XE := Lib.hid (Ext.refl w10)
  have HYF := Lib.hid (Md.app_few HY.out)
  go_simp
  go_upto_region 6 with fail
  rw [HW9.out]
  clear m0 x0 f0
  go_upto_region 7 with fail
  rw [HW10.out]
  clear c0 x1 f1
  go_wp2_with (first | (refine wpList_load_rowW rfl 25 _ rfl S0 rfl [.int .i64 time, .slice A ps.length c, .slice B gs.length d] (.agg #[.int .i64 time, .slice A ps.length c, .slice B gs.length d]) rfl _ (HRX.out _ XC.out) Try.underlying25 rfl (by kernel_rfl) ?_) | (refine wpList_load_rowW rfl 28 _ rfl g2 rfl [.int .i64 (lt + more), .int .i64 lm, .int .i64 kd, .int .i64 lg, .int .i64 lp, .int .i64 ls, wy, st] (.agg #[.int .i64 (lt + more), .int .i64 lm, .int .i64 kd, .int .i64 lg, .int .i64 lp, .int .i64 ls, wy, st]) rfl _ (HRT1.out _ XE.out) Try.underlying28 rfl (by kernel_rfl) ?_))
  refine (mApply_all _ ⟨time, ps, gs⟩ ⟨lt + more, lm, kd, lg, lp, ls⟩ wy st _ (HSX.out _ XC.out) _ rfl).mono ?_
  rintro e wb2 hh
  obtain ⟨A2, c2, B2, d2, rfl, hsy, hx0⟩ := hh.form2 (by rw [HLA.out]) (by rw [HLA.out])
  obtain ⟨wz2, wc2, hwz, hth, hwc, hb, hxc⟩ := sn_box wb2 ⟨lt + more, y.ps, y.gs⟩ A2 B2 c2 d2
  have hx := hx0.trans hxc
  obtain ⟨n2, hn⟩ : ∃ n, wb2.heap.size = n := ⟨_, rfl⟩
  rw [hn] at hth hwc hb
  dsimp only at hth hwc hb hsy
  have HLT1 : Hid (n1 < n2) := Lib.hid (by rw [← hn]; exact blk_lt (hx0.blk HB1.out))
  have HBN := Lib.hid (hx.blk HB1.out)
  clear HB1
  have HB1 := HBN
  clear HBN
  have HSN := Lib.hid (HS1.out.ext hx)
  clear HS1
  have HS1 := HSN
  clear HSN
  have HS2 := Lib.hid (hsy.ext hxc)
  have HN2 := Lib.hid hn
  have HWZ2 := Lib.hid hwz
  have HTH2 := Lib.hid hth
  have HWC2 := Lib.hid hwc
  have HB2 := Lib.hid hb
  clear hh hwz hth hwc hb hxc hn hsy hx0
  have XF := Lib.hid (XE.out.trans hx)
  clear XE
  have XE := XF
  clear XF
  have XD := Lib.hid (XC.out.trans hx)
  clear XC hx
  have XC := XD
  clear XD
  go_wp2_with (first | rw [HWZ2.out, HN2.out] | (refine wpList_store_rowN rfl 25 _ _ rfl n2 0 [.int .i64 (lt + more), .slice A2 y.ps.length c2, .slice B2 y.gs.length d2] (.agg ([.int .i64 (lt + more), .slice A2 y.ps.length c2, .slice B2 y.gs.length d2]).toArray) (by go_simp) (by go_simp) rfl HTH2.out (by kernel_rfl) (sn3_one _ _ _ rfl rfl) HWC2.out ?_) | (refine wpList_load_rowW rfl 25 _ rfl S0 rfl [.int .i64 time, .slice A ps.length c, .slice B gs.length d] (.agg #[.int .i64 time, .slice A ps.length c, .slice B gs.length d]) rfl _ (HRX.out _ XC.out) Try.underlying25 rfl (by kernel_rfl) ?_) | (refine wpList_load_rowW rfl 28 _ rfl g3 rfl [.int .i64 (time - 1), .int .i64 lm, .int .i64 kd, .int .i64 lg, .int .i64 lp, .int .i64 ls, wy, st] (.agg #[.int .i64 (time - 1), .int .i64 lm, .int .i64 kd, .int .i64 lg, .int .i64 lp, .int .i64 ls, wy, st]) rfl _ (HRT2.out _ XE.out) Try.underlying28 rfl (by kernel_rfl) ?_))
  refine (mApply_all _ ⟨time, ps, gs⟩ ⟨time - 1, lm, kd, lg, lp, ls⟩ wy st _ (HSX.out _ XC.out) _ rfl).mono ?_
  rintro e wb3 hh
  obtain ⟨A3, c3, B3, d3, rfl, hsy, hx0⟩ := hh.form2 (by rw [HEA.out]) (by rw [HEA.out])
  obtain ⟨wz3, wc3, hwz, hth, hwc, hb, hxc⟩ := sn_box wb3 Md.zero A3 B3 c3 d3
  have hx := hx0.trans hxc
  obtain ⟨n3, hn⟩ : ∃ n, wb3.heap.size = n := ⟨_, rfl⟩
  rw [hn] at hth hwc hb
  have HBN := Lib.hid (hx.blk HB1.out)
  clear HB1
  have HB1 := HBN
  clear HBN
  have HSN := Lib.hid (HS1.out.ext hx)
  clear HS1
  have HS1 := HSN
  clear HSN
  have HBN := Lib.hid (hx.blk HB2.out)
  clear HB2
  have HB2 := HBN
  clear HBN
  have HSN := Lib.hid (HS2.out.ext hx)
  clear HS2
  have HS2 := HSN
  clear HSN
  have HS3 := Lib.hid (hsy.ext hxc)
  have HN3 := Lib.hid hn
  have HWZ3 := Lib.hid hwz
  have HTH3 := Lib.hid hth
  have HWC3 := Lib.hid hwc
  have HB3 := Lib.hid hb
  clear hh hwz hth hwc hb hxc hn hsy hx0
  have XF := Lib.hid (XE.out.trans hx)
  clear XE
  have XE := XF
  clear XF
  have XD := Lib.hid (XC.out.trans hx)
  clear XC hx
  have XC := XD
  clear XD
  have HG1 : Hid (w1.heap.size ≤ n2) := Lib.hid (by have := HZ1.out; have := HLT1.out; omega)
  have c0 := blk_cell HB1.out 0 _ rfl
  have c1 := blk_cell HB2.out 0 _ rfl
  have f1 := frozen_of_row _ _ 0 _ _ HB2.out
  obtain ⟨wd, hwd⟩ : ∃ wd, wc3.setCell ⟨n2, 0, none⟩ (.int .i64 y.time) = wd := ⟨_, rfl⟩
  have hu : Upd n2 wc3 wd := by rw [← hwd]; exact (Upd.refl _ _).set 0 _
  have HWD := Lib.hid hwd
  have HD1 := Lib.hid (hu.blk HB1.out (by have := HLT1.out; omega))
  have HD2 : Hid (wd.heap[n2]? = some (.cells #[.int .i64 y.time, .slice A2 y.ps.length c2, .slice B2 y.gs.length d2] 25 (0, 0))) := Lib.hid (by rw [← hwd]; have := blk_set HB2.out 0 (.int .i64 y.time); simpa using this)
  have HE1 := Lib.hid (HS1.out.off HB2.out (by simp) (by simp) hu)
  have HE2 := Lib.hid (((HS2.out.timed (y := ⟨lt + more, y.ps, y.gs⟩) y.time)).off HB2.out (by simp) (by simp) hu)
  have XD : Hid (Ext w1 wd) := Lib.hid (Ext.upd XC.out hu HG1.out)
  clear hwd hu
  go_upto_region 10 with (first | rw [HWZ3.out, HN3.out] | (refine wpList_store_rowN rfl 25 _ _ rfl n3 0 [.int .i64 Md.zero.time, .slice A3 Md.zero.ps.length c3, .slice B3 Md.zero.gs.length d3] (.agg ([.int .i64 Md.zero.time, .slice A3 Md.zero.ps.length c3, .slice B3 Md.zero.gs.length d3]).toArray) (by go_simp) (by go_simp) rfl HTH3.out (by kernel_rfl) (sn3_one _ _ _ rfl rfl) HWC3.out ?_))
  rw [HWD.out]
  clear c0 c1 f1
  go_wp2_with (first | (refine wpList_load_rowW rfl 25 _ rfl n2 rfl [.int .i64 y.time, .slice A2 y.ps.length c2, .slice B2 y.gs.length d2] (.agg #[.int .i64 y.time, .slice A2 y.ps.length c2, .slice B2 y.gs.length d2]) rfl _ (range_row HD2.out) Try.underlying25 rfl (by kernel_rfl) ?_) | (refine wpList_load_rowW rfl 25 _ rfl n1 rfl [.int .i64 y.time, .slice A1 y.ps.length c1, .slice B1 y.gs.length d1] (.agg #[.int .i64 y.time, .slice A1 y.ps.length c1, .slice B1 y.gs.length d1]) rfl _ (range_row HD1.out) Try.underlying25 rfl (by kernel_rfl) ?_))
  refine (rsnsame_any _ _ ⟨y.time, y.ps, y.gs⟩ y _ HE2.out HE1.out (by have := HYF.out; simp only; omega) (by have := HYF.out; simp only; omega) true (by simp)).mono ?_
  rintro e wk ⟨rfl, hx⟩
  go_wp2
  go_ret
  exact ⟨rfl, X0.out.trans (XD.out.trans hx)⟩
end Go.Proofs.Ytdcbaddndoilfaa
