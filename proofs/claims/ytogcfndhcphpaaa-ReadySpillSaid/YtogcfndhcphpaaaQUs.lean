/-
  What the chunks lack, for one more law.
-/
import Derived.Test.YtogcfndhcphpaaaA01
import Derived.Test.YtogcfndhcphpaaaA02
import Derived.Test.YtogcfndhcphpaaaA03
import Derived.Test.YtogcfndhcphpaaaA04
import Derived.Test.YtogcfndhcphpaaaA05
import Derived.Test.YtogcfndhcphpaaaA06
import Derived.Test.YtogcfndhcphpaaaA07
import Derived.Test.YtogcfndhcphpaaaA08
import Derived.Test.YtogcfndhcphpaaaA09
import Derived.Test.YtogcfndhcphpaaaA10
import Derived.Test.YtogcfndhcphpaaaA11
import Derived.Test.YtogcfndhcphpaaaA12
import Derived.Test.YtogcfndhcphpaaaA13
import Derived.Test.YtogcfndhcphpaaaA14
import Derived.Test.YtogcfndhcphpaaaA15
import Derived.Test.YtogcfndhcphpaaaA16
import Derived.Test.YtogcfndhcphpaaaA17
import Derived.Test.YtogcfndhcphpaaaA18
import Derived.Test.YtogcfndhcphpaaaA19
import Derived.Test.YtogcfndhcphpaaaA20
import Derived.Test.YtogcfndhcphpaaaA21
import Derived.Test.YtogcfndhcphpaaaA22
import Derived.Test.YtogcfndhcphpaaaA23
import Derived.Test.YtogcfndhcphpaaaA24
import Derived.Test.YtogcfndhcphpaaaA25
import Derived.Test.YtogcfndhcphpaaaRows
import Derived.WalkKit
import Derived.WalkSpells
import Derived.WalkLawsBesides
import Derived.Lib.Hide
import Derived.Laws.BytesArg
import Derived.ProofKit
import Derived.OpenShut
import Derived.Deep.AppendLies
import Derived.Deep.QuietTactic
import Derived.BigQuiet
import Derived.Lib.AppendZerosOnto
import Derived.Deep.Upon
import Derived.RangeFuncBox
import Derived.RangeFuncLeaves
import Derived.RangeFuncNested
import Derived.RangeFuncBound
import Derived.RangeFuncCalls
import Derived.Shelf.Abstract
import Derived.Shelf.RegionOpen
import Derived.OwnWalkIn
import Derived.TacticsInMore
import Derived.LoopNIn
import Derived.LoopIn
import Derived.ChangeKeysEq
import Derived.Deep.DeepCutAuto
import Derived.Maps.AppendAt
import Derived.Orders
import Derived.Maps.OwnSet
import Derived.Lib.SliceRun
import Derived.Deep.MidRow
import Derived.Laws.EntriesVeiled
import Derived.Laws.ResultCell
import Derived.Laws.Rows
import Derived.DeepKeys
import Derived.Laws.IdiomCopy
import Derived.Deep.Slices
import Derived.Deep.Fields
import Derived.ChangeSame
import Derived.SliceStrings
/-
  Rings as queues: plain mathematics.
-/
set_option linter.unusedVariables false
set_option linter.unusedSimpArgs false
namespace Go.Proofs.Ytogcfndhcphpaaa
open Go.RowKit
/-- A ring that may be, and what it holds. -/
def Ri.Holds (r : Ri) (l : List Int) : Prop :=
  ∃ hd nn : Nat, r.head = hd ∧ r.n = nn ∧ hd < 8 ∧ nn ≤ 8 ∧ r.buf.length = 8 ∧ (∀ j < 8, if (j + 8 - hd) % 8 < nn then 0 < r.buf[j]?.getD 0 else r.buf[j]?.getD 0 = 0) ∧ l = (List.range nn).map fun i => r.buf[(hd + i) % 8]?.getD 0
theorem Ri.may_of {r : Ri} {l : List Int} (h : r.Holds l) : r.may = true := by
  obtain ⟨hd, nn, h1, h2, h3, h4, h5, h6, rfl⟩ := h
  obtain ⟨bs, a, b⟩ := r
  simp only at h1 h2 h5 h6
  subst h1 h2
  exact (Ri.may_nat h3 h4).2 h6
theorem Ri.list_of {r : Ri} {l : List Int} (h : r.Holds l) : r.list = l := by
  unfold Ri.list
  rw [if_pos (Ri.may_of h)]
  obtain ⟨hd, nn, h1, h2, h3, h4, h5, h6, rfl⟩ := h
  unfold Ri.elem
  rw [h1, h2]
  rfl
theorem Ri.holds_n {r : Ri} {l : List Int} (h : r.Holds l) : r.n = l.length ∧ l.length ≤ 8 := by
  obtain ⟨hd, nn, h1, h2, h3, h4, h5, h6, rfl⟩ := h
  simp [h2, h4]
theorem Ri.holds_push {r : Ri} {l : List Int} (h : r.Holds l) {g : Int} (hg : 1 ≤ g) (h8 : l.length < 8) : ∃ r', r.push g = (r', true) ∧ r'.Holds (l ++ [g]) := by
  have hm := Ri.may_of h
  obtain ⟨hd, nn, h1, h2, h3, h4, h5, h6, rfl⟩ := h
  obtain ⟨bs, a, b⟩ := r
  simp only at h1 h2 h5 h6
  subst h1 h2
  simp only [List.length_map, List.length_range] at h8
  refine ⟨⟨bs.set ((hd + nn) % 8) g, hd, (nn : Int) + 1⟩, ?_, hd, nn + 1, rfl, by simp, h3, by omega, by simpa using h5, ?_, ?_⟩
  · unfold Ri.push
    rw [hm]
    simp only [Int.toNat_natCast]
    rw [if_pos (by simp; omega)]
  · intro j hj
    have := h6 j hj
    simp only [List.getElem?_set]
    by_cases he : (hd + nn) % 8 = j
    · rw [if_pos (by omega), if_pos he, if_pos (by omega)]
      simp only [Option.getD_some]; omega
    · rw [if_neg he]
      by_cases hlt : (j + 8 - hd) % 8 < nn
      · rw [if_pos hlt] at this
        rw [if_pos (by omega)]; exact this
      · rw [if_neg hlt] at this
        rw [if_neg (by omega)]; exact this
  · rw [List.range_succ, List.map_append]
    simp only [List.map_cons, List.map_nil]
    congr 1
    · apply List.map_congr_left
      intro i hi
      have := List.mem_range.1 hi
      rw [List.getElem?_set_ne (by omega)]
    · rw [List.getElem?_set_self (by omega)]
      rfl
theorem Ri.push_no {r : Ri} {l : List Int} (h : r.Holds l) {g : Int} (hn : g < 1 ∨ l.length = 8) : r.push g = (Ri.zero, false) := by
  have := (Ri.holds_n h).1
  unfold Ri.push
  rw [if_neg]
  simp only [Bool.and_eq_true, decide_eq_true_eq]
  omega
theorem Ri.holds_pop {r : Ri} {l : List Int} {g : Int} (h : r.Holds (g :: l)) : ∃ r', r.pop = (r', g, true) ∧ r'.Holds l := by
  have hm := Ri.may_of h
  have hn := Ri.holds_n h
  obtain ⟨hd, nn, h1, h2, h3, h4, h5, h6, hl⟩ := h
  obtain ⟨bs, a, b⟩ := r
  simp only at h1 h2 h5 h6 hn hl
  subst h1 h2
  simp only [List.length_cons] at hn
  obtain ⟨k, rfl⟩ : ∃ k, nn = k + 1 := ⟨nn - 1, by omega⟩
  rw [List.range_succ_eq_map, List.map_cons, List.map_map] at hl
  simp only [List.cons.injEq] at hl
  obtain ⟨hg, hl⟩ := hl
  rw [show (hd + 0) % 8 = hd by omega] at hg
  refine ⟨⟨bs.set hd 0, ((hd : Int) + 1) % 8, ((k + 1 : Nat) : Int) - 1⟩, ?_, (hd + 1) % 8, k, by simp only; omega, by simp only; omega, by omega, by omega, by simpa using h5, ?_, ?_⟩
  · unfold Ri.pop
    rw [if_pos hm]
    simp only [Int.toNat_natCast]
    rw [if_neg (by omega), hg]
  · intro j hj
    have := h6 j hj
    simp only [List.getElem?_set]
    by_cases he : hd = j
    · rw [if_neg (by omega), if_pos he, if_pos (by omega)]
      rfl
    · rw [if_neg he]
      by_cases hlt : (j + 8 - hd) % 8 < k + 1
      · rw [if_pos hlt] at this
        rw [if_pos (by omega)]; exact this
      · rw [if_neg hlt] at this
        rw [if_neg (by omega)]; exact this
  · rw [hl]
    apply List.map_congr_left
    intro i hi
    have := List.mem_range.1 hi
    simp only [Function.comp]
    rw [List.getElem?_set_ne (by omega), show (hd + i.succ) % 8 = ((hd + 1) % 8 + i) % 8 by omega]
theorem Ri.holds_zero : Ri.zero.Holds [] := ⟨0, 0, rfl, rfl, by omega, by omega, rfl, by decide, rfl⟩
theorem Ri.holds_len {r : Ri} {l : List Int} (h : r.Holds l) : r.buf.length = 8 := by
  obtain ⟨hd, nn, h1, h2, h3, h4, h5, h6, rfl⟩ := h
  exact h5
end Go.Proofs.Ytogcfndhcphpaaa

/-
  The walk of the statement RingHalf.
-/

set_option linter.unusedVariables false
set_option linter.unusedSimpArgs false
namespace Go.Proofs.Ytogcfndhcphpaaa
open Go.RowKit
theorem Ri.takes_holds : ∀ (k : Nat) (r : Ri) (l o : List Int), r.Holds l → k ≤ l.length → ∃ r', Ri.takes k r o = (r', o ++ l.take k) ∧ r'.Holds (l.drop k)
  | 0, r, l, o, h, _ => ⟨r, by simp [Ri.takes], by simpa using h⟩
  | k + 1, r, [], o, h, hk => by simp at hk
  | k + 1, r, g :: l, o, h, hk => by
    obtain ⟨r', h1, h2⟩ := Ri.holds_pop h
    obtain ⟨r'', h3, h4⟩ := Ri.takes_holds k r' l (o ++ [g]) h2 (by simpa using hk)
    refine ⟨r'', ?_, by simpa using h4⟩
    unfold Ri.takes
    rw [h1, h3]
    simp
theorem Ri.half_holds {r : Ri} {l : List Int} (h : r.Holds l) : ∃ r', Ri.half r = (r', l.take ((l.length + 1) / 2)) ∧ r'.Holds (l.drop ((l.length + 1) / 2)) := by
  obtain ⟨r', h1, h2⟩ := Ri.takes_holds ((l.length + 1) / 2) r l [] h (by omega)
  refine ⟨r', ?_, h2⟩
  unfold Ri.half
  rw [if_pos (Ri.may_of h), (Ri.holds_n h).1]
  simpa using h1
end Go.Proofs.Ytogcfndhcphpaaa

/-
  Gs laid behind an empty ring one behind the other: plain mathematics.
-/

set_option linter.unusedVariables false
set_option linter.unusedSimpArgs false
namespace Go.Proofs.Ytogcfndhcphpaaa
open Go.RowKit

def numsTo (i : Nat) : List Int := (List.range i).map fun j : Nat => (j : Int) + 1
theorem numsTo_succ (i : Nat) : numsTo (i + 1) = numsTo i ++ [(i : Int) + 1] := by simp [numsTo, List.range_succ]
theorem numsTo_len (i : Nat) : (numsTo i).length = i := by simp [numsTo]
/-- What there is when i were laid. -/
structure SpK (i : Nat) (s : St) (r : Ri) (l : List Int) : Prop where
  ps : s.ps = [⟨0, 0, r, 0⟩]
  rest : s = { St.nil with ps := s.ps, glob := s.glob }
  hold : r.Holds l
  len : s.glob.length + l.length = i
  cnt : ∀ x : Int, s.glob.count x + l.count x = if 1 ≤ x ∧ x ≤ (i : Int) then 1 else 0
  few : i ≤ 8 → s.glob = [] ∧ l = numsTo i
theorem SpK.start : SpK 0 { St.nil with ps := [nilPr] } Ri.zero [] := ⟨rfl, rfl, Ri.holds_zero, rfl, fun x => by simp [St.nil]; intro h; omega, fun _ => ⟨rfl, rfl⟩⟩
theorem cnt_step {i : Nat} {a b c : Nat} {x : Int} (h : a + b = if 1 ≤ x ∧ x ≤ (i : Int) then 1 else 0) (hc : c = if (i : Int) + 1 = x then 1 else 0) : a + b + c = if 1 ≤ x ∧ x ≤ ((i + 1 : Nat) : Int) then 1 else 0 := by
  subst hc
  split at h <;> split <;> split <;> omega
theorem count_one (i : Nat) (x : Int) : ([(i : Int) + 1] : List Int).count x = if (i : Int) + 1 = x then 1 else 0 := by
  rw [List.count_singleton]
  by_cases h : (i : Int) + 1 = x
  · rw [if_pos (by simpa using h.symm ▸ rfl), if_pos h]
  · rw [if_neg (by simpa using fun e => h (by simpa using e)), if_neg h]
theorem SpK.next {i : Nat} {s : St} {r : Ri} {l : List Int} (k : SpK i s r l) : ∃ r' l', SpK (i + 1) (s.tail 1 ((i : Int) + 1)) r' l' := by
  have hp : s.ps[0]? = some ⟨0, 0, r, 0⟩ := by rw [k.ps]; rfl
  have hg : (1 : Int) ≤ (i : Int) + 1 := by omega
  have hm : r.may = true := Ri.may_of k.hold
  have hn := Ri.holds_n k.hold
  by_cases h8 : l.length < 8
  · obtain ⟨r', h1, h2⟩ := Ri.holds_push k.hold hg h8
    have ht := St.tail_push hp hg hm h1
    rw [show ((0 : Nat) : Int) + 1 = 1 from rfl] at ht
    refine ⟨r', l ++ [(i : Int) + 1], ?_⟩
    rw [ht, k.ps]
    refine ⟨rfl, ?_, h2, ?_, fun x => ?_, fun hi => ?_⟩
    · rw [k.rest]
    · have := k.len
      simp only [List.length_append, List.length_singleton]
      omega
    · have := cnt_step (k.cnt x) (count_one i x)
      simp only [List.count_append]
      omega
    · obtain ⟨f1, f2⟩ := k.few (by omega)
      exact ⟨f1, by rw [f2, numsTo_succ]⟩
  · have hl8 : l.length = 8 := by omega
    have h1 := Ri.push_no k.hold (g := (i : Int) + 1) (.inr hl8)
    obtain ⟨r', h2, h3⟩ := Ri.half_holds k.hold
    have ht := St.tail_half hp hg hm h1 h2
    rw [show ((0 : Nat) : Int) + 1 = 1 from rfl] at ht
    refine ⟨r', l.drop ((l.length + 1) / 2), ?_⟩
    rw [ht, k.ps]
    have htd : ∀ x : Int, (l.take ((l.length + 1) / 2)).count x + (l.drop ((l.length + 1) / 2)).count x = l.count x := fun x => by rw [← List.count_append, List.take_append_drop]
    refine ⟨rfl, ?_, h3, ?_, fun x => ?_, fun hi => ?_⟩
    · rw [k.rest]
    · have := k.len
      simp only [List.length_append, List.length_singleton, List.length_take, List.length_drop]
      omega
    · have := cnt_step (k.cnt x) (count_one i x)
      have := htd x
      simp only [List.count_append]
      omega
    · have := k.len
      omega
theorem SpK.few' {i : Nat} {s : St} {r : Ri} {l : List Int} (k : SpK i s r l) (hi : i ≤ 60) : StFew s := by
  have hl := k.len
  rw [k.rest]
  refine ⟨⟨Nat.zero_le _, by simp [St.nil]⟩, Nat.zero_le _, ?_, Nat.zero_le _, ?_, ⟨Nat.zero_le _, Nat.zero_le _, Nat.zero_le _, Nat.zero_le _⟩, Nat.zero_le _, by simp [St.nil]⟩
  · show s.ps.length ≤ _
    rw [k.ps]; exact Nat.le_of_ble_eq_true rfl
  · show s.glob.length ≤ _
    omega
theorem SpK.buf {i : Nat} {s : St} {r : Ri} {l : List Int} (k : SpK i s r l) : ∀ p ∈ s.ps, p.ring.buf.length = 8 := by
  rw [k.ps]
  intro p hp
  obtain rfl : p = ⟨0, 0, r, 0⟩ := by simpa using hp
  exact Ri.holds_len k.hold
theorem SpK.once {i : Nat} {s : St} {r : Ri} {l : List Int} (k : SpK i s r l) {j : Nat} (h1 : 1 ≤ j) (h2 : j ≤ i) : St.times (s.glob ++ l) (j : Int) = 1 := by
  unfold St.times
  rw [List.count_append, k.cnt, if_pos (by omega)]
end Go.Proofs.Ytogcfndhcphpaaa

/-
  The walk of the statement ReadySpill.
-/

set_option linter.unusedVariables false
set_option linter.unusedSimpArgs false
namespace Go.Proofs.Ytogcfndhcphpaaa
open Go.RowKit
set_option maxRecDepth 100000 in
theorem make_p1 (w : World) : (Instr.makeSlice 25 (.int .i64 1) (.int .i64 1)).run Try.prog w = .ok (.slice (some ⟨w.heap.size, 0, none⟩) 1 1) (w.alloc (.cells (madeCells #[.int .i64 0, .int .i64 0, .int .i64 0, .int .i64 0, .int .i64 0, .int .i64 0, .int .i64 0, .int .i64 0, .int .i64 0, .int .i64 0, .int .i64 0, .int .i64 0, .int .i64 0] 13) 40)) := by
  obtain ⟨i0, I0, I1, I2, I3⟩ := info_parts Try.infoP
  have := run_make (P := Try.prog) w 25 40 i0 (.agg #[.int .i64 0, .int .i64 0, .int .i64 0, .int .i64 0, .int .i64 0, .int .i64 0, .int .i64 0, .int .i64 0, .int .i64 0, .int .i64 0, .int .i64 0, .int .i64 0, .int .i64 0]) Try.underlying25 I0 I1 .i64 .i64 1 1 (by omega) (by omega) (by rw [I3]; decide) (by omega)
  rw [I2] at this
  exact this
theorem p13_cells : madeCells #[.int .i64 0, .int .i64 0, .int .i64 0, .int .i64 0, .int .i64 0, .int .i64 0, .int .i64 0, .int .i64 0, .int .i64 0, .int .i64 0, .int .i64 0, .int .i64 0, .int .i64 0] 13 = (pL nilPr).toArray := by kernel_rfl
def StH.one (q : Nat) : StH := { StH.nil with qa := some ⟨q, 0, none⟩, qc := 1 }
theorem StOk.one {w : World} {q : Nat} (hq : w.heap[q]? = some (.cells (madeCells #[.int .i64 0, .int .i64 0, .int .i64 0, .int .i64 0, .int .i64 0, .int .i64 0, .int .i64 0, .int .i64 0, .int .i64 0, .int .i64 0, .int .i64 0, .int .i64 0, .int .i64 0] 13) 40 (0, 0))) : StOk w (StH.one q) { St.nil with ps := [nilPr] } := by
  have n := StOk.nil w
  refine ⟨n.prog, n.gs, ⟨_, _, rfl, Nat.le_refl 1, fun _ => ⟨q, 0, rfl, blk_lt hq, fun j x hj i u hu => ?_⟩⟩, n.ms, n.glob, n.w0, n.w1, n.w2, n.w3, n.timers, fun p hp => ?_⟩
  · match j with
    | 0 =>
      simp at hj; subst hj
      simp only [Nat.zero_mul, Nat.zero_add]
      refine blk_cell hq i u ?_
      have hi : i < 13 := (List.getElem?_eq_some_iff.1 hu).1
      rw [p13_cells, List.getElem?_toArray, hu]
    | j + 1 => simp at hj
  · obtain rfl : p = nilPr := by simpa using hp
    rfl
set_option maxRecDepth 100000 in
set_option maxHeartbeats 32000000 in
theorem walk_ReadySpill (n : Int) (w : World) (_ : (Lit.int .i64 n).wf = true) : Calls Try.prog 7 #[.int .i64 n] w fun e w' => e = .returned (.bool true) ∧ Ext w w' := by
  go_enter Try.func7, Try.ntmps7
  go_wp2_with fail
  refine (rfixed_yes w).mono ?_
  rintro e w2 ⟨rfl, hx2⟩
  have HX2 := Lib.hid hx2
  clear hx2
  by_cases a1 : n < 0
  · skip
    go_wp2_with fail
    refine (rfixed_yes _).mono ?_
    rintro e w9 ⟨rfl, hx9⟩
    have HX9 := Lib.hid (HX2.out.trans hx9)
    clear hx9
    go_wp2
    go_ret
    exact ⟨rfl, HX9.out⟩
  by_cases a2 : 60 < n
  · skip
    go_wp2_with fail
    refine (rfixed_yes _).mono ?_
    rintro e w9 ⟨rfl, hx9⟩
    have HX9 := Lib.hid (HX2.out.trans hx9)
    clear hx9
    go_wp2
    go_ret
    exact ⟨rfl, HX9.out⟩
  obtain ⟨N, rfl⟩ : ∃ N : Nat, n = (N : Int) := ⟨n.toNat, by omega⟩
  have hN : N ≤ 60 := by omega
  have d1 : decide ((N : Int) < 0) = false := decide_eq_false a1
  have d2 : decide (60 < (N : Int)) = false := decide_eq_false a2
  obtain ⟨q0, hq0⟩ : ∃ q0, w2.heap.size = q0 := ⟨_, rfl⟩
  obtain ⟨w3, hw3⟩ : ∃ w3, w2.alloc (.cells (madeCells #[.int .i64 0, .int .i64 0, .int .i64 0, .int .i64 0, .int .i64 0, .int .i64 0, .int .i64 0, .int .i64 0, .int .i64 0, .int .i64 0, .int .i64 0, .int .i64 0, .int .i64 0] 13) 40) = w3 := ⟨_, rfl⟩
  obtain ⟨B, hB⟩ : ∃ B, w3.heap.size = B := ⟨_, rfl⟩
  obtain ⟨w4, hw4⟩ : ∃ w4, w3.alloc (.cells (stC (StH.one q0) { St.nil with ps := [nilPr] }) 32) = w4 := ⟨_, rfl⟩
  obtain ⟨v0, hv0⟩ : ∃ v0, w4.heap.size = v0 := ⟨_, rfl⟩
  obtain ⟨w5, hw5⟩ : ∃ w5, w4.alloc (.cells #[] 3) = w5 := ⟨_, rfl⟩
  have x3 : Ext w2 w3 := by rw [← hw3]; exact (Ext.refl _).alloc _
  have x4 : Ext w3 w4 := by rw [← hw4]; exact (Ext.refl _).alloc _
  have x5 : Ext w4 w5 := by rw [← hw5]; exact (Ext.refl _).alloc _
  have hq3 : w3.heap[q0]? = some (.cells (madeCells #[.int .i64 0, .int .i64 0, .int .i64 0, .int .i64 0, .int .i64 0, .int .i64 0, .int .i64 0, .int .i64 0, .int .i64 0, .int .i64 0, .int .i64 0, .int .i64 0, .int .i64 0] 13) 40 (0, 0)) := by rw [← hw3, ← hq0]; exact blk_new w2 _
  have hb4 : w4.heap[B]? = some (.cells (stC (StH.one q0) { St.nil with ps := [nilPr] }) 32 (0, 0)) := by rw [← hw4, ← hB]; exact blk_new w3 _
  have HB5 := Lib.hid (x5.blk hb4)
  have HOK5 : Hid (StOk w5 (StH.one q0) { St.nil with ps := [nilPr] }) := Lib.hid (StOk.one ((x4.trans x5).blk hq3))
  have HOW5 : Hid (OwnInts w5 v0 (.slice (some ⟨v0, 0, none⟩) 0 0) (numsTo 0)) := Lib.hid (by rw [← hw5, ← hv0]; exact ints_made w4)
  have HX5 : Hid (Ext w2 w5) := Lib.hid (x3.trans (x4.trans x5))
  have HSZ : Hid (q0 < B ∧ B < v0 ∧ v0 < w5.heap.size ∧ w2.heap.size ≤ B) := Lib.hid ⟨by have := blk_lt hq3; omega, by have := blk_lt hb4; omega, by rw [← hw5, World.size_alloc]; omega, by have := blk_lt hq3; have := x3.size; omega⟩
  have hmk := make_p1 w2
  rw [hw3, hq0] at hmk
  have HW4 := Lib.hid hw4
  have HB := Lib.hid hB
  have HW5 := Lib.hid hw5
  have HV0 := Lib.hid hv0
  clear a1 a2 hq0 hw3 hB hw4 hv0 hw5 x3 x4 x5 hq3 hb4
  unfold stC StH.one at HW4
  simp only [StH.nil, St.nil, List.length_nil, List.length_singleton] at HW4
  go_upto_region 5 with (first | rw [HW4.out, HB.out] | rw [HW5.out, HV0.out])
  clear hmk d1 d2
  go_wp2_with fail
  go_loopw [4, 5] (fun ov iv wr => ∃ (k : Nat) (h : StH) (s : St) (r : Ri) (l : List Int) (A : Option Addr) (c : Nat), k ≤ N ∧ iv = .int .i64 ((k : Int) + 1) ∧ ov = .slice A k c ∧ wr.heap[B]? = some (.cells (stC h s) 32 (0, 0)) ∧ StOk wr h s ∧ SpK k s r l ∧ OwnInts wr v0 (.slice A k c) (numsTo k) ∧ Ext w2 wr ∧ v0 ≤ wr.heap.size) (fun _ iv _ => N + 1 - (intOf iv).toNat)
  case atStart => exact ⟨0, _, _, _, _, _, _, by omega, rfl, rfl, HB5.out, HOK5.out, SpK.start, HOW5.out, HX5.out, by have := HSZ.out; omega⟩
  case round =>
    obtain ⟨k, h, s, r, l, A, c, hk, rfl, rfl, hb, hok, hsp, how, hx, hsz⟩ := hrel
    have HBR := Lib.hid hb
    have HOK := Lib.hid hok
    have HSP := Lib.hid hsp
    have HOW := Lib.hid how
    have HX := Lib.hid hx
    have HSR := Lib.hid hsz
    clear hb hok hsp how hx hsz
    by_cases hlt : k < N
    · have c1 : decide ((k : Int) + 1 ≤ (N : Int)) = true := decide_eq_true (by omega)
      go_wp2_with (refine wpList_load_rowW (by rfl) 32 _ rfl B (by go_simp) (stL h s) (stV h s) rfl _ (range_row HBR.out) Try.underlying32 rfl (by kernel_rfl) ?_)
      refine (rdTail_any h s 1 _ wr HOK.out (HSP.out.few' (by omega))).mono ?_
      rintro e wa ⟨h', I, rfl, hap, hxa⟩
      obtain ⟨r', l', hsp'⟩ := HSP.out.next
      obtain ⟨s', hs'⟩ : ∃ s', s.tail 1 ((k : Int) + 1) = s' := ⟨_, rfl⟩
      rw [hs'] at hap hsp' ⊢
      obtain ⟨wb, hwb⟩ : ∃ wb, wa.setCells B 0 (stL h' s') = wb := ⟨_, rfl⟩
      have hba := hxa.blk HBR.out
      have HTH : Hid (wa.there B 0 (stL h' s').length) := Lib.hid (there_row hba (Nat.le_refl 16))
      have hbb : wb.heap[B]? = some (.cells (stC h' s') 32 (0, 0)) := by rw [← hwb]; exact setCells_at (stL h s) (stL h' s') rfl hba
      have hub : Upd B wa wb := by rw [← hwb]; exact setCells_upd _ _ _ _
      have hlB := HSZ.out
      have hlR := HSR.out
      have hapb : StApart wr.heap.size wb I h' s' := hap.far (But.upd (S := fun b => b = B) hub rfl) (fun b hb => by subst hb; have := blk_lt HBR.out; omega)
      have howb : OwnInts wb v0 (.slice A k c) (numsTo k) := (HOW.out.ext hxa).updB hub hlB.2.1
      have hxas := hxa.size
      have hubs := hub.size
      obtain ⟨A', c', v', hr, hq⟩ := GlobQ.more (n := k) (m := [(k : Int) + 1]) ((GlobQ.start howb).ext ((Ext.refl wb).alloc (.cells #[.int .i64 ((k : Int) + 1)] 3))) (numsTo_len k).symm rfl (ints_one wb _) (by omega) (by rw [numsTo_len]; simp; omega)
      have hown : ∀ b, (Value.slice A k c).ownBlock = some b → v0 ≤ b ∧ b < wr.heap.size := fun b hb => World.ownsRow.lt HOW.out b hb
      simp only [List.length_singleton] at hr
      have NB : Hid (v'.heap[B]? = some (.cells (stC h' s') 32 (0, 0))) := Lib.hid (hq.but.blk hbb (fun e => by have := hown B e; omega))
      have NA : Hid (StOk v' h' s') := Lib.hid ((hapb.far hq.but (fun b hb => .inl (hown b hb).2)).ok hsp'.buf)
      have NO : Hid (OwnInts v' v0 (.slice A' (k + 1) c') (numsTo (k + 1))) := Lib.hid (by rw [numsTo_succ]; exact hq.own)
      have NX : Hid (Ext w2 v') := Lib.hid (But.after ((HX.out.trans hxa).upd hub (by omega)) hq.but (fun b hb => by have := hown b hb; omega))
      have NS : Hid (v0 ≤ v'.heap.size) := Lib.hid (by have := hq.but.size; omega)
      have NSP := Lib.hid hsp'
      have HWB := Lib.hid hwb
      have HRA := Lib.hid hr
      have c2 : (k : Int) < 60 := by omega
      clear hap hxa hsp' hs' hwb hba hbb hub hlB hlR hapb howb hxas hubs hr hq hown
      go_wp2_with (first | (refine wpList_store_row rfl 32 _ _ rfl B (stL h' s') (stV h' s') (by go_simp) (by go_simp) rfl HTH.out (by kernel_rfl) (stL_one _ _) HWB.out ?_) | (at_builtin; refine wpList_append_run rfl _ _ 27 rfl _ _ (by go_simp) (by go_simp) HRA.out ?_))
      go_roundw
      case rel => exact ⟨k + 1, h', s', r', l', A', c', by omega, by go_num, rfl, NB.out, NA.out, NSP.out, NO.out, NX.out, NS.out⟩
      case measure => simp [intOf]; omega
    · obtain rfl : k = N := by omega
      have c1 : decide ((k : Int) + 1 ≤ (k : Int)) = false := decide_eq_false (by omega)
      have HLN : Hid (s.glob.length + l.length = k) := Lib.hid HSP.out.len
      obtain ⟨b0, b1, b2, b3, b4, b5, b6, b7, hd, nn, hr8⟩ := Ri.open8 (Ri.holds_len HSP.out.hold)
      have HRI : Hid (Ri.list ⟨[b0, b1, b2, b3, b4, b5, b6, b7], hd, nn⟩ = l) := Lib.hid (by rw [← hr8]; exact Ri.list_of HSP.out.hold)
      have HNN : Hid (nn ≤ 8) := Lib.hid (by have := Ri.holds_n HSP.out.hold; rw [hr8] at this; simp only at this; omega)
      have hps : s.ps[0]? = some ⟨0, 0, ⟨[b0, b1, b2, b3, b4, b5, b6, b7], hd, nn⟩, 0⟩ := by rw [HSP.out.ps, hr8]; rfl
      obtain ⟨bq, oq, hqa, hqb, hqc⟩ := ps_get HOK.out.ps hps
      have hpl : s.ps.length = 1 := by rw [HSP.out.ps]; rfl
      have K2 : Hid (∀ v, Ext wr v → v.cell? ⟨B, 2, none⟩ = some (.slice (some ⟨bq, oq, none⟩) 1 h.qc)) := Lib.hid fun v hv => by have := st2 (hv.blk HBR.out); rw [hqa, hpl] at this; exact this
      have K4 : Hid (∀ v, Ext wr v → v.cell? ⟨B, 4, none⟩ = some (.slice h.la s.glob.length h.lc)) := Lib.hid fun v hv => st4 (hv.blk HBR.out)
      simp only [Nat.zero_mul, Nat.add_zero] at hqc
      have HQC := Lib.hid hqc
      have HQB := Lib.hid hqb
      have q2 := K2.out wr (Ext.refl _)
      clear hr8 hps hqa hqb hqc hpl
      go_upto_region 12 with fail
      clear q2 c1
      refine region_rgw ([(0, (fun u => ∃ g, u = .slice (some ⟨g, 0, none⟩) 0 0 : Value → Prop), (fun u w => OwnG wr w (u 0).v [] [u 0] : (Nat → GV) → World → Prop)), (3, (fun u => ∃ A c, u = .slice A s.glob.length c : Value → Prop), (fun u w => OwnG wr w (u 3).v s.glob [u 3, u 0] : (Nat → GV) → World → Prop)), (9, (fun u => ∃ A c, u = .slice A l.length c : Value → Prop), (fun u w => OwnG wr w (u 9).v l [u 9] : (Nat → GV) → World → Prop)), (10, (fun u => ∃ A c, u = .slice A k c : Value → Prop), (fun u w => OwnG wr w (u 10).v (s.glob ++ l) [u 10, u 3, u 0] : (Nat → GV) → World → Prop))]) (wr) ([(3, 0, [0]), (10, s.glob.length, [3, 0])]) (by kernel_rfl) (by kernel_rfl) ?_ ?_ ?_ ?_
      · exact List.forall_mem_cons.2 ⟨List.forall_mem_cons.2 ⟨by kernel_rfl, List.forall_mem_nil _⟩, List.forall_mem_cons.2 ⟨List.forall_mem_cons.2 ⟨by kernel_rfl, List.forall_mem_cons.2 ⟨by kernel_rfl, List.forall_mem_nil _⟩⟩, List.forall_mem_nil _⟩⟩
      · exact List.forall_mem_cons.2 ⟨⟨⟨_, 0, rfl⟩, fun u v w h ht => by show (fun u w => OwnG wr w (u 0).v [] [u 0] : (Nat → GV) → World → Prop) v w; dsimp only; rw [← h 0 (.inl rfl) (by kernel_rfl)]; exact ht, fun u w w2 hx ht => ht.ext hx, List.forall_mem_cons.2 ⟨fun _ hp => by first | (intro u w w2 hap haq hc ht; refine ht.chg hc ?_; simp; done) | exact rg_vac hp (by kernel_rfl), List.forall_mem_cons.2 ⟨fun _ hp => by first | (intro u w w2 hap haq hc ht; refine ht.chg hc ?_; simp; done) | exact rg_vac hp (by kernel_rfl), List.forall_mem_nil _⟩⟩⟩, List.forall_mem_cons.2 ⟨⟨⟨_, none, 0, rfl⟩, fun u v w h ht => by show (fun u w => OwnG wr w (u 3).v s.glob [u 3, u 0] : (Nat → GV) → World → Prop) v w; dsimp only; rw [← h 3 (.inl rfl) (by kernel_rfl), ← h 0 (.inr (by kernel_rfl)) (by kernel_rfl)]; exact ht, fun u w w2 hx ht => ht.ext hx, List.forall_mem_cons.2 ⟨fun hne => absurd rfl hne, List.forall_mem_cons.2 ⟨fun _ hp => by first | (intro u w w2 hap haq hc ht; refine ht.chg hc ?_; simp; done) | exact rg_vac hp (by kernel_rfl), List.forall_mem_nil _⟩⟩⟩, List.forall_mem_cons.2 ⟨⟨⟨_, none, 0, rfl⟩, fun u v w h ht => by show (fun u w => OwnG wr w (u 9).v l [u 9] : (Nat → GV) → World → Prop) v w; dsimp only; rw [← h 9 (.inl rfl) (by kernel_rfl)]; exact ht, fun u w w2 hx ht => ht.ext hx, List.forall_mem_cons.2 ⟨fun _ hp => by first | (intro u w w2 hap haq hc ht; (refine ht.far hc ?_; simpa using hap); done) | exact rg_vac hp (by kernel_rfl), List.forall_mem_cons.2 ⟨fun _ hp => by first | (intro u w w2 hap haq hc ht; (refine ht.far hc ?_; simpa using hap); done) | exact rg_vac hp (by kernel_rfl), List.forall_mem_nil _⟩⟩⟩, List.forall_mem_cons.2 ⟨⟨⟨_, none, 0, rfl⟩, fun u v w h ht => by show (fun u w => OwnG wr w (u 10).v (s.glob ++ l) [u 10, u 3, u 0] : (Nat → GV) → World → Prop) v w; dsimp only; rw [← h 10 (.inl rfl) (by kernel_rfl), ← h 3 (.inr (by kernel_rfl)) (by kernel_rfl), ← h 0 (.inr (by kernel_rfl)) (by kernel_rfl)]; exact ht, fun u w w2 hx ht => ht.ext hx, List.forall_mem_cons.2 ⟨fun _ hp => by first | (intro u w w2 hap haq hc ht; refine ht.chg hc ?_; simp; done) | exact rg_vac hp (by kernel_rfl), List.forall_mem_cons.2 ⟨fun hne => absurd rfl hne, List.forall_mem_nil _⟩⟩⟩, List.forall_mem_nil _⟩⟩⟩⟩
      · first | assumption | exact Ext.refl _
      refine rg_mem (fun u => ∃ g, u = .slice (some ⟨g, 0, none⟩) 0 0 : Value → Prop) (fun u w => OwnG wr w (u 0).v [] [u 0] : (Nat → GV) → World → Prop) (fun _ => Ext) rfl rfl rfl rfl (by kernel_rfl) (by kernel_rfl) (fun w hS hN R hR => ?_) ?_
      · have HR := Lib.hid hR
        clear hR
        (try clear hN)
        go_simp
        exact givesM_val (HR.out _ _ ⟨_, rfl⟩ (OwnG.made hS _) ((Ext.refl w).alloc _))
      rintro u0 s0 t0 ⟨g0, rfl⟩
      refine rg_pure (v := ?_) rfl (by kernel_rfl) (by kernel_rfl) (fun w hS hN => ?_) ?_
      rotate_left 1
      · clear hN
        go_simp
        refine givesP_mk ?_
        with_reducible rfl
      refine rg_pure (v := ?_) rfl (by kernel_rfl) (by kernel_rfl) (fun w hS hN => ?_) ?_
      rotate_left 1
      · have k1 := K4.out w hS
        clear hN
        go_simp
        refine givesP_mk ?_
        with_reducible rfl
      refine rg_mem (fun u => ∃ A c, u = .slice A s.glob.length c : Value → Prop) (fun u w => OwnG wr w (u 3).v s.glob [u 3, u 0] : (Nat → GV) → World → Prop) (fun u => ChgIn (wr) (0) ([0].map u)) rfl rfl rfl rfl (by kernel_rfl) (by kernel_rfl) (fun w hS hN R hR => ?_) ?_
      · have HR := Lib.hid hR
        clear hR
        have h3 : OwnG wr w (.slice (some ⟨g0, 0, none⟩) 0 0) [] _ := hN.get 0 rfl (by kernel_rfl)
        have hln := HLN.out
        obtain ⟨u', w', hr, ⟨A', c', rfl⟩, ho, hin, hc⟩ := OwnInts.append_chg 27 hS h3.1 h3.2 ((HOK.out.ext hS).glob) (by simp; omega)
        simp only [List.length_nil, Nat.zero_add, List.nil_append] at hr ho hin hc
        refine givesM_append _ _ 27 rfl _ _ (by go_simp) (by go_simp) hr ?_
        exact HR.out _ _ ⟨_, _, rfl⟩ ⟨ho, hin⟩ hc
      rintro u3 s3 t3 ⟨A3, c3, rfl⟩
      refine rg_pure (v := ?_) rfl (by kernel_rfl) (by kernel_rfl) (fun w hS hN => ?_) ?_
      rotate_left 1
      · clear hN
        go_simp
        refine givesP_mk ?_
        with_reducible rfl
      refine rg_pure (v := ?_) rfl (by kernel_rfl) (by kernel_rfl) (fun w hS hN => ?_) ?_
      rotate_left 1
      · have k1 := K2.out w hS
        clear hN
        go_simp
        refine givesP_mk ?_
        with_reducible rfl
      refine rg_pure (v := ?_) rfl (by kernel_rfl) (by kernel_rfl) (fun w hS hN => ?_) ?_
      rotate_left 1
      · clear hN
        go_simp
        refine givesP_mk ?_
        with_reducible rfl
      refine rg_pure (v := ?_) rfl (by kernel_rfl) (by kernel_rfl) (fun w hS hN => ?_) ?_
      rotate_left 1
      · clear hN
        go_simp
        refine givesP_mk ?_
        with_reducible rfl
      refine rg_pure (v := ?_) rfl (by kernel_rfl) (by kernel_rfl) (fun w hS hN => ?_) ?_
      rotate_left 1
      · obtain ⟨⟨p0, p1, p2, p3, p4, p5, p6⟩, p7, p8, p9, p10, p11, p12⟩ := HQC.out
        rw [← bcell hS _ _ HQB.out] at p0 p1 p2 p3 p4 p5 p6 p7 p8 p9 p10 p11 p12
        clear hN
        go_simp
        refine givesP_mk ?_
        with_reducible rfl
      refine rg_mem (fun u => ∃ A c, u = .slice A l.length c : Value → Prop) (fun u w => OwnG wr w (u 9).v l [u 9] : (Nat → GV) → World → Prop) (fun _ => Ext) rfl rfl rfl rfl (by kernel_rfl) (by kernel_rfl) (fun w hS hN R hR => ?_) ?_
      · have HR := Lib.hid hR
        clear hR
        (try clear hN)
        go_simp
        refine givesM_call ((rrlist_k b0 b1 b2 b3 b4 b5 b6 b7 hd nn l HRI.out w).mono ?_)
        rintro e w' ⟨v, rfl, ho, hx⟩
        obtain ⟨A', c', rfl⟩ := OwnInts.form ho
        exact ⟨_, rfl, HR.out _ _ ⟨_, _, rfl⟩ ⟨OwnInts.lower ho hS.size, InB.of_lt fun k hk => World.ownsRow.lt ho k hk⟩ hx⟩
      rintro u9 s9 t9 ⟨A9, c9, rfl⟩
      refine rg_mem (fun u => ∃ A c, u = .slice A k c : Value → Prop) (fun u w => OwnG wr w (u 10).v (s.glob ++ l) [u 10, u 3, u 0] : (Nat → GV) → World → Prop) (fun u => ChgIn (wr) (s.glob.length) ([3, 0].map u)) rfl rfl rfl rfl (by kernel_rfl) (by kernel_rfl) (fun w hS hN R hR => ?_) ?_
      · have HR := Lib.hid hR
        clear hR
        have h5 : OwnG wr w (.slice A3 s.glob.length c3) s.glob _ := hN.get 3 rfl (by kernel_rfl)
        have h14 : OwnG wr w (.slice A9 l.length c9) l _ := hN.get 9 rfl (by kernel_rfl)
        have hln := HLN.out
        obtain ⟨u', w', hr, ⟨A', c', rfl⟩, ho, hin, hc⟩ := OwnInts.append_chg 27 hS h5.1 h5.2 h14.ints (by omega)
        refine givesM_append _ _ 27 rfl _ _ (by go_simp) (by go_simp) hr ?_
        refine HR.out _ _ ⟨A', c', by rw [HLN.out]⟩ ⟨ho, hin⟩ hc
      rintro u10 s10 t10 ⟨A10, c10, rfl⟩
      refine rg_pure (v := ?_) rfl (by kernel_rfl) (by kernel_rfl) (fun w hS hN => ?_) ?_
      rotate_left 1
      · clear hN
        go_simp
        refine givesP_mk ?_
        with_reducible rfl
      refine rg_done rfl (Nat.le_of_ble_eq_true (by kernel_rfl)) ?_
      intro w8 hS hT
      have hG : OwnG wr w8 (.slice A10 k c10) (s.glob ++ l) _ := hT (10, ⟨.slice A10 k c10, s10, t10⟩) (by simp)
      have HXS := Lib.hid hS
      have HIA : Hid (IntsAt w8 (.slice A10 k c10) (s.glob ++ l)) := Lib.hid (by have := hG.ints; rw [List.length_append, HLN.out] at this; exact this)
      clear hT hS hG
      go_simp
      go_wp2_with fail
      go_loopw [7] (fun iv v => ∃ j : Nat, j ≤ k ∧ iv = .int .i64 ((j : Int) + 1) ∧ Ext w8 v) (fun iv _ => k + 1 - (intOf iv).toNat)
      case atStart => exact ⟨0, Nat.zero_le _, rfl, Ext.refl _⟩
      case round =>
        obtain ⟨j, hj, rfl, hx⟩ := hrel
        have HXJ := Lib.hid hx
        clear hx
        have hlen : (s.glob ++ l).length = k := by rw [List.length_append]; exact HLN.out
        by_cases hlt2 : j < k
        · have c1 : decide ((j : Int) + 1 ≤ (k : Int)) = true := decide_eq_true (by omega)
          have c2 : (j : Int) < 60 := by omega
          have h1 := HSP.out.once (j := j + 1) (by omega) (by omega)
          rw [show ((j + 1 : Nat) : Int) = (j : Int) + 1 by omega] at h1
          have HT := Lib.hid (rtimes_any _ (s.glob ++ l) ((j : Int) + 1) wr (HIA.out.ext HXJ.out) (by omega))
          rw [h1] at HT
          clear h1 hlen
          go_wp2_with fail
          refine HT.out.mono ?_
          rintro e w' ⟨rfl, rfl⟩
          go_wp2
          go_roundw
          case rel => exact ⟨j + 1, by omega, by go_num, HXJ.out⟩
          case measure => simp [intOf]; omega
        · obtain rfl : j = k := by omega
          have c1 : decide ((j : Int) + 1 ≤ (j : Int)) = false := decide_eq_false (by omega)
          have hxj := HXS.out.trans HXJ.out
          have q2 := K2.out _ hxj
          have q4 := K4.out _ hxj
          have p11 := HQC.out.2.2.2.2.2.1
          rw [← bcell hxj _ _ HQB.out] at p11
          have d9 : decide (nn ≤ 8) = true := decide_eq_true HNN.out
          have c3 : (j : Int) ≤ 60 := by omega
          have HFX := Lib.hid (HX2.out.trans (HX.out.trans hxj))
          by_cases h8 : 8 < j
          · have d8 : decide (8 < (j : Int)) = true := decide_eq_true (by omega)
            clear hxj hlen
            go_wp2
            go_ret
            exact ⟨rfl, HFX.out⟩
          · have d8 : decide (8 < (j : Int)) = false := decide_eq_false (by omega)
            obtain ⟨f1, f2⟩ := HSP.out.few (by omega)
            rw [f1] at q4
            simp only [List.length_nil] at q4
            have HIN := Lib.hid (rints_eq _ _ (s.glob ++ l) (numsTo j) true (by rw [f1, f2]; simp) wr (HIA.out.ext HXJ.out) (HOW.out.at.2.ext hxj) (by omega))
            clear hxj hlen f1 f2
            go_wp2_with fail
            refine HIN.out.mono ?_
            rintro e wz ⟨rfl, hz⟩
            have hxz := HXS.out.trans (HXJ.out.trans hz)
            have q2' := K2.out _ hxz
            have p11' := HQC.out.2.2.2.2.2.1
            rw [← bcell hxz _ _ HQB.out] at p11'
            have HFZ := Lib.hid (HFX.out.trans hz)
            clear hxz hz q2 q4 p11
            go_wp2
            go_ret
            exact ⟨rfl, HFZ.out⟩
end Go.Proofs.Ytogcfndhcphpaaa

