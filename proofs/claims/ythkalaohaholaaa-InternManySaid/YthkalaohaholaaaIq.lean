/-
  The walk of the statement InternMany.
-/
import Derived.Test.YthkalaohaholaaaIp
set_option linter.unusedVariables false
set_option linter.unusedSimpArgs false
namespace Go.Proofs.Ythkalaohaholaaa
open Go.RowKit Go.Maps

namespace Tb
def xs (i : Nat) : ByteArray := ⟨(List.replicate i 120).toArray⟩
theorem xs_size (i : Nat) : (xs i).size = i := by simp [xs, ByteArray.size]
theorem xs_inj {i j : Nat} (h : xs i = xs j) : i = j := by rw [← xs_size i, ← xs_size j, h]
theorem xs_next (i : Nat) : xs i ++ ⟨#[120]⟩ = xs (i + 1) := by
  apply ByteArray.ext
  rw [ByteArray.data_append]
  apply Array.toList_inj.1
  rw [Array.toList_append]
  simp only [xs]
  rw [List.replicate_succ']
def xl (n : Nat) : List ByteArray := (List.range n).map fun i => xs (i + 1)
theorem xl_len (n : Nat) : (xl n).length = n := by simp [xl]
theorem xl_next (n : Nat) : xl (n + 1) = xl n ++ [xs (n + 1)] := by simp [xl, List.range_succ]
theorem xl_mem {n i : Nat} : xs (i + 1) ∈ xl n ↔ i < n := by
  unfold xl
  rw [List.mem_map]
  constructor
  · rintro ⟨j, hj, he⟩
    have := xs_inj he
    have := List.mem_range.1 hj
    omega
  · intro h; exact ⟨i, List.mem_range.2 h, rfl⟩
theorem xl_ok : ∀ n : Nat, n ≤ 40 → okS (xl n) = true
  | 0, _ => by rfl
  | n + 1, h => by
    rw [xl_next, okS_snoc, xl_ok n (by omega)]
    have h1 : mayS (xs (n + 1)) = true := by unfold mayS; rw [xs_size]; exact decide_eq_true ⟨by omega, by omega⟩
    have h2 : xs (n + 1) ∉ xl n := fun hm => by have := xl_mem.1 hm; omega
    rw [h1, decide_eq_true h2]
    rfl
def xt (n : Nat) : Tb := ⟨xl n, []⟩
theorem xt_may {n : Nat} (h : n ≤ 40) : (xt n).may = true := by
  unfold may xt
  simp only [xl_ok n h, xl_len]
  rw [decide_eq_true ⟨by omega, by simp⟩]
  rfl
theorem xs_ne (i : Nat) : xs (i + 1) ≠ ⟨#[]⟩ := fun h => by have := congrArg ByteArray.size h; rw [xs_size] at this; simp [ByteArray.size] at this
theorem xt_new {i : Nat} (h : i < 40) : (xt i).string (xs (i + 1)) = (xt (i + 1), (i : Int) + 1) := by
  have h2 : xs (i + 1) ∉ xl i := fun hm => by have := xl_mem.1 hm; omega
  have h1 : mayS (xs (i + 1)) = true := by unfold mayS; rw [xs_size]; exact decide_eq_true ⟨by omega, by omega⟩
  have ht : text (xt i).ss (xs (i + 1)) = (xl (i + 1), (i : Int) + 1) := by
    show text (xl i) _ = _
    unfold text
    rw [if_neg h2, if_pos ⟨h1, by rw [xl_len]; omega⟩, xl_len, xl_next]
  unfold string
  rw [if_pos (xt_may (by omega)), if_neg (xs_ne i), ht, if_neg (by simp only; omega)]
  rfl
theorem xl_idx : ∀ (n i : Nat), i < n → idx (xl n) (xs (i + 1)) = (i : Int) + 1
  | 0, i, h => by omega
  | n + 1, i, h => by
    rw [xl_next]
    by_cases hi : i < n
    · rw [idx_app (xl_mem.2 hi), xl_idx n i hi]
    · have : i = n := by omega
      subst this
      rw [idx_snoc (fun hm => by have := xl_mem.1 hm; omega), if_pos rfl, xl_len]
theorem xt_old {n i : Nat} (h : n ≤ 40) (hi : i < n) : (xt n).string (xs (i + 1)) = (xt n, (i : Int) + 1) := by
  have ht : text (xt n).ss (xs (i + 1)) = (xl n, (i : Int) + 1) := by
    show text (xl n) _ = _
    rw [text_again (xl_mem.2 hi), xl_idx n i hi]
  unfold string
  rw [if_pos (xt_may h), if_neg (xs_ne i), ht, if_neg (by simp only; omega)]
  rfl
/-- How many strings a table holds in which round. -/
def xh (k n i : Nat) : Nat := if k = 0 then i else n
theorem xt_step {k n i : Nat} (h : n ≤ 40) (hi : i < n) : (xt (xh k n i)).string (xs (i + 1)) = (xt (xh k n (i + 1)), (i : Int) + 1) := by
  unfold xh
  split
  · exact xt_new (by omega)
  · exact xt_old h hi
end Tb
/-- A table without stacks stays where a box of slices is written. -/
theorem xt_upd {w w' : World} {p : Nat} {A B C D : Option Addr} {n c m d n1 c1 m1 d1 i : Nat} (h : TabAt w (.agg #[.slice A n c, .slice B m d]) (Tb.xt i)) (hp : w.heap[p]? = some (.cells #[.slice C n1 c1, .slice D m1 d1] 25 (0, 0))) (hu : Upd p w w') : TabAt w' (.agg #[.slice A n c, .slice B m d]) (Tb.xt i) := by
  obtain ⟨sv, kv, hv, h1, h2⟩ := h
  simp only [Value.agg.injEq, Array.mk.injEq, List.cons.injEq, and_true] at hv
  obtain ⟨rfl, rfl⟩ := hv
  refine ⟨_, _, rfl, ?_, ?_⟩
  · obtain ⟨A', c', hv, hc, hA⟩ := h1
    refine ⟨A', c', hv, hc, fun h0 => ?_⟩
    obtain ⟨b, o, hb, hlt, hcell⟩ := hA h0
    have hbp : b ≠ p := by
      rintro rfl
      have hx := hcell 0 _ (List.getElem?_eq_getElem h0) 0 _ rfl
      rw [cell_of_row w b _ _ _ _ hp] at hx
      match o, hx with
      | 0, hx => simp at hx
      | 1, hx => simp at hx
      | o + 2, hx => simp at hx
    exact ⟨b, o, hb, Nat.lt_of_lt_of_le hlt hu.size, fun j x hj i u hu' => (World.cell?_of_block (hu.block b hlt fun e => hbp (by injection e))).trans (hcell j x hj i u hu')⟩
  · obtain ⟨vs, hl, hr, _⟩ := h2
    obtain rfl : vs = [] := List.eq_nil_of_length_eq_zero hl
    obtain ⟨A', c', hv, hc, _⟩ := hr
    exact ⟨[], rfl, ⟨A', c', hv, hc, fun h => by simp at h⟩, fun i u xs h => by simp at h⟩
/-- What lies in the box. -/
def XBox (w : World) (p i : Nat) : Prop := ∃ A n c B m d, w.heap[p]? = some (.cells #[.slice A n c, .slice B m d] 25 (0, 0)) ∧ n = i ∧ TabAt w (.agg #[.slice A n c, .slice B m d]) (Tb.xt i)
set_option maxRecDepth 100000 in
set_option maxHeartbeats 8000000 in
theorem imany_in (n : Nat) (w : World) (hn : n ≤ 40) :
    Calls Try.prog 6 #[.int .i64 n] w fun e w' => e = .returned (.bool true) ∧ Ext w w' := by
  go_enter Try.func6, Try.ntmps6
  go_wp2_with fail
  refine (ifixed_yes _).mono ?_
  rintro e w1 ⟨rfl, hx1⟩
  obtain ⟨u1, hu1⟩ : ∃ u1, w1.alloc (.cells #[.slice none 0 0, .slice none 0 0] 25) = u1 := ⟨_, rfl⟩
  obtain ⟨p, hp⟩ : ∃ p, w1.heap.size = p := ⟨_, rfl⟩
  have HB1 : Hid (u1.heap[p]? = some (.cells #[.slice none 0 0, .slice none 0 0] 25 (0, 0))) := Lib.hid (by rw [← hu1, ← hp]; exact blk_new w1 _)
  have HX1 : Hid (Ext w u1) := Lib.hid (by rw [← hu1]; exact hx1.alloc _)
  have HP : Hid (w.heap.size ≤ p) := Lib.hid (by have := hx1.size; omega)
  have HU1 := Lib.hid hu1
  have HPE := Lib.hid hp
  clear hx1 hu1 hp
  go_wp2_with fail
  rw [HU1.out]
  go_loopw [4] (fun kv wr => ∃ k : Nat, k ≤ 2 ∧ kv = .int .i64 k ∧ XBox wr p (Tb.xh k n 0) ∧ Ext w wr) (fun kv _ => 2 - (intOf kv).toNat)
  case atStart => exact ⟨0, by omega, rfl, ⟨_, _, _, _, _, _, HB1.out, rfl, tabAt_none _⟩, HX1.out⟩
  case round =>
    obtain ⟨k, hk, rfl, hxb, hx⟩ := hrel
    have HXB := Lib.hid hxb
    have HX := Lib.hid hx
    clear hxb hx
    obtain ⟨wo, rfl⟩ : ∃ wo, wo = wr := ⟨_, rfl⟩
    by_cases hlt : k < 2
    · have HLT := Lib.hid hlt
      go_wp2_with fail
      rename_i hA hK hB
      clear hlt hA
      go_loopw [5, 6] (fun sv iv wz => ∃ i : Nat, i ≤ n ∧ iv = .int .i64 ((i : Int) + 1) ∧ sv = .string (Tb.xs (i + 1)) ∧ XBox wz p (Tb.xh k n i) ∧ Ext w wz) (fun _ iv _ => n + 1 - (intOf iv).toNat)
      case atStart => exact ⟨0, by omega, by go_num, rfl, HXB.out, HX.out⟩
      case round =>
        clear HXB HX
        obtain ⟨i, hi, rfl, rfl, hxb, hx⟩ := hrel
        obtain ⟨A, nn, c, B, m, d, hb, hnn, ht⟩ := hxb
        have HB := Lib.hid hb
        have HT := Lib.hid ht
        have HX := Lib.hid hx
        have q0 : wr.cell? ⟨w1.heap.size, 0, none⟩ = some (.slice A nn c) := by rw [HPE.out]; exact blk_cell hb 0 _ rfl
        have q1 : wr.cell? ⟨w1.heap.size, 1, none⟩ = some (.slice B m d) := by rw [HPE.out]; exact blk_cell hb 1 _ rfl
        have HNN := Lib.hid hnn
        clear hb ht hx hnn
        by_cases hin : i < n
        · have hle : ((i : Int) + 1) ≤ (n : Int) := by omega
          have HCALL := Lib.hid (istr_k _ _ (Tb.xs (i + 1)) _ _ wr (Tb.xt_step (k := k) hn hin) HT.out (by show (Tb.xl _).length ≤ _; rw [Tb.xl_len]; unfold Tb.xh; split <;> omega) (by show ([] : List (List (Int × Int))).length ≤ _; simp) (by rw [Tb.xs_size]; unfold maxLen; omega))
          go_wp2_with fail
          refine HCALL.out.mono ?_
          rintro e w2 ⟨A2, k2, c2, B2, m2, d2, rfl, hk2, -, ht2, hx2⟩
          have hx3 := hx2.alloc (.cells #[.slice A2 k2 c2, .slice B2 m2 d2] 25)
          have HT3 := Lib.hid (ht2.ext ((Ext.refl w2).alloc (.cells #[.slice A2 k2 c2, .slice B2 m2 d2] 25)))
          have HB3 := Lib.hid (hx3.blk HB.out)
          have HX3 := Lib.hid (HX.out.trans hx3)
          obtain ⟨w3, hw3⟩ : ∃ w3, w2.alloc (.cells #[.slice A2 k2 c2, .slice B2 m2 d2] 25) = w3 := ⟨_, rfl⟩
          obtain ⟨z, hz⟩ : ∃ z, w2.heap.size = z := ⟨_, rfl⟩
          have HQ3 : Hid (w3.heap[z]? = some (.cells #[.slice A2 k2 c2, .slice B2 m2 d2] 25 (0, 0))) := Lib.hid (by rw [← hw3, ← hz]; exact blk_new w2 _)
          rw [hw3] at HT3 HB3 HX3
          have HW3 := Lib.hid hw3
          have HZ3 := Lib.hid hz
          have HK2 := Lib.hid hk2
          have HXN := Lib.hid (Tb.xs_next (i + 1))
          have r0 : w3.cell? ⟨w2.heap.size, 0, none⟩ = some (.slice A2 k2 c2) := by rw [hz]; exact blk_cell HQ3.out 0 _ rfl
          have r1 : w3.cell? ⟨w2.heap.size, 1, none⟩ = some (.slice B2 m2 d2) := by rw [hz]; exact blk_cell HQ3.out 1 _ rfl
          clear ht2 hx2 hx3 hw3 hz hk2 q0 q1
          have q0 : w3.cell? ⟨w1.heap.size, 0, none⟩ = some (.slice A nn c) := by rw [HPE.out]; exact blk_cell HB3.out 0 _ rfl
          have q1 : w3.cell? ⟨w1.heap.size, 1, none⟩ = some (.slice B m d) := by rw [HPE.out]; exact blk_cell HB3.out 1 _ rfl
          have y0 : w3.frozen? ⟨w1.heap.size, 0, none⟩ = false := by rw [HPE.out]; exact frozen_of_row _ _ 0 _ _ HB3.out
          have y1 : w3.frozen? ⟨w1.heap.size, 1, none⟩ = false := by rw [HPE.out]; exact frozen_of_row _ _ 1 _ _ HB3.out
          have hbe : ((((i : Int) + 1) != ((i : Int) + 1)) = false) := by simp
          have hcz := Tb.xs_size (i + 1)
          have hi40 : i < 40 := by omega
          go_wp2_with (rw [HW3.out])
          go_roundw
          case rel =>
            rw [HXN.out, HPE.out]
            have hu := upd2 p w3 (.slice A2 k2 c2) (.slice B2 m2 d2)
            exact ⟨i + 1, by omega, by go_num, rfl, ⟨A2, k2, c2, B2, m2, d2, set2_at HB3.out _ _, by rw [HK2.out]; exact Tb.xl_len _, xt_upd HT3.out HB3.out hu⟩, HX3.out.upd hu HP.out⟩
          case measure => simp [intOf]; omega
        · obtain rfl : i = n := by omega
          have hgt : ¬ ((i : Int) + 1 ≤ (i : Int)) := by omega
          go_wp2
          go_roundw
          case rel => exact ⟨k + 1, by have := HLT.out; omega, by go_num, ⟨A, nn, c, B, m, d, HB.out, by rw [HNN.out]; unfold Tb.xh; split <;> simp, by have h := HT.out; rw [show Tb.xh k i i = Tb.xh (k + 1) i 0 by unfold Tb.xh; split <;> simp] at h; exact h⟩, HX.out⟩
          case measure => have := HLT.out; simp [intOf]; omega
    · obtain rfl : k = 2 := by omega
      obtain ⟨A, nn, c, B, m, d, hb, hnn, ht⟩ := HXB.out
      have hnn' : nn = n := by rw [hnn]; rfl
      subst hnn'
      have HB := Lib.hid hb
      have HM := Lib.hid (imay_k _ _ true wo (Tb.xt_may hn) ht (by show (Tb.xl _).length ≤ _; rw [Tb.xl_len]; omega) (by show ([] : List (List (Int × Int))).length ≤ _; simp))
      have q0 : wo.cell? ⟨w1.heap.size, 0, none⟩ = some (.slice A nn c) := by rw [HPE.out]; exact blk_cell hb 0 _ rfl
      have q1 : wo.cell? ⟨w1.heap.size, 1, none⟩ = some (.slice B m d) := by rw [HPE.out]; exact blk_cell hb 1 _ rfl
      clear hb ht hnn
      go_wp2_with fail
      refine HM.out.mono ?_
      rintro e w9 ⟨rfl, hx9⟩
      go_wp2
      go_ret
      exact ⟨rfl, HX.out.trans hx9⟩

set_option maxRecDepth 100000 in
set_option maxHeartbeats 2000000 in
theorem imany_out (n : Int) (w : World) (hn : n < 0 ∨ 40 < n) :
    Calls Try.prog 6 #[.int .i64 n] w fun e w' => e = .returned (.bool true) ∧ Ext w w' := by
  rcases hn with hn | hn
  · go_enter Try.func6, Try.ntmps6
    go_wp2_with fail
    refine (ifixed_yes _).mono ?_
    rintro e w1 ⟨rfl, hx1⟩
    go_wp2_with fail
    refine (ifixed_yes _).mono ?_
    rintro e w2 ⟨rfl, hx2⟩
    go_wp2
    go_ret
    exact ⟨rfl, hx1.trans hx2⟩
  · go_enter Try.func6, Try.ntmps6
    go_wp2_with fail
    refine (ifixed_yes _).mono ?_
    rintro e w1 ⟨rfl, hx1⟩
    go_wp2_with fail
    refine (ifixed_yes _).mono ?_
    rintro e w2 ⟨rfl, hx2⟩
    go_wp2
    go_ret
    exact ⟨rfl, hx1.trans hx2⟩
theorem walk_InternMany (n : Int) (w : World) (_ : (Lit.int .i64 n).wf = true) :
    Calls Try.prog 6 #[.int .i64 n] w fun e w' => e = .returned (.bool true) ∧ Ext w w' := by
  by_cases h : n < 0 ∨ 40 < n
  · exact imany_out n w h
  · obtain ⟨k, rfl⟩ := Int.eq_ofNat_of_zero_le (show 0 ≤ n by omega)
    exact imany_in k w (by omega)

end Go.Proofs.Ythkalaohaholaaa
