/-
  Several texts in one: Nb, Nc, Nd, Ne, Nf, Ng, Nh, Ni, Nj, Nk, Nl, Rg, Sa, Ta, Rp, Rq.
-/
import Derived.Test.YtdcbaddndoilfaaE01
import Derived.RangeFuncBox
import Derived.RangeFuncLeaves
import Derived.RangeFuncNested
import Derived.RangeFuncBound
import Derived.RangeFuncCalls
import Derived.Shelf.Abstract
import Derived.Shelf.RegionOpen
import Derived.WalkKit
import Derived.OwnWalkIn
import Derived.TacticsInMore
import Derived.LoopNIn
import Derived.LoopIn
import Derived.ChangeKeysEq
import Derived.Deep.DeepCutAuto
import Derived.Maps.AppendAt
import Derived.Orders
import Derived.Deep.QuietTactic
import Derived.BigQuiet
set_option linter.unusedVariables false
set_option linter.unusedSimpArgs false
namespace Go.Proofs.Ytdcbaddndoilfaa
open Go.RowKit
open Go.RowKit Go.Shelf
attribute [local go_sem] Oper.semAt_some
def RingIn (g : Nat) (r : Ri) (W : World) : Prop := W.heap[g]? = some (.cells r.cells 75 (0, 0))
def KeepsAt (g : Nat) (W W' : World) : Prop := ∀ o, W.heap[g]? = some o → W'.heap[g]? = some o
abbrev encs2 (p : I8) : Array Value := #[.int .i64 p.1.1, .int .i64 p.1.2]
theorem RingIn.buf {g : Nat} {r : Ri} {W : World} (h : RingIn g r W) (hl : r.buf.length = 8) (j : Nat) (hj : j < 8) : W.cell? ⟨g, j, none⟩ = some (.int .i64 (r.buf[j]?.getD 0)) := blk_cell h j _ (Ri.cells_buf hl j hj)
theorem RingIn.head {g : Nat} {r : Ri} {W : World} (h : RingIn g r W) (hl : r.buf.length = 8) : W.cell? ⟨g, 8, none⟩ = some (.int .i64 r.head) ∧ W.cell? ⟨g, 9, none⟩ = some (.int .i64 r.n) := by
  obtain ⟨bs, hd, n⟩ := r
  obtain ⟨b0, b1, b2, b3, b4, b5, b6, b7, rfl⟩ := list8 hl
  exact ⟨blk_cell h 8 _ rfl, blk_cell h 9 _ rfl⟩
set_option maxRecDepth 100000 in
set_option maxHeartbeats 1000000 in
theorem elems1 (F : Fence) (n : Nat) (h18 : F.fn 111) (hro : F.round = none) (hn : 1 ≤ n) (l g hd nn : Nat) (bs : List Int) (hbs : bs.length = 8) (hhd : hd < 8) (hnn : nn ≤ 8) (J Jx : List I8 → World → Prop)
    (hY : ∀ pre x W, J pre W → pre.length < nn → YieldAt F (n - 1) Try.prog l (encs2 x) W fun e W' =>
      (e = .returned (.bool true) ∧ J (pre ++ [x]) W' ∧ KeepsAt g W W') ∨ (e = .returned (.bool false) ∧ Jx (pre ++ [x]) W'))
    (W : World) (hB : RingIn g ⟨bs, hd, nn⟩ W) (h0 : J [] W) :
    CallsIn F n Try.prog 111 #[.func (.yield l) #[] #[], .pointer (some ⟨g, 0, none⟩)] W fun e W' => (∃ v, e = .returned v) ∧
      ((∃ ys, ys = upto (Ri.pair hd bs) nn ∧ J ys W') ∨ (∃ pre, (∃ k, k ≤ nn ∧ pre = upto (Ri.pair hd bs) k) ∧ Jx pre W')) := by
  obtain ⟨hc8, hc9⟩ := hB.head hbs
  have HB := Lib.hid hB
  simp only at hc8 hc9
  refine callsIn_of_wp Try.func111 rfl h18 ?_ hro
  simp only [Try.ntmps111, List.size_toArray, List.length_cons, List.length_nil, Nat.reduceAdd, Nat.reduceSub, Array.replicate_succ, Array.replicate_zero, List.push_toArray, List.append_toArray, List.nil_append, List.cons_append]
  gi_wp2
  gi_loopw [7] (fun i wr => ∃ k : Nat, k ≤ nn ∧ i = .int .i64 k ∧ J (upto (Ri.pair hd bs) k) wr ∧ KeepsAt g W wr)
    (fun i _ => nn - (intOf i).toNat)
  case atStart => exact ⟨0, Nat.zero_le _, rfl, h0, fun _ h => h⟩
  case round =>
    obtain ⟨k, hk, rfl, hJs, hnx⟩ := hrel
    have HN : RingIn g ⟨bs, hd, nn⟩ wr := hnx _ HB.out
    have hcx : ∀ j, j < 8 → wr.cell? ⟨g, j, none⟩ = some (.int .i64 (bs[j]?.getD 0)) := fun j hj => HN.buf hbs j hj
    have hc8' : wr.cell? ⟨g, 8, none⟩ = some (.int .i64 (hd : Int)) := (HN.head hbs).1
    clear HN
    by_cases hlt : k < nn
    · obtain ⟨fn, tmps, assign, body, hy, hR⟩ := hY _ (Ri.pair hd bs k) wr hJs (by rw [upto_len]; exact hlt)
      have hat := hcx ((hd + k) % 8) (by omega)
      have e1 : IntKind.i64.wrap ((hd : Int) + (k : Int)) = ((hd + k : Nat) : Int) := IntWalk.i64_in _ (by omega)
      have e2 : ((hd + k : Nat) : Int).tmod 8 = (((hd + k) % 8 : Nat) : Int) := by rw [Int.tmod_eq_emod_of_nonneg (by omega)]; omega
      have e3 : (0 : Int) ≤ (((hd + k) % 8 : Nat) : Int) := by omega
      have e4 : (((hd + k) % 8 : Nat) : Int) < 8 := by omega
      dsimp only [encs2, Ri.pair] at hy
      clear hcx
      gi_wp2
      refine hR.mono ?_
      rintro e W3 (⟨rfl, hJ3, hk3⟩ | ⟨rfl, hJx3⟩)
      · gi_wp2
        go_roundw
        case rel => exact ⟨k + 1, by omega, by simp, by rw [upto_succ]; exact hJ3, fun o ho => hk3 o (hnx o ho)⟩
        case measure => simp [intOf]; omega
      · gi_wp2
        refine bodyPost_ret (results_none rfl _ _ _) rfl ?_
        exact ⟨⟨_, rfl⟩, .inr ⟨_, ⟨k + 1, by omega, (upto_succ _ _).symm⟩, hJx3⟩⟩
    · obtain rfl : k = nn := by omega
      gi_wp2
      go_end0
      exact ⟨⟨_, rfl⟩, .inl ⟨_, rfl, hJs⟩⟩
set_option maxRecDepth 100000 in
set_option maxHeartbeats 1000000 in
theorem elements_in (F : Fence) (n : Nat) (h17 : F.fn 103) (hro : F.round = none) (b0 b1 b2 b3 b4 b5 b6 b7 hd nn : Int) (w : World) :
    CallsIn F n Try.prog 103 #[.agg #[.int .i64 b0, .int .i64 b1, .int .i64 b2, .int .i64 b3, .int .i64 b4, .int .i64 b5, .int .i64 b6, .int .i64 b7, .int .i64 hd, .int .i64 nn]] w fun e w' =>
      e = .returned (.func (.func 111) #[] #[.pointer (some ⟨w.heap.size, 0, none⟩)]) ∧ w' = w.alloc (.cells #[.int .i64 b0, .int .i64 b1, .int .i64 b2, .int .i64 b3, .int .i64 b4, .int .i64 b5, .int .i64 b6, .int .i64 b7, .int .i64 hd, .int .i64 nn] 75) := by
  refine callsIn_of_wp Try.func103 rfl h17 ?_ hro
  simp only [Try.ntmps103, List.size_toArray, List.length_cons, List.length_nil, Nat.reduceAdd, Nat.reduceSub, Array.replicate_succ, Array.replicate_zero, List.push_toArray, List.append_toArray, List.nil_append, List.cons_append]
  gi_wp2
  go_ret
  exact ⟨rfl, rfl⟩
theorem elements_stops (F : Fence) (n : Nat) (h18 : F.fn 111) (hro : F.round = none) (hn : 1 ≤ n) (g hd nn : Nat) (bs : List Int) (hbs : bs.length = 8) (hhd : hd < 8) (hnn : nn ≤ 8) (w : World) (hg : g < w.heap.size) (hB : RingIn g ⟨bs, hd, nn⟩ w) :
    SeqStopsK F n Try.prog 111 #[.pointer (some ⟨g, 0, none⟩)] encs2 (KeepsAt g) (fun ys => ys = upto (Ri.pair hd bs) nn) (fun pre => ∃ k, k ≤ nn ∧ pre = upto (Ri.pair hd bs) k) nn w := fun l J Jx W hW _ _ hY h0 =>
  elems1 F n h18 hro hn l g hd nn bs hbs hhd hnn J Jx hY W ((hW.block g hg).trans hB) h0
open Go.RowKit Go.Shelf
attribute [local go_sem] Oper.semAt_some
set_option maxRecDepth 100000 in
set_option maxHeartbeats 1000000 in
theorem rmay_out (b0 b1 b2 b3 b4 b5 b6 b7 hd nn : Int) (w : World) (h : hd < 0 ∨ (0 ≤ hd ∧ (8 ≤ hd ∨ (hd < 8 ∧ (nn < 0 ∨ (0 ≤ nn ∧ 8 < nn)))))) :
    Calls Try.prog 89 #[.agg #[.int .i64 b0, .int .i64 b1, .int .i64 b2, .int .i64 b3, .int .i64 b4, .int .i64 b5, .int .i64 b6, .int .i64 b7, .int .i64 hd, .int .i64 nn]] w fun e w' => e = .returned (.bool false) ∧ Ext w w' := by
  have hzb := blk_new (w.alloc (.cells #[.int .i64 b0, .int .i64 b1, .int .i64 b2, .int .i64 b3, .int .i64 b4, .int .i64 b5, .int .i64 b6, .int .i64 b7, .int .i64 hd, .int .i64 nn] 75)) (.cells #[.bool false] 4)
  rw [World.size_alloc] at hzb
  have z0 := blk_cell hzb 0 (.bool false) rfl
  have y0 := frozen_of_row _ _ 0 _ _ hzb
  clear hzb
  rcases h with h | ⟨h1, h | ⟨h2, h | ⟨h3, h⟩⟩⟩
  all_goals
    go_enter Try.func89, Try.ntmps89
    go_wp2
    refine bodyPost_ret (v := .bool false) (by simp [results, Try.results89, go_sem]) rfl ⟨rfl, ?_⟩
    exact ((Ext.refl w).alloc _).alloc _
open Go.RowKit Go.Shelf
attribute [local go_sem] Oper.semAt_some
theorem keepsAt_t (g : Nat) {A B C : World} (h : KeepsAt g A B) (k : KeepsAt g B C) : KeepsAt g A C := fun o ho => k o (h o ho)
theorem keepsAt_b {g : Nat} {w : World} (hg : g < w.heap.size) (W : World) (l : Nat) (o o' : Obj) (hl : w.heap.size ≤ l) (_ : W.heap[l]? = some o) (_ : o.isCells = false) (_ : o.isWalk = false) : KeepsAt g W (W.putObj l o') :=
  fun _ h => (World.putObj_heap_other (by omega)).trans h
theorem keepsAt_set {g b : Nat} (W : World) (hne : b ≠ g) (i : Nat) (v : Value) : KeepsAt g W (W.setCell ⟨b, i, none⟩ v) := fun _ h => blk_set_other h _ hne v
theorem blk_own {β : Type} (B : Nat) (f : β → Obj) (hf : ∀ s, (f s).isCells = true) : Own (fun s (W : World) => W.heap[B]? = some (f s)) := fun s X Y row hs hg hrow =>
  (hg.block B (blk_lt hs) (fun e' => by obtain ⟨o, ho, hc⟩ := hrow B e'.symm; rw [hs] at ho; cases ho; rw [hf s] at hc; cases hc)).trans hs
def bufCells (bs : List Int) : Array Value := (bs.map (Value.int .i64)).toArray
theorem bufCells_at {bs : List Int} {j : Nat} (hj : j < bs.length) : (bufCells bs)[j]? = some (.int .i64 bs[j]) := by
  unfold bufCells; rw [List.getElem?_toArray, List.getElem?_map, List.getElem?_eq_getElem hj]; rfl
theorem bufCells_set (bs : List Int) (j : Nat) (x : Int) : (bufCells bs).setIfInBounds j (.int .i64 x) = bufCells (bs.set j x) := by
  unfold bufCells; rw [List.setIfInBounds_toArray, List.map_set]
theorem run_eqItems_ints (d : Nat) (f g : Nat → Int) (xs ys : Array Value) (w : World) : ∀ is : List Nat, (∀ i ∈ is, xs[i]? = some (.int .i64 (f i)) ∧ ys[i]? = some (.int .i64 (g i))) →
    (Op.eqItems (d + 1) 3 1 xs ys is).run Try.prog w = .ok (is.all fun i => f i == g i) w
  | [], _ => by simp [Op.eqItems]
  | i :: is, h => by
    obtain ⟨h1, h2⟩ := h i (by simp)
    have ih := run_eqItems_ints d f g xs ys w is fun j hj => h j (by simp [hj])
    have p1 := run_part_plain (P := Try.prog) w (e := 3) (by kernel_rfl) (xs := xs) (off := i * 1) (by rw [Nat.mul_one]; exact h1)
    have p2 := run_part_plain (P := Try.prog) w (e := 3) (by kernel_rfl) (xs := ys) (off := i * 1) (by rw [Nat.mul_one]; exact h2)
    simp only [Op.eqItems, Sem.run_bind, p1, p2, Result.andThen_ok, run_equalIn_int w d 3 .i64 .i64 (f i) (g i) Try.underlying3, List.all_cons]
    cases hb : (f i == g i) with
    | false => simp
    | true => simpa using ih
set_option maxRecDepth 100000 in
theorem run_eq8 (bs cs : List Int) (hb : bs.length = 8) (hc : cs.length = 8) (b : Bool) (h : decide (bs = cs) = b) (w : World) :
    (Op.equalIn 10000 73 (.agg (bufCells bs)) (.agg (bufCells cs))).run Try.prog w = .ok b w := by
  obtain ⟨i, hi⟩ := info_of_underlying Try.underlying3
  have e1 : Try.prog.cellsOf 3 = 1 := by kernel_rfl
  rw [show 10000 = 9998 + 1 + 1 from rfl, run_equalIn_array (P := Try.prog) w (9998 + 1) _ _ Try.underlying73 hi, e1]
  rw [run_eqItems_ints 9998 (fun i => bs[i]?.getD 0) (fun i => cs[i]?.getD 0) _ _ w _ fun j hj => by
    have hj' := List.mem_range.1 hj
    rw [bufCells_at (by omega), bufCells_at (by omega), List.getElem?_eq_getElem (by omega), List.getElem?_eq_getElem (by omega)]
    exact ⟨rfl, rfl⟩]
  obtain ⟨b0, b1, b2, b3, b4, b5, b6, b7, rfl⟩ := list8 hb
  obtain ⟨c0, c1, c2, c3, c4, c5, c6, c7, rfl⟩ := list8 hc
  subst h
  congr 1
  rw [Bool.eq_iff_iff]
  simp [List.range_succ, List.all_append]
set_option maxRecDepth 100000 in
set_option maxHeartbeats 2000000 in
theorem rmay_in (b0 b1 b2 b3 b4 b5 b6 b7 : Int) (hd nn : Nat) (hhd : hd < 8) (hnn : nn ≤ 8) (m : Bool) (hm : Ri.may ⟨[b0, b1, b2, b3, b4, b5, b6, b7], hd, nn⟩ = m) (w : World) :
    Calls Try.prog 89 #[.agg #[.int .i64 b0, .int .i64 b1, .int .i64 b2, .int .i64 b3, .int .i64 b4, .int .i64 b5, .int .i64 b6, .int .i64 b7, .int .i64 (hd : Int), .int .i64 (nn : Int)]] w fun e w' => e = .returned (.bool m) ∧ Ext w w' := by
  have hmi := Ri.may_iff hhd hnn (bs := [b0, b1, b2, b3, b4, b5, b6, b7]) rfl
  rw [hm] at hmi
  have HMI := Lib.hid hmi
  clear hmi hm
  have i0 : (0 : Int) ≤ (hd : Int) := by omega
  have i1 : (hd : Int) < 8 := by omega
  have i2 : (0 : Int) ≤ (nn : Int) := by omega
  have i3 : (nn : Int) ≤ 8 := by omega
  refine (callsIn_wide (n := 3)).1 ?_
  have h1 : 1 ≤ 3 := by omega
  refine callsIn_of_wp_marks Try.func89 rfl trivial ?_ rfl
  simp only [Try.ntmps89, List.size_toArray, List.length_cons, List.length_nil, Nat.reduceAdd, Nat.reduceSub, Array.replicate_succ, Array.replicate_zero, List.push_toArray, List.append_toArray, List.nil_append, List.cons_append]
  gi_wp2_with (refine ⟨trivial, ?_⟩; gi_at_call 103; refine (elements_in Fence.wide (3 - 1) trivial rfl _ _ _ _ _ _ _ _ _ _ _).mono ?_; rintro e w' ⟨rfl, rfl⟩)
  have hA1 : ((((w.alloc (.cells #[.int .i64 b0, .int .i64 b1, .int .i64 b2, .int .i64 b3, .int .i64 b4, .int .i64 b5, .int .i64 b6, .int .i64 b7, .int .i64 (hd : Int), .int .i64 (nn : Int)] 75)).alloc (.cells #[.bool false] 4)).alloc (.cells #[.int .i64 b0, .int .i64 b1, .int .i64 b2, .int .i64 b3, .int .i64 b4, .int .i64 b5, .int .i64 b6, .int .i64 b7] 73)).alloc (.cells #[.int .i64 b0, .int .i64 b1, .int .i64 b2, .int .i64 b3, .int .i64 b4, .int .i64 b5, .int .i64 b6, .int .i64 b7, .int .i64 (hd : Int), .int .i64 (nn : Int)] 75)).heap[(w.heap.size + 1)]? = some (.cells #[.bool false] 4 (0, 0)) := by
    have := blk_alloc (blk_alloc (blk_new (w.alloc (.cells #[.int .i64 b0, .int .i64 b1, .int .i64 b2, .int .i64 b3, .int .i64 b4, .int .i64 b5, .int .i64 b6, .int .i64 b7, .int .i64 (hd : Int), .int .i64 (nn : Int)] 75)) (.cells #[.bool false] 4)) (.cells #[.int .i64 b0, .int .i64 b1, .int .i64 b2, .int .i64 b3, .int .i64 b4, .int .i64 b5, .int .i64 b6, .int .i64 b7] 73)) (.cells #[.int .i64 b0, .int .i64 b1, .int .i64 b2, .int .i64 b3, .int .i64 b4, .int .i64 b5, .int .i64 b6, .int .i64 b7, .int .i64 (hd : Int), .int .i64 (nn : Int)] 75)
    rwa [World.size_alloc] at this
  have hA2 : ((((w.alloc (.cells #[.int .i64 b0, .int .i64 b1, .int .i64 b2, .int .i64 b3, .int .i64 b4, .int .i64 b5, .int .i64 b6, .int .i64 b7, .int .i64 (hd : Int), .int .i64 (nn : Int)] 75)).alloc (.cells #[.bool false] 4)).alloc (.cells #[.int .i64 b0, .int .i64 b1, .int .i64 b2, .int .i64 b3, .int .i64 b4, .int .i64 b5, .int .i64 b6, .int .i64 b7] 73)).alloc (.cells #[.int .i64 b0, .int .i64 b1, .int .i64 b2, .int .i64 b3, .int .i64 b4, .int .i64 b5, .int .i64 b6, .int .i64 b7, .int .i64 (hd : Int), .int .i64 (nn : Int)] 75)).heap[(w.heap.size + 1 + 1)]? = some (.cells (bufCells [b0, b1, b2, b3, b4, b5, b6, b7]) 73 (0, 0)) := by
    have := blk_alloc (blk_new ((w.alloc (.cells #[.int .i64 b0, .int .i64 b1, .int .i64 b2, .int .i64 b3, .int .i64 b4, .int .i64 b5, .int .i64 b6, .int .i64 b7, .int .i64 (hd : Int), .int .i64 (nn : Int)] 75)).alloc (.cells #[.bool false] 4)) (.cells #[.int .i64 b0, .int .i64 b1, .int .i64 b2, .int .i64 b3, .int .i64 b4, .int .i64 b5, .int .i64 b6, .int .i64 b7] 73)) (.cells #[.int .i64 b0, .int .i64 b1, .int .i64 b2, .int .i64 b3, .int .i64 b4, .int .i64 b5, .int .i64 b6, .int .i64 b7, .int .i64 (hd : Int), .int .i64 (nn : Int)] 75)
    rwa [World.size_alloc, World.size_alloc] at this
  have hA3 : RingIn (w.heap.size + 1 + 1 + 1) ⟨[b0, b1, b2, b3, b4, b5, b6, b7], hd, nn⟩ ((((w.alloc (.cells #[.int .i64 b0, .int .i64 b1, .int .i64 b2, .int .i64 b3, .int .i64 b4, .int .i64 b5, .int .i64 b6, .int .i64 b7, .int .i64 (hd : Int), .int .i64 (nn : Int)] 75)).alloc (.cells #[.bool false] 4)).alloc (.cells #[.int .i64 b0, .int .i64 b1, .int .i64 b2, .int .i64 b3, .int .i64 b4, .int .i64 b5, .int .i64 b6, .int .i64 b7] 73)).alloc (.cells #[.int .i64 b0, .int .i64 b1, .int .i64 b2, .int .i64 b3, .int .i64 b4, .int .i64 b5, .int .i64 b6, .int .i64 b7, .int .i64 (hd : Int), .int .i64 (nn : Int)] 75)) := by
    have := blk_new (((w.alloc (.cells #[.int .i64 b0, .int .i64 b1, .int .i64 b2, .int .i64 b3, .int .i64 b4, .int .i64 b5, .int .i64 b6, .int .i64 b7, .int .i64 (hd : Int), .int .i64 (nn : Int)] 75)).alloc (.cells #[.bool false] 4)).alloc (.cells #[.int .i64 b0, .int .i64 b1, .int .i64 b2, .int .i64 b3, .int .i64 b4, .int .i64 b5, .int .i64 b6, .int .i64 b7] 73)) (.cells #[.int .i64 b0, .int .i64 b1, .int .i64 b2, .int .i64 b3, .int .i64 b4, .int .i64 b5, .int .i64 b6, .int .i64 b7, .int .i64 (hd : Int), .int .i64 (nn : Int)] 75)
    rwa [World.size_alloc, World.size_alloc, World.size_alloc] at this
  have hX0 : Ext w ((((w.alloc (.cells #[.int .i64 b0, .int .i64 b1, .int .i64 b2, .int .i64 b3, .int .i64 b4, .int .i64 b5, .int .i64 b6, .int .i64 b7, .int .i64 (hd : Int), .int .i64 (nn : Int)] 75)).alloc (.cells #[.bool false] 4)).alloc (.cells #[.int .i64 b0, .int .i64 b1, .int .i64 b2, .int .i64 b3, .int .i64 b4, .int .i64 b5, .int .i64 b6, .int .i64 b7] 73)).alloc (.cells #[.int .i64 b0, .int .i64 b1, .int .i64 b2, .int .i64 b3, .int .i64 b4, .int .i64 b5, .int .i64 b6, .int .i64 b7, .int .i64 (hd : Int), .int .i64 (nn : Int)] 75)) := ((((Ext.refl w).alloc _).alloc _).alloc _).alloc _
  have hS3 : ((((w.alloc (.cells #[.int .i64 b0, .int .i64 b1, .int .i64 b2, .int .i64 b3, .int .i64 b4, .int .i64 b5, .int .i64 b6, .int .i64 b7, .int .i64 (hd : Int), .int .i64 (nn : Int)] 75)).alloc (.cells #[.bool false] 4)).alloc (.cells #[.int .i64 b0, .int .i64 b1, .int .i64 b2, .int .i64 b3, .int .i64 b4, .int .i64 b5, .int .i64 b6, .int .i64 b7] 73)).alloc (.cells #[.int .i64 b0, .int .i64 b1, .int .i64 b2, .int .i64 b3, .int .i64 b4, .int .i64 b5, .int .i64 b6, .int .i64 b7, .int .i64 (hd : Int), .int .i64 (nn : Int)] 75)).heap.size = w.heap.size + 4 := by simp [World.size_alloc]
  generalize hW3 : ((((w.alloc (.cells #[.int .i64 b0, .int .i64 b1, .int .i64 b2, .int .i64 b3, .int .i64 b4, .int .i64 b5, .int .i64 b6, .int .i64 b7, .int .i64 (hd : Int), .int .i64 (nn : Int)] 75)).alloc (.cells #[.bool false] 4)).alloc (.cells #[.int .i64 b0, .int .i64 b1, .int .i64 b2, .int .i64 b3, .int .i64 b4, .int .i64 b5, .int .i64 b6, .int .i64 b7] 73)).alloc (.cells #[.int .i64 b0, .int .i64 b1, .int .i64 b2, .int .i64 b3, .int .i64 b4, .int .i64 b5, .int .i64 b6, .int .i64 b7, .int .i64 (hd : Int), .int .i64 (nn : Int)] 75)) = W3 at *
  clear hW3
  apply wpIn_rangeFunc_ownF rfl h1 (gf := 111) (lb := #[.pointer (some ⟨(w.heap.size + 1 + 1 + 1), 0, none⟩)]) rfl trivial (enters_of Try.func111 (by kernel_rfl) rfl)
    (elements_stops Fence.wide (3 - 1) trivial rfl (by omega) (w.heap.size + 1 + 1 + 1) hd nn [b0, b1, b2, b3, b4, b5, b6, b7] rfl hhd hnn W3 (by omega) hA3) (keepsAt_t (w.heap.size + 1 + 1 + 1)) (keepsAt_b (by omega)) (Below.refl _ _) (fun _ => rfl)
    (fun pre W => ((∀ p ∈ pre, 1 ≤ p.1.2) ∧ W.heap[(w.heap.size + 1)]? = some (.cells #[.bool false] 4 (0, 0)) ∧ W.heap[(w.heap.size + 1 + 1)]? = some (.cells (bufCells (Ri.rest [b0, b1, b2, b3, b4, b5, b6, b7] pre)) 73 (0, 0))) ∧ Ext w W)
    (fun c pre W => (c = .ret ∧ (∃ p ∈ pre, p.1.2 < 1) ∧ W.heap[(w.heap.size + 1)]? = some (.cells #[.bool false] 4 (0, 0))) ∧ Ext w W)
    (OwnFrom.and (Own.from (fun s A B row hs hg hr => ⟨hs.1, blk_own (w.heap.size + 1) (fun (_ : Unit) => .cells #[.bool false] 4 (0, 0)) (fun _ => rfl) () A B row hs.2.1 hg hr, blk_own (w.heap.size + 1 + 1) (fun (_ : Unit) => .cells (bufCells (Ri.rest [b0, b1, b2, b3, b4, b5, b6, b7] s)) 73 (0, 0)) (fun _ => rfl) () A B row hs.2.2 hg hr⟩) _) (ownFrom_below (Nat.le_refl _) (by omega)))
    (fun c => OwnFrom.and (Own.from (fun s A B row hs hg hr => ⟨hs.1, hs.2.1, blk_own (w.heap.size + 1) (fun (_ : Unit) => .cells #[.bool false] 4 (0, 0)) (fun _ => rfl) () A B row hs.2.2 hg hr⟩) _) (ownFrom_below (Nat.le_refl _) (by omega)))
    ⟨⟨by simp, hA1, hA2⟩, hX0⟩ _ ?assign ?body ?done ?stop
  case assign =>
    intro l x W K hK
    gi_wp2
    exact hK
  case body =>
    rintro l pre ⟨⟨x1, x2⟩, hx0, hx8⟩ W ⟨⟨hp, hc1, hc2⟩, hB⟩ hlt
    simp only at hx0 hx8
    obtain ⟨a, rfl⟩ : ∃ a : Nat, x1 = a := ⟨x1.toNat, by omega⟩
    have hlen : (Ri.rest [b0, b1, b2, b3, b4, b5, b6, b7] pre).length = 8 := by rw [Ri.rest_len]; rfl
    have ha8 : a < 8 := by omega
    by_cases hx : x2 < 1
    · have z1 := blk_cell hc1 0 (.bool false) rfl
      have y1 := frozen_of_row _ _ 0 _ _ hc1
      gi_wp2
      exact ⟨KeepsOthers.setCell _ _ _, ⟨rfl, ⟨_, List.mem_append.2 (.inr (List.mem_singleton.2 rfl)), hx⟩, blk_set hc1 0 (.bool false)⟩, hB.setCell (p := ⟨(w.heap.size + 1), 0, none⟩) (by simp only; omega) _⟩
    · have z2 := blk_cell hc2 a _ (bufCells_at (by omega))
      have y2 := frozen_of_row _ _ a _ _ hc2
      have hx' : 1 ≤ x2 := by omega
      clear hx
      gi_wp2
      refine ⟨KeepsOthers.setCell _ _ _, keepsAt_set _ (by omega) _ _, ⟨?_, ?_, ?_⟩, hB.setCell (p := ⟨(w.heap.size + 1 + 1), a, none⟩) (by simp only; omega) _⟩
      · intro p hpm
        rcases List.mem_append.1 hpm with h | h
        · exact hp p h
        · rw [List.mem_singleton.1 h]; exact hx'
      · exact blk_set_other hc1 _ (by simp only; omega) _
      · have := blk_set hc2 a (.int .i64 0)
        rw [bufCells_set] at this
        rw [Ri.rest_snoc]
        exact this
  case done =>
    rintro D ys W hD rfl ⟨⟨hp, hc1, hc2⟩, hB⟩ hK
    rw [Ri.rest_upto] at hc2
    have hpos := (Ri.pos_upto hd [b0, b1, b2, b3, b4, b5, b6, b7] nn).1 hp
    have z1 := blk_cell hc1 0 (.bool false) rfl
    have y1 := frozen_of_row _ _ 0 _ _ hc1
    obtain ⟨c0, c1, c2, c3, c4, c5, c6, c7, hcs⟩ := list8 (l := Ri.zeroed hd [b0, b1, b2, b3, b4, b5, b6, b7] nn) (by rw [Ri.zeroed_len]; rfl)
    have hmm := HMI.out
    rw [hcs] at hc2 hmm
    have k0 := blk_cell hc2 0 (.int .i64 c0) rfl
    have k1 := blk_cell hc2 1 (.int .i64 c1) rfl
    have k2 := blk_cell hc2 2 (.int .i64 c2) rfl
    have k3 := blk_cell hc2 3 (.int .i64 c3) rfl
    have k4 := blk_cell hc2 4 (.int .i64 c4) rfl
    have k5 := blk_cell hc2 5 (.int .i64 c5) rfl
    have k6 := blk_cell hc2 6 (.int .i64 c6) rfl
    have k7 := blk_cell hc2 7 (.int .i64 c7) rfl
    have HB := Lib.hid hB
    have HC1 := Lib.hid hc1
    have HK := Lib.hid hK
    clear hB hc1 hK hc2
    cases m with
    | true =>
      obtain ⟨_, hz⟩ := hmm.1 rfl
      simp only [List.cons.injEq, and_true] at hz
      obtain ⟨rfl, rfl, rfl, rfl, rfl, rfl, rfl, rfl⟩ := hz
      have heq := run_eq8 [0, 0, 0, 0, 0, 0, 0, 0] [0, 0, 0, 0, 0, 0, 0, 0] rfl rfl true (decide_eq_true rfl)
      simp only [bufCells, List.map_cons, List.map_nil] at heq
      clear hmm
      gi_wp2
      have HK1 := (KeepsOthers.setCell W ⟨(w.heap.size + 1), 0, none⟩ (.bool true)).same D _ HK.out rfl
      have hc5 := cell_kept (blk_cell (blk_set HC1.out 0 (.bool true)) 0 (.bool true) rfl) (grownBy_putObj' _ D (.deferred none)) (fun r e => by cases e; exact ⟨_, HK1, rfl⟩)
      refine ⟨by simp, .inl ⟨_, _, rfl, run_takeDeferred HK1, ?_⟩⟩
      refine ⟨.bool true, ?_, rfl, Below.trans (show Below w.heap.size w _ from HB.out.setCell (p := ⟨(w.heap.size + 1), 0, none⟩) (by simp only; omega) _) (belowK_b (w := w) (Nat.le_refl _) _ D _ _ (by omega) HK1 rfl rfl)⟩
      simp [results, Try.f89, go_sem, hc5]
    | false =>
      have hz : ¬ ([c0, c1, c2, c3, c4, c5, c6, c7] = [0, 0, 0, 0, 0, 0, 0, 0]) := fun h => by cases hmm.2 ⟨hpos, h⟩
      have heq := run_eq8 [c0, c1, c2, c3, c4, c5, c6, c7] [0, 0, 0, 0, 0, 0, 0, 0] rfl rfl false (decide_eq_false hz)
      simp only [bufCells, List.map_cons, List.map_nil] at heq
      clear hmm
      gi_wp2
      have HK1 := (KeepsOthers.setCell W ⟨(w.heap.size + 1), 0, none⟩ (.bool false)).same D _ HK.out rfl
      have hc5 := cell_kept (blk_cell (blk_set HC1.out 0 (.bool false)) 0 (.bool false) rfl) (grownBy_putObj' _ D (.deferred none)) (fun r e => by cases e; exact ⟨_, HK1, rfl⟩)
      refine ⟨by simp, .inl ⟨_, _, rfl, run_takeDeferred HK1, ?_⟩⟩
      refine ⟨.bool false, ?_, rfl, Below.trans (show Below w.heap.size w _ from HB.out.setCell (p := ⟨(w.heap.size + 1), 0, none⟩) (by simp only; omega) _) (belowK_b (w := w) (Nat.le_refl _) _ D _ _ (by omega) HK1 rfl rfl)⟩
      simp [results, Try.f89, go_sem, hc5]
  case stop =>
    rintro D c pre W hD ⟨k, hk, rfl⟩ ⟨⟨rfl, ⟨p, hpm, hp⟩, hc1⟩, hB⟩ hK
    have hm : m = false := by
      cases hmm : m with
      | false => rfl
      | true =>
        have h2 := (HMI.out.1 hmm).1
        have h3 := (Ri.pos_upto hd [b0, b1, b2, b3, b4, b5, b6, b7] k).2 (fun i hi => h2 i (by omega)) p hpm
        omega
    subst hm
    gi_wp2
    refine ⟨by simp, .inl ⟨_, _, rfl, run_takeDeferred hK, ?_⟩⟩
    have hc5 := cell_kept (blk_cell hc1 0 (.bool false) rfl) (grownBy_putObj' _ D (.deferred none)) (fun r e => by cases e; exact ⟨_, hK, rfl⟩)
    refine ⟨.bool false, ?_, rfl, Below.trans (show Below w.heap.size w W from hB) (belowK_b (w := w) (Nat.le_refl _) W D _ _ (by omega) hK rfl rfl)⟩
    simp [results, Try.f89, go_sem, hc5]
theorem rmay_eq (b0 b1 b2 b3 b4 b5 b6 b7 hd nn : Int) (m : Bool) (hm : Ri.may ⟨[b0, b1, b2, b3, b4, b5, b6, b7], hd, nn⟩ = m) (w : World) :
    Calls Try.prog 89 #[.agg #[.int .i64 b0, .int .i64 b1, .int .i64 b2, .int .i64 b3, .int .i64 b4, .int .i64 b5, .int .i64 b6, .int .i64 b7, .int .i64 hd, .int .i64 nn]] w fun e w' => e = .returned (.bool m) ∧ Ext w w' := by
  cases hi : Ri.inside ⟨[b0, b1, b2, b3, b4, b5, b6, b7], hd, nn⟩ with
  | true =>
    obtain ⟨h, n, rfl, rfl, h1, h2⟩ := Ri.inside_nat hi
    exact rmay_in b0 b1 b2 b3 b4 b5 b6 b7 h n h1 h2 m hm w
  | false =>
    have h0 : m = false := by rw [← hm]; unfold Ri.may; rw [hi]; rfl
    subst h0
    refine rmay_out b0 b1 b2 b3 b4 b5 b6 b7 hd nn w ?_
    have : ¬ ((0 ≤ hd ∧ hd < 8) ∧ 0 ≤ nn ∧ nn ≤ 8) := fun h => by rw [(Ri.inside_iff ⟨[b0, b1, b2, b3, b4, b5, b6, b7], hd, nn⟩).2 h] at hi; cases hi
    omega
theorem cells10 {v : World} {x : Nat} {c0 c1 c2 c3 c4 c5 c6 c7 c8 c9 : Value} {t : TypeId} (h : v.heap[x]? = some (.cells #[c0, c1, c2, c3, c4, c5, c6, c7, c8, c9] t (0, 0))) :
    (v.cell? ⟨x, 0, none⟩ = some c0 ∧ v.cell? ⟨x, 1, none⟩ = some c1 ∧ v.cell? ⟨x, 2, none⟩ = some c2 ∧ v.cell? ⟨x, 3, none⟩ = some c3 ∧ v.cell? ⟨x, 4, none⟩ = some c4) ∧ v.cell? ⟨x, 5, none⟩ = some c5 ∧ v.cell? ⟨x, 6, none⟩ = some c6 ∧ v.cell? ⟨x, 7, none⟩ = some c7 ∧ v.cell? ⟨x, 8, none⟩ = some c8 ∧ v.cell? ⟨x, 9, none⟩ = some c9 :=
  ⟨⟨blk_cell h 0 _ rfl, blk_cell h 1 _ rfl, blk_cell h 2 _ rfl, blk_cell h 3 _ rfl, blk_cell h 4 _ rfl⟩, blk_cell h 5 _ rfl, blk_cell h 6 _ rfl, blk_cell h 7 _ rfl, blk_cell h 8 _ rfl, blk_cell h 9 _ rfl⟩
open Go.RowKit Go.Shelf
attribute [local go_sem] Oper.semAt_some
theorem Try.infoRint : (Try.prog.info? 3).map (fun i => (i.zero, i.size, i.bytes)) = some (some (.int .i64 0), 1, 8) := by kernel_rfl
theorem ring_not_row {W : World} {g : Nat} {r : Ri} (h : RingIn g r W) {base k : Nat} {v : Value} {xs : List Value} (hr : W.ownsRow base 3 1 v k xs) : some g ≠ v.ownBlock := by
  rcases hr.2 with ⟨rfl, _⟩ | ⟨g', cap, cur, rfl, _, hgb, _⟩
  · simp [Value.ownBlock]
  · intro e'
    obtain rfl : g = g' := by simpa [Value.ownBlock] using e'
    have := (show W.heap[g]? = _ from h).symm.trans hgb
    simp at this
def seconds (pre : List I8) : List Int := pre.map fun p => p.1.2
theorem seconds_snoc (pre : List I8) (x : I8) : seconds (pre ++ [x]) = seconds pre ++ [x.1.2] := by simp [seconds]
theorem seconds_len (pre : List I8) : (seconds pre).length = pre.length := by simp [seconds]
theorem Ri.list_upto {hd nn : Nat} {bs : List Int} (hm : Ri.may ⟨bs, hd, nn⟩ = true) : Ri.list ⟨bs, hd, nn⟩ = seconds (upto (Ri.pair hd bs) nn) := by
  unfold Ri.list
  rw [if_pos hm]
  simp [seconds, upto, Ri.elem, Ri.pair]
set_option maxRecDepth 100000 in
set_option maxHeartbeats 1000000 in
theorem rlist_no (b0 b1 b2 b3 b4 b5 b6 b7 hd nn : Int) (hm : Ri.may ⟨[b0, b1, b2, b3, b4, b5, b6, b7], hd, nn⟩ = false) (w : World) :
    Calls Try.prog 112 #[.agg #[.int .i64 b0, .int .i64 b1, .int .i64 b2, .int .i64 b3, .int .i64 b4, .int .i64 b5, .int .i64 b6, .int .i64 b7, .int .i64 hd, .int .i64 nn]] w fun e w' => e = .returned (.slice none 0 0) ∧ Ext w w' := by
  have HM := Lib.hid hm
  clear hm
  go_enter Try.func112, Try.ntmps112
  go_wp2_with fail
  refine (rmay_eq b0 b1 b2 b3 b4 b5 b6 b7 hd nn _ HM.out _).mono ?_
  rintro r w1 ⟨rfl, hx1⟩
  go_wp2
  go_ret
  exact ⟨rfl, ((Ext.refl w).alloc _).trans hx1⟩
set_option maxRecDepth 100000 in
set_option maxHeartbeats 2000000 in
theorem rlist_in (b0 b1 b2 b3 b4 b5 b6 b7 : Int) (hd nn : Nat) (hhd : hd < 8) (hnn : nn ≤ 8) (hm : Ri.may ⟨[b0, b1, b2, b3, b4, b5, b6, b7], hd, nn⟩ = true) (w : World) :
    Calls Try.prog 112 #[.agg #[.int .i64 b0, .int .i64 b1, .int .i64 b2, .int .i64 b3, .int .i64 b4, .int .i64 b5, .int .i64 b6, .int .i64 b7, .int .i64 (hd : Int), .int .i64 (nn : Int)]] w fun e w' => ∃ v, e = .returned v ∧ IntsAt w' v (seconds (upto (Ri.pair hd [b0, b1, b2, b3, b4, b5, b6, b7]) nn)) ∧ Ext w w' := by
  have HM := Lib.hid hm
  clear hm
  obtain ⟨i0, hi, hz0, hz1, hz2⟩ := info_parts Try.infoRint
  refine (callsIn_wide (n := 3)).1 ?_
  have h1 : 1 ≤ 3 := by omega
  refine callsIn_of_wp_marks Try.func112 rfl trivial ?_ rfl
  simp only [Try.ntmps112, List.size_toArray, List.length_cons, List.length_nil, Nat.reduceAdd, Nat.reduceSub, Array.replicate_succ, Array.replicate_zero, List.push_toArray, List.append_toArray, List.nil_append, List.cons_append]
  gi_wp2_with fail
  refine ⟨trivial, callsIn_wide.2 ((rmay_eq b0 b1 b2 b3 b4 b5 b6 b7 hd nn _ HM.out _).mono ?_)⟩
  rintro r w1 ⟨rfl, hx1⟩
  obtain ⟨⟨q0, q1, q2, q3, q4⟩, q5, q6, q7, q8, q9⟩ := cells10 (blk_alloc (hx1.blk (blk_new w (.cells #[.int .i64 b0, .int .i64 b1, .int .i64 b2, .int .i64 b3, .int .i64 b4, .int .i64 b5, .int .i64 b6, .int .i64 b7, .int .i64 (hd : Int), .int .i64 (nn : Int)] 75))) (.cells #[.slice none 0 0] 42))
  have HX1 : Hid (Ext w w1) := Lib.hid (((Ext.refl w).alloc _).trans hx1)
  clear hx1
  gi_wp2_with fail
  refine ⟨trivial, (elements_in Fence.wide (3 - 1) trivial rfl _ _ _ _ _ _ _ _ _ _ _).mono ?_⟩
  rintro e w' ⟨rfl, rfl⟩
  clear q0 q1 q2 q3 q4 q5 q6 q7 q8 q9
  gi_wp2_with fail
  have bO := (Boxed.new w1 42 (.slice none 0 0)).alloc (.cells #[.int .i64 b0, .int .i64 b1, .int .i64 b2, .int .i64 b3, .int .i64 b4, .int .i64 b5, .int .i64 b6, .int .i64 b7, .int .i64 (hd : Int), .int .i64 (nn : Int)] 75)
  have hA3 : RingIn (w1.heap.size + 1) ⟨[b0, b1, b2, b3, b4, b5, b6, b7], hd, nn⟩ ((w1.alloc (.cells #[.slice none 0 0] 42)).alloc (.cells #[.int .i64 b0, .int .i64 b1, .int .i64 b2, .int .i64 b3, .int .i64 b4, .int .i64 b5, .int .i64 b6, .int .i64 b7, .int .i64 (hd : Int), .int .i64 (nn : Int)] 75)) := by
    have := blk_new (w1.alloc (.cells #[.slice none 0 0] 42)) (.cells #[.int .i64 b0, .int .i64 b1, .int .i64 b2, .int .i64 b3, .int .i64 b4, .int .i64 b5, .int .i64 b6, .int .i64 b7, .int .i64 (hd : Int), .int .i64 (nn : Int)] 75)
    rwa [World.size_alloc] at this
  have hX0 : Ext w ((w1.alloc (.cells #[.slice none 0 0] 42)).alloc (.cells #[.int .i64 b0, .int .i64 b1, .int .i64 b2, .int .i64 b3, .int .i64 b4, .int .i64 b5, .int .i64 b6, .int .i64 b7, .int .i64 (hd : Int), .int .i64 (nn : Int)] 75)) := (HX1.out.alloc _).alloc _
  have hS3 : ((w1.alloc (.cells #[.slice none 0 0] 42)).alloc (.cells #[.int .i64 b0, .int .i64 b1, .int .i64 b2, .int .i64 b3, .int .i64 b4, .int .i64 b5, .int .i64 b6, .int .i64 b7, .int .i64 (hd : Int), .int .i64 (nn : Int)] 75)).heap.size = w1.heap.size + 2 := by simp [World.size_alloc]
  have hsz := HX1.out.size
  generalize hW3 : (w1.alloc (.cells #[.slice none 0 0] 42)).alloc (.cells #[.int .i64 b0, .int .i64 b1, .int .i64 b2, .int .i64 b3, .int .i64 b4, .int .i64 b5, .int .i64 b6, .int .i64 b7, .int .i64 (hd : Int), .int .i64 (nn : Int)] 75) = W3 at *
  clear hW3
  apply wpIn_rangeFunc_ownG rfl h1 (gf := 111) (lb := #[.pointer (some ⟨w1.heap.size + 1, 0, none⟩)]) rfl trivial (enters_of Try.func111 (by kernel_rfl) rfl)
    (elements_stops Fence.wide (3 - 1) trivial rfl (by omega) (w1.heap.size + 1) hd nn [b0, b1, b2, b3, b4, b5, b6, b7] rfl hhd hnn W3 (by omega) hA3) (keepsAt_t (w1.heap.size + 1)) (keepsAt_b (by omega)) (Below.refl _ _) (fun _ => rfl)
    (fun pre W => ((∃ v, Boxed W w1.heap.size 42 v ∧ W.ownsRow w.heap.size 3 1 v (seconds pre).length (intsV (seconds pre)) ∧ True) ∧ RingIn (w1.heap.size + 1) ⟨[b0, b1, b2, b3, b4, b5, b6, b7], hd, nn⟩ W) ∧ Ext w W)
    (fun _ _ _ => False)
    (OwnFrom.and (OwnFrom.and (Own.from (holdsRow_own w.heap.size w1.heap.size 42 3 1 (fun pre => (seconds pre).length) (fun pre => intsV (seconds pre)) (fun _ _ => True)) _) (Own.from (fun s A B row hs hg hr => blk_own (w1.heap.size + 1) (fun (_ : Unit) => .cells (⟨[b0, b1, b2, b3, b4, b5, b6, b7], hd, nn⟩ : Ri).cells 75 (0, 0)) (fun _ => rfl) () A B row hs hg hr) _)) (ownFrom_below (Nat.le_refl _) (by omega)))
    (fun _ _ _ _ _ hs _ _ => hs)
    ⟨⟨⟨_, bO, World.ownsRow_nil _ _ _ _, trivial⟩, hA3⟩, hX0⟩ _ ?assign ?body ?done ?stop
  case assign =>
    intro l x W K hK
    gi_wp2
    exact hK
  case body =>
    rintro l pre ⟨⟨x1, x2⟩, hx0, hx8⟩ W ⟨⟨⟨v, hv, hrow, _⟩, hA⟩, hB⟩ hlt
    have hc := hv.cell
    have hpl := seconds_len pre
    have hne := ring_not_row hA hrow
    gi_wp2_with (gi_at_builtin; refine wpListIn_append_own _ rfl _ _ 42 rfl w.heap.size 3 i0 (.int .i64 0) 1 8 Try.underlying42 hi hz0 hz1 hz2 rfl (by decide) _ _ _ rfl (hrow.alloc _) ⟨W.heap.size, 0, none⟩ 1 1 [.int .i64 x2] rfl rfl (cell_one_new _ _ _) (by simp [Value.oneCell']) (by unfold maxLen; omega) (by omega) (by have := hB.size; simp; omega) ?_; intro v' w2 hown' hgrow _; obtain ⟨g', cap', rfl⟩ := ownsRow_succ hown'; obtain ⟨hv1, hv2, hr2, hk2, hb2⟩ := hv.appended (by decide) hrow hB.size hsz hown' hgrow; have hc1 := hv1.cell; have hf1 := hv1.frozen)
    have hA2 : RingIn (w1.heap.size + 1) ⟨[b0, b1, b2, b3, b4, b5, b6, b7], hd, nn⟩ w2 := (hgrow.block (w1.heap.size + 1) (by have := blk_lt hA; simp; omega) hne).trans (blk_alloc hA _)
    have hA3' := blk_set_other hA2 ⟨w1.heap.size, 0, none⟩ (by simp only; omega) (.slice (some ⟨g', 0, none⟩) ((seconds pre).length + 1) cap')
    (try simp only [hpl] at hA3')
    (try simp only [hpl] at hv2)
    (try simp only [hpl] at hr2)
    (try simp only [hpl] at hk2)
    (try simp only [hpl] at hb2)
    refine ⟨hk2.from _, fun o ho => ?_, ⟨⟨_, hv2, ?_⟩, hA3'⟩, Below.trans (show Below w.heap.size w W from hB) hb2⟩
    · rw [show W.heap[w1.heap.size + 1]? = _ from hA] at ho
      cases ho
      exact hA3'
    · rw [seconds_snoc]
      simpa [intsV, hpl] using hr2
  case done =>
    rintro D ys W hD rfl ⟨⟨⟨v, hv, hrow, _⟩, hA⟩, hB⟩ hK
    have hc := hv.cell
    gi_wp2
    refine ⟨by simp, .inl ⟨_, _, rfl, run_takeDeferred hK, ?_⟩⟩
    obtain ⟨A', c', h1', h2'⟩ := OwnInts.ints (ownsRow_putObj hrow (.deferred none) hK rfl)
    refine ⟨_, results_tmp rfl _ _ _, v, rfl, by rw [h1']; exact h2', Below.trans (show Below w.heap.size w W from hB) (belowK_b (w := w) (Nat.le_refl _) W D _ _ (by omega) hK rfl rfl)⟩
  case stop =>
    rintro D c pre W _ _ h _
    exact h.elim
theorem rlist_k (b0 b1 b2 b3 b4 b5 b6 b7 hd nn : Int) (l : List Int) (h : Ri.list ⟨[b0, b1, b2, b3, b4, b5, b6, b7], hd, nn⟩ = l) (w : World) :
    Calls Try.prog 112 #[.agg #[.int .i64 b0, .int .i64 b1, .int .i64 b2, .int .i64 b3, .int .i64 b4, .int .i64 b5, .int .i64 b6, .int .i64 b7, .int .i64 hd, .int .i64 nn]] w fun e w' => ∃ v, e = .returned v ∧ IntsAt w' v l ∧ Ext w w' := by
  subst h
  cases hm : Ri.may ⟨[b0, b1, b2, b3, b4, b5, b6, b7], hd, nn⟩ with
  | false =>
    refine (rlist_no b0 b1 b2 b3 b4 b5 b6 b7 hd nn hm w).mono ?_
    rintro e w' ⟨rfl, hx⟩
    refine ⟨_, rfl, ?_, hx⟩
    unfold Ri.list
    rw [hm]
    exact ⟨none, 0, rfl, fun h => by simp at h⟩
  | true =>
    have hi : Ri.inside ⟨[b0, b1, b2, b3, b4, b5, b6, b7], hd, nn⟩ = true := by have := hm; unfold Ri.may at this; rw [Bool.and_eq_true] at this; exact this.1
    obtain ⟨a, n, rfl, rfl, h1, h2⟩ := Ri.inside_nat hi
    rw [Ri.list_upto hm]
    exact rlist_in b0 b1 b2 b3 b4 b5 b6 b7 a n h1 h2 hm w
theorem Ri.may_nat {hd nn : Nat} (h : hd < 8) (hn : nn ≤ 8) {bs : List Int} :
    Ri.may ⟨bs, hd, nn⟩ = true ↔ ∀ j < 8, if (j + 8 - hd) % 8 < nn then 0 < bs[j]?.getD 0 else bs[j]?.getD 0 = 0 := by
  have hi : Ri.inside ⟨bs, hd, nn⟩ = true := (Ri.inside_iff _).2 (by simp only; omega)
  unfold Ri.may
  rw [hi, Bool.true_and, List.all_eq_true]
  simp only [List.mem_range, Ri.okAt, Int.toNat_natCast]
  constructor
  · intro k j hj
    have := k j hj
    split
    · rename_i hc; rw [if_pos hc] at this; exact of_decide_eq_true this
    · rename_i hc; rw [if_neg hc] at this; exact of_decide_eq_true this
  · intro k j hj
    have := k j hj
    split
    · rename_i hc; rw [if_pos hc] at this; exact decide_eq_true this
    · rename_i hc; rw [if_neg hc] at this; exact decide_eq_true this
theorem Ri.open8 {r : Ri} (h : r.buf.length = 8) : ∃ b0 b1 b2 b3 b4 b5 b6 b7 hd n, r = ⟨[b0, b1, b2, b3, b4, b5, b6, b7], hd, n⟩ := by
  obtain ⟨bs, hd, n⟩ := r
  obtain ⟨b0, b1, b2, b3, b4, b5, b6, b7, rfl⟩ := list8 h
  exact ⟨b0, b1, b2, b3, b4, b5, b6, b7, hd, n, rfl⟩
section
variable {P : Program} {ops : Array Oper} {Q : Exit → Act → World → Prop} {md : Region.Mode} {S : World → Prop}
def GivesV (P : Program) (S : World → Prop) (v : Value) : Result Next → Prop
  | .ok (.value u) w' => u = v ∧ S w'
  | .ok .skip w' => v = undef ∧ S w'
  | .ok (.enter f args) w' => Calls P f args w' fun e w'' => e = .returned v ∧ S w''
  | _ => False
def Tame (P : Program) (ops : Array Oper) (S : World → Prop) (o : Oper) (v : Value) (a : Act) : Prop :=
  (Region.wanted o (yielded ops a.tmps) = true ∧ ∀ w, S w → GivesV P S v ((execOp a.eval o).run P w)) ∨
  (Region.wanted o (yielded ops a.tmps) = false ∧ v = undef)
theorem Tame.same {o : Oper} {v : Value} {a b : Act} (h : Tame P ops S o v a) (he : execOp b.eval o = execOp a.eval o)
    (hw : Region.wanted o (yielded ops b.tmps) = Region.wanted o (yielded ops a.tmps)) : Tame P ops S o v b := by
  unfold Tame at *
  rw [he, hw]
  exact h
theorem Tame.op {i : Nat} {o : Oper} {v : Value} {a : Act} (hi : ops[i]? = some o) (h : Tame P ops S o v a)
    {K : Act → World → Prop} {w : World} (hS : S w) (hK : ∀ w', S w' → K (a.put o.dst v) w') : wpOp P ops Q i K a w := by
  unfold wpOp
  simp only [hi]
  rcases h with ⟨hw, hv⟩ | ⟨hw, rfl⟩
  · simp only [hw, if_true]
    left
    have h2 := hv w hS
    unfold Oper.wp
    generalize (execOp a.eval o).run P w = r at *
    cases r with
    | halt x w' => exact h2.elim
    | ok n w' =>
      cases n with
      | value u => obtain ⟨rfl, h3⟩ := h2; exact hK _ h3
      | skip => obtain ⟨rfl, h3⟩ := h2; exact hK _ h3
      | enter f args =>
        refine Calls.mono h2 fun e w'' he => ?_
        obtain ⟨rfl, h3⟩ := he
        exact hK _ h3
      | _ => exact h2.elim
  · simp only [hw, Bool.false_eq_true, if_false]
    exact hK _ hS
theorem op_apart {j : Nat} {oi oj : Oper} {v : Value} (hj : ops[j]? = some oj) (hap : oi.apart ops oj = true)
    (hsi : ∀ cs b, oi.op ≠ .select cs b) (hsj : ∀ cs b, oj.op ≠ .select cs b)
    (hQ : ∀ c a w, Q (.panic c) (a.put oi.dst v) w → Q (.panic c) a w) {K : Act → World → Prop} {a : Act} {w : World}
    (hy : Tame P ops S oi v a) (h : wpOp P ops Q j K (a.put oi.dst v) w) :
    wpOp P ops Q j (fun a' w' => Tame P ops S oi v a' ∧ K (a'.put oi.dst v) w') a w := by
  obtain ⟨h1, h2, h3⟩ := Oper.apart_spec hap
  have keep : ∀ u, Tame P ops S oi v (a.put oj.dst u) := fun u => hy.same (execOp_put oi hsi a oj.dst u h3) (wanted_put oi a oj.dst u h3)
  have swap : ∀ u w', K ((a.put oi.dst v).put oj.dst u) w' → Tame P ops S oi v (a.put oj.dst u) ∧ K ((a.put oj.dst u).put oi.dst v) w' :=
    fun u w' hk => ⟨keep u, by rw [← Act.put_comm a v u h2]; exact hk⟩
  unfold wpOp at *
  simp only [hj] at *
  rw [wanted_put oj a oi.dst v h1] at h
  split
  · rename_i hw
    simp only [hw, if_true] at h
    rcases h with h | ⟨hasks, hlets⟩
    · left
      unfold Oper.wp at *
      rw [execOp_put oj hsj a oi.dst v h1] at h
      generalize (execOp a.eval oj).run P w = r at *
      cases r with
      | ok n w' =>
        cases n <;> simp only [Oper.upon] at h ⊢
        case value u => exact swap u w' h
        case skip => exact swap _ w' h
        case defer d =>
          have kd : Tame P ops S oi v { a with defers := d :: a.defers } := hy.same rfl rfl
          refine ⟨kd.same (execOp_put oi hsi _ oj.dst _ h3) (wanted_put oi _ oj.dst _ h3), ?_⟩
          rw [← Act.put_comm _ v undef h2, ← Act.put_defers]
          exact h
        case enter f args =>
          refine Calls.mono h fun e w'' he => ?_
          cases e with
          | returned u => exact swap u w'' he
          | panicked c => exact hQ _ _ _ he
          | outgrown => exact he
        case row row args => exact Rows.mono h fun u w'' he => swap u w'' he
      | halt x w' =>
        cases x <;> simp only [Oper.upon] at h ⊢
        case panic u => exact hQ _ _ _ h
    · right
      unfold Oper.asks at *
      rw [execOp_put oj hsj a oi.dst v h1] at hasks
      exact ⟨hasks, hlets⟩
  · rename_i hw
    simp only [hw] at h
    exact swap _ w h
def wpAll (P : Program) (md : Region.Mode) (ops : Array Oper) (Q : Exit → Act → World → Prop) (S : World → Prop) : Nat → Array Bool → Act → Prop
  | 0, listed, a => Region.ready md ops listed = [] ∧ ∀ w, S w → Q .normal a w
  | f + 1, listed, a => (Region.ready md ops listed = [] → ∀ w, S w → Q .normal a w) ∧
      ∀ i ∈ Region.ready md ops listed, ∀ w, S w → wpOp P ops Q i (fun a' w' => S w' ∧ wpAll P md ops Q S f (listed.setIfInBounds i true) a') a w
theorem wpAny_of_all : ∀ (f : Nat) (listed : Array Bool) (a : Act) (w : World), S w → wpAll P md ops Q S f listed a → wpAny P md ops Q f listed a w
  | 0, _, _, w, hS, h => ⟨h.1, h.2 w hS⟩
  | f + 1, _, _, w, hS, h => ⟨fun h0 => h.1 h0 w hS, fun i hi => wpOp_mono (fun a' w' h' => wpAny_of_all f _ a' w' h'.1 h'.2) (h.2 i hi w hS)⟩
theorem all_first {i : Nat} {oi : Oper} {v : Value} (hi : ops[i]? = some oi) (hsel : ∀ (j : Nat) (o : Oper) cs b, ops[j]? = some o → o.op ≠ .select cs b)
    (hQ : ∀ c a w, Q (.panic c) (a.put oi.dst v) w → Q (.panic c) a w) :
    ∀ (f : Nat) (listed : Array Bool) (a : Act),
      (∀ j oj, ops[j]? = some oj → j ≠ i → listed.getD j true = false → (∀ e ∈ oj.after, Region.binds md e = true → e.on ≠ i) → oi.apart ops oj = true) →
      i ∈ Region.ready md ops listed → Tame P ops S oi v a →
      wpAll P md ops Q S f (listed.setIfInBounds i true) (a.put oi.dst v) → wpAll P md ops Q S (f + 1) listed a := by
  intro f
  induction f with
  | zero =>
    intro listed a _ hr hy H
    refine ⟨fun h => (by rw [h] at hr; cases hr), fun j hj w hS => ?_⟩
    by_cases hji : j = i
    · subst hji
      exact hy.op hi hS fun w' h' => ⟨h', H⟩
    · have h0 := ready_mono hj hji
      rw [H.1] at h0
      cases h0
  | succ f ih =>
    intro listed a hfree hr hy H
    refine ⟨fun h => (by rw [h] at hr; cases hr), fun j hj w hS => ?_⟩
    by_cases hji : j = i
    · subst hji
      exact hy.op hi hS fun w' h' => ⟨h', H⟩
    · obtain ⟨hjun, oj, hoj, hall⟩ := mem_ready.1 hj
      have hno : ∀ e ∈ oj.after, Region.binds md e = true → e.on ≠ i := fun e he hb heq => by
        have h1 := hall e he hb
        have h0 := (mem_ready.1 hr).1
        rw [heq] at h1
        rcases Nat.lt_or_ge i listed.size with h' | h'
        · simp [h'] at h0 h1; rw [h0] at h1; cases h1
        · simp [Array.getElem?_eq_none h'] at h1
      have h2 := op_apart hoj (hfree j oj hoj hji hjun hno) (fun cs b => hsel i oi cs b hi) (fun cs b => hsel j oj cs b hoj) hQ hy (H.2 j (ready_mono hj hji) w hS)
      refine wpOp_mono (fun a' w' h3 => ⟨h3.2.1, ih (listed.setIfInBounds j true) a' (fun k ok hk hki hun hn => ?_) (ready_mono hr (Ne.symm hji)) h3.1 ?_⟩) h2
      · refine hfree k ok hk hki ?_ hn
        by_cases hjk : j = k
        · subst hjk; exact hjun
        · rw [getD_set_ne true hjk] at hun; exact hun
      · rw [Array.setIfInBounds_comm _ _ hji]
        exact h3.2.2
theorem all_take {i : Nat} {oi : Oper} {v : Value} {f : Nat} {listed : Array Bool} {a : Act} (hi : ops[i]? = some oi)
    (hs : Region.noSelect ops = true) (hf : Region.free md ops listed i = true) (hr : (Region.ready md ops listed).contains i = true)
    (hQ : ∀ c a w, Q (.panic c) (a.put oi.dst v) w → Q (.panic c) a w) (hy : Tame P ops S oi v a)
    (h : wpAll P md ops Q S f (listed.setIfInBounds i true) (a.put oi.dst v)) : wpAll P md ops Q S (f + 1) listed a :=
  all_first hi (Region.noSelect_spec hs) hQ f listed a (Region.free_spec hi hf) (by simpa using hr) hy h
theorem all_done {listed : Array Bool} {a : Act} (hr : Region.ready md ops listed = []) (h : ∀ w, S w → Q .normal a w) : ∀ f, wpAll P md ops Q S f listed a
  | 0 => ⟨hr, h⟩
  | _ + 1 => ⟨fun _ => h, by rw [hr]; simp⟩
theorem region_all (S : World → Prop) {id : Nat} {a : Act} {w : World} (hm : P.follows .mixedOrders = true) (hS : S w.drew)
    (h : wpAll P .any ops Q S ops.size (Array.replicate ops.size false) a) : (Code.region id ops true).wp P Q a w :=
  wp_region_any hm (wpAny_of_all _ _ _ _ hS h)
theorem Tame.yes {o : Oper} {v : Value} {a : Act} (hw : Region.wanted o (yielded ops a.tmps) = true) (h : ∀ w, S w → GivesV P S v ((execOp a.eval o).run P w)) : Tame P ops S o v a := .inl ⟨hw, h⟩
theorem Tame.no {o : Oper} {a : Act} (hw : Region.wanted o (yielded ops a.tmps) = false) : Tame P ops S o undef a := .inr ⟨hw, rfl⟩
theorem gives_mk {u v : Value} {w : World} (h : u = v) (hS : S w) : GivesV P S v (.ok (.value u) w) := ⟨h, hS⟩
theorem gives_call {f : FuncId} {args : Array Value} {v : Value} {w : World} (h : Calls P f args w fun e w'' => e = .returned v ∧ S w'') : GivesV P S v (.ok (.enter f args) w) := h
end
def PairsAt (w : World) (v : Value) (xs : List (Int × Int)) : Prop :=
  ∃ A c, v = .slice A xs.length c ∧ xs.length ≤ c ∧ (0 < xs.length → ∃ b o, A = some ⟨b, o, none⟩ ∧ b < w.heap.size ∧ ∀ j p, xs[j]? = some p → w.cell? ⟨b, o + j * 2, none⟩ = some (.int .i64 p.1) ∧ w.cell? ⟨b, o + j * 2 + 1, none⟩ = some (.int .i64 p.2))
theorem PairsAt.ext {w w' : World} {v : Value} {xs : List (Int × Int)} (h : PairsAt w v xs) (hx : Ext w w') : PairsAt w' v xs := by
  obtain ⟨A, c, rfl, hc, hA⟩ := h
  refine ⟨A, c, rfl, hc, fun h0 => ?_⟩
  obtain ⟨b, o, hb, hlt, hc⟩ := hA h0
  exact ⟨b, o, hb, Nat.lt_of_lt_of_le hlt hx.size, fun j x hj => by rw [Below.cell hx hlt, Below.cell hx hlt]; exact hc j x hj⟩
def pairV (p : Int × Int) : Value := .agg #[.int .i64 p.1, .int .i64 p.2]
def i64ok (x : Int) : Prop := -9223372036854775808 ≤ x ∧ x ≤ 9223372036854775807
def Sl.lt (a b : Int × Int) : Prop := a.1 < b.1 ∨ a.1 = b.1 ∧ a.2 < b.2
instance (a b : Int × Int) : Decidable (Sl.lt a b) := by unfold Sl.lt; exact inferInstance
def Sl.fit (p : Int × Int) : Prop := 0 ≤ p.1 ∧ p.1 < 4611686018427387904 ∧ 1 ≤ p.2
instance (p : Int × Int) : Decidable (Sl.fit p) := by unfold Sl.fit; exact inferInstance
theorem Sl.lt_trans {a b c : Int × Int} (h : Sl.lt a b) (k : Sl.lt b c) : Sl.lt a c := by unfold Sl.lt at *; omega
def Sl.May (l : List (Int × Int)) : Prop := (∀ p ∈ l, Sl.fit p) ∧ l.Pairwise Sl.lt ∧ (l.map Prod.snd).Nodup
instance (l : List (Int × Int)) : Decidable (Sl.May l) := by unfold Sl.May; exact inferInstance
theorem Sl.May.nil : Sl.May [] := ⟨by simp, by simp, by simp⟩
theorem Sl.May.sub {l m : List (Int × Int)} (h : Sl.May m) (hs : l.Sublist m) : Sl.May l :=
  ⟨fun p hp => h.1 p (hs.subset hp), h.2.1.sublist hs, h.2.2.sublist (hs.map _)⟩
theorem Sl.may_snoc {l : List (Int × Int)} {p : Int × Int} : Sl.May (l ++ [p]) ↔ Sl.May l ∧ Sl.fit p ∧ (∀ q, l.getLast? = some q → Sl.lt q p) ∧ p.2 ∉ l.map Prod.snd := by
  constructor
  · intro h
    refine ⟨h.sub (List.sublist_append_left _ _), h.1 p (by simp), fun q hq => ?_, ?_⟩
    · have := (List.pairwise_append.1 h.2.1).2.2 q (List.mem_of_getLast? hq) p (by simp)
      exact this
    · have h3 := h.2.2
      rw [List.map_append, List.nodup_append] at h3
      intro hm
      exact h3.2.2 _ hm p.2 (by simp) rfl
  · rintro ⟨h, hf, hlt, hn⟩
    refine ⟨fun q hq => ?_, ?_, ?_⟩
    · rcases List.mem_append.1 hq with hq | hq
      · exact h.1 q hq
      · rw [List.mem_singleton.1 hq]; exact hf
    · refine List.pairwise_append.2 ⟨h.2.1, by simp, fun a ha b hb => ?_⟩
      rw [List.mem_singleton.1 hb]
      rcases List.eq_nil_or_concat l with rfl | ⟨l', z, rfl⟩
      · simp at ha
      · have hz := hlt z (by simp)
        rw [List.concat_eq_append] at ha h
        rcases List.mem_append.1 ha with ha | ha
        · exact Sl.lt_trans ((List.pairwise_append.1 h.2.1).2.2 a ha z (by simp)) hz
        · rw [List.mem_singleton.1 ha]; exact hz
    · rw [List.map_append, List.nodup_append]
      refine ⟨h.2.2, by simp, fun a ha b hb => ?_⟩
      simp at hb
      subst hb
      intro he
      exact hn (he ▸ ha)
set_option maxRecDepth 100000 in
set_option maxHeartbeats 1000000 in
theorem before_any (a b : Int × Int) (w : World) : Calls Try.prog 102 #[pairV a, pairV b] w fun e w' => e = .returned (.bool (decide (Sl.lt a b))) ∧ Ext w w' := by
  obtain ⟨a0, a1⟩ := a
  obtain ⟨b0, b1⟩ := b
  unfold pairV
  simp only
  by_cases h0 : a0 < b0
  · rw [show decide (Sl.lt (a0, a1) (b0, b1)) = true from decide_eq_true (Or.inl h0)]
    go_enter Try.func102, Try.ntmps102
    go_wp2
    go_ret
    exact ⟨rfl, ((Ext.refl _).alloc _).alloc _⟩
  · by_cases h1 : a0 = b0
    · subst h1
      rw [show decide (Sl.lt (a0, a1) (a0, b1)) = decide (a1 < b1) from decide_eq_decide.2 (show (a0 < a0 ∨ a0 = a0 ∧ a1 < b1) ↔ a1 < b1 by omega)]
      go_enter Try.func102, Try.ntmps102
      go_wp2
      go_ret
      exact ⟨rfl, ((Ext.refl _).alloc _).alloc _⟩
    · have hb : (a0 == b0) = false := by simpa using h1
      rw [show decide (Sl.lt (a0, a1) (b0, b1)) = false from decide_eq_false (show ¬ (a0 < b0 ∨ a0 = b0 ∧ a1 < b1) by omega)]
      go_enter Try.func102, Try.ntmps102
      go_wp2
      go_ret
      exact ⟨rfl, ((Ext.refl _).alloc _).alloc _⟩
def allIx {α : Type} (f : Nat → α → Bool) : Nat → List α → Bool
  | _, [] => true
  | i, x :: l => f i x && allIx f (i + 1) l
theorem allIx_iff {α : Type} {f : Nat → α → Bool} : ∀ {l : List α} {i : Nat}, allIx f i l = true ↔ ∀ (j : Nat) x, l[j]? = some x → f (i + j) x = true
  | [], i => by simp [allIx]
  | x :: l, i => by
    rw [allIx, Bool.and_eq_true, allIx_iff (l := l)]
    constructor
    · rintro ⟨h1, h2⟩ j y hj
      match j, hj with
      | 0, hj => simp at hj; subst hj; exact h1
      | j + 1, hj => have := h2 j y (by simpa using hj); rwa [Nat.add_assoc, Nat.add_comm 1 j] at this
    · intro h
      exact ⟨h 0 x rfl, fun j y hj => by have := h (j + 1) y (by simpa using hj); rwa [Nat.add_assoc, Nat.add_comm 1 j]⟩
theorem allIx_no {α : Type} {f : Nat → α → Bool} {l : List α} {j : Nat} {x : α} (hj : l[j]? = some x) (h : f j x = false) : allIx f 0 l = false := by
  cases ha : allIx f 0 l with
  | false => rfl
  | true => have := allIx_iff.1 ha j x hj; rw [Nat.zero_add, h] at this; cases this
theorem allIx_yes {α : Type} {f : Nat → α → Bool} {l : List α} (h : ∀ (j : Nat) x, l[j]? = some x → f j x = true) : allIx f 0 l = true := allIx_iff.2 fun j x hj => by rw [Nat.zero_add]; exact h j x hj
theorem all_no {α : Type} {f : α → Bool} {l : List α} {j : Nat} {x : α} (hj : l[j]? = some x) (h : f x = false) : l.all f = false := by
  cases ha : l.all f with
  | false => rfl
  | true => have := List.all_eq_true.1 ha x (List.mem_of_getElem? hj); rw [h] at this; cases this
theorem all_yes {α : Type} {f : α → Bool} {l : List α} (h : ∀ (j : Nat) x, l[j]? = some x → f x = true) : l.all f = true := List.all_eq_true.2 fun x hx => by
  obtain ⟨j, hj⟩ := List.mem_iff_getElem?.1 hx
  exact h j x hj
namespace Pg
def most (n : Int) (d : Int) : Int := if d = 1 then n - 1 else if d = 3 ∨ d = 4 then 3 else if d = 6 then 1000 else 0
def okI (n : Int) (x : Int × Int) : Bool := decide (0 ≤ x.1 ∧ x.1 ≤ 6 ∧ 0 ≤ x.2 ∧ x.2 ≤ most n x.1)
def okC (n : Int) (l : List (Int × Int)) : Bool := decide (l.length ≤ 20) && l.all (okI n)
def may (p : List (List (Int × Int))) : Bool := decide (1 ≤ p.length ∧ p.length ≤ 8) && p.all (okC p.length)
def small (p : List (List (Int × Int))) : Bool := (p.all fun l => decide (l.length ≤ 30)) && decide (p.length ≤ 12)
theorem small_iff {p : List (List (Int × Int))} : small p = true ↔ (∀ l ∈ p, l.length ≤ 30) ∧ p.length ≤ 12 := by simp [small]
end Pg
structure Gr where
  func : Int
  pc : Int
  st : Int
  m : Int
  seq : Int
structure Pr where
  m : Int
  next : Int
  ring : Ri
  seq : Int
structure St where
  prog : List (List (Int × Int))
  gs : List Gr
  ps : List Pr
  ms : List (Int × Int)
  glob : List Int
  c0 : Int
  c1 : Int
  c2 : Int
  c3 : Int
  w0 : List Int
  w1 : List Int
  w2 : List Int
  w3 : List Int
  timers : List (Int × Int)
  clock : Int
  procs : Int
namespace St
def low (n : Int) : Bool := decide (0 ≤ n ∧ n < 2305843009213693952)
def times (l : List Int) (n : Int) : Nat := l.count n
def queueOf (p : Pr) : List Int := (if p.next ≠ 0 then [p.next] else []) ++ p.ring.list
def runs (s : St) : List Int := s.ps.flatMap queueOf ++ s.glob
def waits (s : St) : List Int := s.w0 ++ s.w1 ++ s.w2 ++ s.w3
def waiters (s : St) : List Int := s.waits ++ s.timers.map Prod.snd
def onM (s : St) (b : Bool) : List Int := (s.ms.filter fun m => m.2 != 0 && ((m.1 != 0) == b)).map Prod.snd
def good (s : St) (g : Gr) : Bool := decide (0 ≤ g.func ∧ g.func < s.prog.length ∧ 0 ≤ g.pc) && low g.seq && decide (g.pc ≤ (s.prog.getD g.func.toNat []).length)
def goods (s : St) : Bool := s.gs.all s.good
def holdP (s : St) (i : Nat) (p : Pr) : Bool :=
  p.ring.may && low p.seq && decide (0 ≤ p.m ∧ p.m ≤ s.ms.length) && decide (0 < p.m → (s.ms.getD (p.m - 1).toNat (0, 0)).1 = i + 1) && !(decide (s.procs ≤ i) && (decide (0 < p.m) || decide (p.next ≠ 0) || decide (0 < p.ring.n)))
def nilP : Pr := ⟨0, 0, ⟨[], 0, 0⟩, 0⟩
def nilG : Gr := ⟨0, 0, 0, 0, 0⟩
def holdM (s : St) (i : Nat) (m : Int × Int) : Bool := decide (0 ≤ m.1 ∧ m.1 ≤ s.ps.length) && decide (0 < m.1 → (s.ps.getD (m.1 - 1).toNat nilP).m = i + 1)
def holds (s : St) : Bool := allIx s.holdP 0 s.ps && allIx s.holdM 0 s.ms
def within (l : List Int) (n : Int) : Bool := l.all fun x => decide (1 ≤ x ∧ x ≤ n)
def want (st i : Int) : Nat := if st = i then 1 else 0
def stands (s : St) (i : Nat) (g : Gr) : Bool :=
  decide (1 ≤ g.st ∧ g.st ≤ 5) && decide (times s.runs (i + 1) = want g.st 1 ∧ times (s.onM true) (i + 1) = want g.st 2 ∧ times s.waiters (i + 1) = want g.st 3 ∧ times (s.onM false) (i + 1) = want g.st 4) &&
  (if g.st ≠ 2 ∧ g.st ≠ 4 then decide (g.m = 0) else decide (1 ≤ g.m ∧ g.m ≤ s.ms.length) && decide ((s.ms.getD (g.m - 1).toNat (0, 0)).2 = i + 1))
def okCnt (c : Int) (l : List Int) : Bool := decide (0 ≤ c ∧ c ≤ 1000000) && !(decide (0 < c) && decide (0 < l.length))
def counts (s : St) : Bool := okCnt s.c0 s.w0 && okCnt s.c1 s.w1 && okCnt s.c2 s.w2 && okCnt s.c3 s.w3
def whole (s : St) : Bool := Pg.may s.prog && decide (1 ≤ s.gs.length ∧ s.gs.length ≤ 1000 ∧ s.ps.length = 8 ∧ 1 ≤ s.procs ∧ s.procs ≤ 8 ∧ s.ms.length ≤ 1000) && low s.clock && decide (Sl.May s.timers)
def allIn (s : St) : Bool := within s.runs s.gs.length && within s.waiters s.gs.length && within (s.onM true) s.gs.length && within (s.onM false) s.gs.length
def may (s : St) : Bool := s.whole && s.goods && s.holds && s.counts && s.allIn && allIx s.stands 0 s.gs
end St
section
variable {P : Program} {ops : Array Oper} {Q : Exit → Act → World → Prop} {md : Region.Mode}
def waitsFor (md : Region.Mode) (ops : Array Oper) : Nat → Nat → Nat → Bool
  | 0, _, _ => false
  | f + 1, k, i =>
    match ops[k]? with
    | some o => o.after.any fun e => Region.binds md e && (e.on == i || waitsFor md ops f e.on i)
    | none => false
def Closed (md : Region.Mode) (ops : Array Oper) (listed : Array Bool) : Prop := ∀ (j : Nat) (o : Oper), ops[j]? = some o → listed.getD j false = true → ∀ e ∈ o.after, Region.binds md e = true → listed.getD e.on false = true
def closedB (md : Region.Mode) (ops : Array Oper) (listed : Array Bool) : Bool :=
  (List.range ops.size).all fun j => !(listed.getD j false) || match ops[j]? with | some o => o.after.all (fun e => !(Region.binds md e) || listed.getD e.on false) | none => true
theorem closed_of {listed : Array Bool} (h : closedB md ops listed = true) : Closed md ops listed := by
  intro j o hj hl e he hb
  have hlt : j < ops.size := (Array.getElem?_eq_some_iff.1 hj).1
  unfold closedB at h
  have h1 := List.all_eq_true.1 h j (List.mem_range.2 hlt)
  rw [hj, hl] at h1
  simp only [Bool.not_true, Bool.false_or] at h1
  have h2 := Array.all_eq_true'.1 h1 e he
  rw [hb] at h2
  simpa using h2
theorem Closed.set {listed : Array Bool} {j : Nat} {oj : Oper} (h : Closed md ops listed) (hoj : ops[j]? = some oj) (hall : ∀ e ∈ oj.after, Region.binds md e = true → listed.getD e.on false = true) : Closed md ops (listed.setIfInBounds j true) := by
  intro i o hi hl e he hb
  by_cases hij : j = i
  · subst hij
    rw [hoj] at hi
    injection hi with hi
    subst hi
    exact getD_set_true (hall e he hb)
  · rw [getD_set_ne false hij] at hl
    exact getD_set_true (h i o hi hl e he hb)
theorem waits_listed {listed : Array Bool} (h : Closed md ops listed) : ∀ (f k i : Nat) (o : Oper), ops[k]? = some o → waitsFor md ops f k i = true → (∀ e ∈ o.after, Region.binds md e = true → listed.getD e.on false = true) → listed.getD i false = true
  | 0, _, _, _, _, hw, _ => by simp [waitsFor] at hw
  | f + 1, k, i, o, hk, hw, hd => by
    simp only [waitsFor, hk, Array.any_eq_true, Bool.and_eq_true, Bool.or_eq_true, beq_iff_eq] at hw
    obtain ⟨x, hx, hb, hor⟩ := hw
    have hl := hd _ (Array.getElem_mem hx) hb
    rcases hor with he | hw
    · rw [← he]; exact hl
    · cases ho : ops[(o.after[x]).on]? with
      | none =>
        cases f with
        | zero => simp [waitsFor] at hw
        | succ f => simp [waitsFor, ho] at hw
      | some o' => exact waits_listed h f _ i o' ho hw (h _ o' ho hl)
theorem GivesV.mono {S T : World → Prop} {v : Value} {r : Result Next} (h : GivesV P S v r) (hs : ∀ w, S w → T w) : GivesV P T v r := by
  unfold GivesV at *
  cases r with
  | halt x w => exact h
  | ok n w =>
    cases n with
    | value u => exact ⟨h.1, hs _ h.2⟩
    | skip => exact ⟨h.1, hs _ h.2⟩
    | enter f args => exact Calls.mono h fun e w' he => ⟨he.1, hs _ he.2⟩
    | _ => exact h
def Still (P : Program) (ops : Array Oper) (U : World → Prop) (o : Oper) (v : Value) (a : Act) : Prop :=
  (Region.wanted o (yielded ops a.tmps) = true ∧ ∀ w, U w → GivesV P (fun w' => w' = w) v ((execOp a.eval o).run P w)) ∨
  (Region.wanted o (yielded ops a.tmps) = false ∧ v = undef)
theorem Still.tame {U S : World → Prop} {o : Oper} {v : Value} {a : Act} (h : Still P ops U o v a) (hs : ∀ w, S w → U w) : Tame P ops S o v a := by
  rcases h with ⟨h1, h2⟩ | h
  · exact .inl ⟨h1, fun w hw => (h2 w (hs w hw)).mono fun w' h => h ▸ hw⟩
  · exact .inr h
theorem Still.yes {U : World → Prop} {o : Oper} {v : Value} {a : Act} (hw : Region.wanted o (yielded ops a.tmps) = true) (h : ∀ w, U w → GivesV P (fun w' => w' = w) v ((execOp a.eval o).run P w)) : Still P ops U o v a := .inl ⟨hw, h⟩
theorem Still.no {U : World → Prop} {o : Oper} {a : Act} (hw : Region.wanted o (yielded ops a.tmps) = false) : Still P ops U o undef a := .inr ⟨hw, rfl⟩
end
section
variable {P : Program} {ops : Array Oper} {Q : Exit → Act → World → Prop} {md : Region.Mode} {z : Nat} {C : World → Prop}
def wpG (P : Program) (md : Region.Mode) (ops : Array Oper) (Q : Exit → Act → World → Prop) (z : Nat) (C : World → Prop) : Nat → (World → Prop) → Array Bool → Act → Prop
  | 0, S, listed, a => Region.ready md ops listed = [] ∧ ∀ w, S w → Q .normal a w
  | f + 1, S, listed, a => (Region.ready md ops listed = [] → ∀ w, S w → Q .normal a w) ∧
      ∀ i ∈ Region.ready md ops listed, ∃ T : Value → World → Prop, (∀ v w, T v w → (listed.setIfInBounds i true).getD z false = false → C w) ∧
        ∀ w, S w → wpOp P ops Q i (fun a' w' => ∃ v, T v w' ∧ wpG P md ops Q z C f (T v) (listed.setIfInBounds i true) a') a w
theorem wpAny_of_g : ∀ (f : Nat) (S : World → Prop) (listed : Array Bool) (a : Act) (w : World), S w → wpG P md ops Q z C f S listed a → wpAny P md ops Q f listed a w
  | 0, _, _, _, _, hS, h => ⟨h.1, h.2 _ hS⟩
  | f + 1, _, _, _, _, hS, h => ⟨fun h0 => h.1 h0 _ hS, fun i hi => by
      obtain ⟨T, _, h2⟩ := h.2 i hi
      exact wpOp_mono (fun a' w' ⟨v, h', h''⟩ => wpAny_of_g f (T v) _ a' w' h' h'') (h2 _ hS)⟩
theorem op_apart_eq {j : Nat} {oi oj : Oper} {v : Value} {a : Act} {w : World} (hj : ops[j]? = some oj) (hap : oi.apart ops oj = true)
    (hsi : ∀ cs b, oi.op ≠ .select cs b) (hsj : ∀ cs b, oj.op ≠ .select cs b)
    (hQ : ∀ c a w, Q (.panic c) (a.put oi.dst v) w → Q (.panic c) a w) {K : Act → World → Prop}
    (h : wpOp P ops Q j K (a.put oi.dst v) w) :
    wpOp P ops Q j (fun a' w' => (execOp a'.eval oi = execOp a.eval oi ∧ Region.wanted oi (yielded ops a'.tmps) = Region.wanted oi (yielded ops a.tmps)) ∧ K (a'.put oi.dst v) w') a w := by
  obtain ⟨h1, h2, h3⟩ := Oper.apart_spec hap
  have keep : ∀ u, execOp (a.put oj.dst u).eval oi = execOp a.eval oi ∧ Region.wanted oi (yielded ops (a.put oj.dst u).tmps) = Region.wanted oi (yielded ops a.tmps) := fun u => ⟨execOp_put oi hsi a oj.dst u h3, wanted_put oi a oj.dst u h3⟩
  have swap : ∀ u w', K ((a.put oi.dst v).put oj.dst u) w' → (execOp (a.put oj.dst u).eval oi = execOp a.eval oi ∧ Region.wanted oi (yielded ops (a.put oj.dst u).tmps) = Region.wanted oi (yielded ops a.tmps)) ∧ K ((a.put oj.dst u).put oi.dst v) w' :=
    fun u w' hk => ⟨keep u, by rw [← Act.put_comm a v u h2]; exact hk⟩
  unfold wpOp at *
  simp only [hj] at *
  rw [wanted_put oj a oi.dst v h1] at h
  split
  · rename_i hw
    simp only [hw, if_true] at h
    rcases h with h | ⟨hasks, hlets⟩
    · left
      unfold Oper.wp at *
      rw [execOp_put oj hsj a oi.dst v h1] at h
      generalize (execOp a.eval oj).run P w = r at *
      cases r with
      | ok n w' =>
        cases n <;> simp only [Oper.upon] at h ⊢
        case value u => exact swap u w' h
        case skip => exact swap _ w' h
        case defer d =>
          refine ⟨⟨execOp_put oi hsi { a with defers := d :: a.defers } oj.dst _ h3, wanted_put oi { a with defers := d :: a.defers } oj.dst _ h3⟩, ?_⟩
          rw [← Act.put_comm _ v undef h2, ← Act.put_defers]
          exact h
        case enter f args =>
          refine Calls.mono h fun e w'' he => ?_
          cases e with
          | returned u => exact swap u w'' he
          | panicked c => exact hQ _ _ _ he
          | outgrown => exact he
        case row row args => exact Rows.mono h fun u w'' he => swap u w'' he
      | halt x w' =>
        cases x <;> simp only [Oper.upon] at h ⊢
        case panic u => exact hQ _ _ _ h
    · right
      unfold Oper.asks at *
      rw [execOp_put oj hsj a oi.dst v h1] at hasks
      exact ⟨hasks, hlets⟩
  · rename_i hw
    simp only [hw] at h
    exact swap _ w h
theorem Still.same {U : World → Prop} {o : Oper} {v : Value} {a b : Act} (h : Still P ops U o v a) (he : execOp b.eval o = execOp a.eval o)
    (hw : Region.wanted o (yielded ops b.tmps) = Region.wanted o (yielded ops a.tmps)) : Still P ops U o v b := by
  unfold Still at *
  rw [he, hw]
  exact h
theorem g_first (needs : Bool) {i : Nat} {oi : Oper} {v : Value} (hi : ops[i]? = some oi) (hsel : ∀ (j : Nat) (o : Oper) cs b, ops[j]? = some o → o.op ≠ .select cs b)
    (hQ : ∀ c a w, Q (.panic c) (a.put oi.dst v) w → Q (.panic c) a w) (hiz : i ≠ z) (hw : needs = true → ops.size ≤ z ∨ waitsFor md ops ops.size z i = true) :
    ∀ (f : Nat) (S : World → Prop) (listed : Array Bool) (a : Act), (needs = true → listed.size = ops.size) →
      (∀ j oj, ops[j]? = some oj → j ≠ i → listed.getD j true = false → (∀ e ∈ oj.after, Region.binds md e = true → e.on ≠ i) → oi.apart ops oj = true) →
      i ∈ Region.ready md ops listed → (needs = true → Closed md ops listed) → (∀ w, S w → listed.getD z false = false → C w) →
      Still P ops (if needs = true then C else fun _ => True) oi v a →
      wpG P md ops Q z C f S (listed.setIfInBounds i true) (a.put oi.dst v) → wpG P md ops Q z C (f + 1) S listed a := by
  -- in every world of such a phase the operation can be carried out
  have can : ∀ (S : World → Prop) (listed : Array Bool) (a : Act), (needs = true → listed.size = ops.size) → i ∈ Region.ready md ops listed → (needs = true → Closed md ops listed) → (∀ w, S w → listed.getD z false = false → C w) →
      Still P ops (if needs = true then C else fun _ => True) oi v a → Tame P ops S oi v a := fun S listed a hsz hr hcl hSC hy => hy.tame fun w hS => by
    by_cases hn : needs = true
    · rw [if_pos hn]
      refine hSC w hS ?_
      have h0 := (mem_ready.1 hr).1
      cases hz : listed.getD z false with
      | false => rfl
      | true =>
        exfalso
        rcases hw hn with hge | hwz
        · have : listed.getD z false = false := by simp [Array.getElem?_eq_none (show listed.size ≤ z by rw [hsz hn]; exact hge)]
          rw [this] at hz; cases hz
        · cases ho : ops[z]? with
          | none =>
            have : ∀ f, waitsFor md ops (f + 1) z i = false := fun f => by simp [waitsFor, ho]
            cases hs : ops.size with
            | zero => rw [hs] at hwz; simp [waitsFor] at hwz
            | succ f => rw [hs, this] at hwz; cases hwz
          | some oz =>
            have h1 := waits_listed (hcl hn) _ _ _ oz ho hwz ((hcl hn) z oz ho hz)
            rcases Nat.lt_or_ge i listed.size with h' | h'
            · simp [h'] at h0 h1; rw [h0] at h1; cases h1
            · simp [Array.getElem?_eq_none h'] at h1
    · rw [if_neg hn]; trivial
  have step : ∀ (S : World → Prop) (listed : Array Bool) (a : Act) (f : Nat), (∀ w, S w → listed.getD z false = false → C w) → Tame P ops S oi v a → wpG P md ops Q z C f S (listed.setIfInBounds i true) (a.put oi.dst v) →
      ∃ T : Value → World → Prop, (∀ v w, T v w → (listed.setIfInBounds i true).getD z false = false → C w) ∧
        ∀ w, S w → wpOp P ops Q i (fun a' w' => ∃ v, T v w' ∧ wpG P md ops Q z C f (T v) (listed.setIfInBounds i true) a') a w := fun S listed a f hSC hy H =>
    ⟨fun _ => S, fun _ w hS hz => hSC w hS (by rwa [getD_set_ne false hiz] at hz), fun w hS => hy.op hi hS fun w' h' => ⟨undef, h', H⟩⟩
  intro f
  induction f with
  | zero =>
    intro S listed a hsz _ hr hcl hSC hy H
    refine ⟨fun h => (by rw [h] at hr; cases hr), fun j hj => ?_⟩
    by_cases hji : j = i
    · subst hji
      exact step S listed a 0 hSC (can S listed a hsz hr hcl hSC hy) H
    · have h0 := ready_mono hj hji
      rw [H.1] at h0
      cases h0
  | succ f ih =>
    intro S listed a hsz hfree hr hcl hSC hy H
    refine ⟨fun h => (by rw [h] at hr; cases hr), fun j hj => ?_⟩
    by_cases hji : j = i
    · subst hji
      exact step S listed a (f + 1) hSC (can S listed a hsz hr hcl hSC hy) H
    · obtain ⟨hjun, oj, hoj, hall⟩ := mem_ready.1 hj
      have hap : oi.apart ops oj = true := hfree j oj hoj hji hjun fun e he hb heq => by
        have h1 := hall e he hb
        have h0 := (mem_ready.1 hr).1
        rw [heq] at h1
        rcases Nat.lt_or_ge i listed.size with h' | h'
        · simp [h'] at h0 h1; rw [h0] at h1; cases h1
        · simp [Array.getElem?_eq_none h'] at h1
      have keep : ∀ k ok, ops[k]? = some ok → k ≠ i → (listed.setIfInBounds j true).getD k true = false → (∀ e ∈ ok.after, Region.binds md e = true → e.on ≠ i) → oi.apart ops ok = true := fun k ok hk hki hun hn => by
        refine hfree k ok hk hki ?_ hn
        by_cases hjk : j = k
        · subst hjk; exact hjun
        · rw [getD_set_ne true hjk] at hun; exact hun
      obtain ⟨T, hTC, hH⟩ := H.2 j (ready_mono hj hji)
      have hTC' : ∀ u w, T u w → (listed.setIfInBounds j true).getD z false = false → C w := fun u w hT hz => hTC u w hT (by
        rw [Array.setIfInBounds_comm _ _ (Ne.symm hji), getD_set_ne false hiz]; exact hz)
      refine ⟨T, hTC', fun w hS => ?_⟩
      have h2 := op_apart_eq hoj hap (fun cs b => hsel i oi cs b hi) (fun cs b => hsel j oj cs b hoj) hQ (hH w hS)
      obtain ⟨h1, h2', h3'⟩ := Oper.apart_spec hap
      refine wpOp_mono (fun a' w' h3 => ?_) h2
      obtain ⟨hsame, u, h4, h5⟩ := h3
      have hy' := hy.same hsame.1 hsame.2
      refine ⟨u, h4, ?_⟩
      refine ih (T u) (listed.setIfInBounds j true) a' (fun hn => by simp [hsz hn]) keep (ready_mono hr (Ne.symm hji)) (fun hn => (hcl hn).set hoj hall) (hTC' u) hy' ?_
      rw [Array.setIfInBounds_comm _ _ hji]
      exact h5
theorem g_take {S : World → Prop} {i : Nat} {oi : Oper} {v : Value} {f : Nat} {listed : Array Bool} {a : Act} (hSC : ∀ w, S w → listed.getD z false = false → C w) (hi : ops[i]? = some oi)
    (hs : Region.noSelect ops = true) (hf : Region.free md ops listed i = true) (hr : (Region.ready md ops listed).contains i = true) (hz : (i != z && listed.size == ops.size && (decide (ops.size ≤ z) || waitsFor md ops ops.size z i)) = true) (hcl : closedB md ops listed = true)
    (hQ : ∀ c a w, Q (.panic c) (a.put oi.dst v) w → Q (.panic c) a w) (hy : Still P ops C oi v a)
    (h : wpG P md ops Q z C f S (listed.setIfInBounds i true) (a.put oi.dst v)) : wpG P md ops Q z C (f + 1) S listed a := by
  simp only [Bool.and_eq_true, bne_iff_ne, beq_iff_eq, Bool.or_eq_true, decide_eq_true_eq] at hz
  exact g_first true hi (Region.noSelect_spec hs) hQ hz.1.1 (fun _ => hz.2) f S listed a (fun _ => hz.1.2) (Region.free_spec hi hf) (by simpa using hr) (fun _ => closed_of hcl) hSC (by rw [if_pos rfl]; exact hy) h
theorem g_done {S : World → Prop} {listed : Array Bool} {a : Act} (hr : Region.ready md ops listed = []) (h : ∀ w, S w → Q .normal a w) : ∀ f, wpG P md ops Q z C f S listed a
  | 0 => ⟨hr, h⟩
  | _ + 1 => ⟨fun _ => h, by rw [hr]; simp⟩
theorem g_turn (T : Value → World → Prop) {S : World → Prop} {k f : Nat} {listed : Array Bool} {a : Act} (hr : Region.ready md ops listed = [k]) (hT : ∀ v w, T v w → (listed.setIfInBounds k true).getD z false = false → C w)
    (h : ∀ w, S w → wpOp P ops Q k (fun a' w' => ∃ v, T v w' ∧ wpG P md ops Q z C f (T v) (listed.setIfInBounds k true) a') a w) : wpG P md ops Q z C (f + 1) S listed a :=
  ⟨fun h => (by rw [hr] at h; cases h), fun i hi => by rw [hr, List.mem_singleton] at hi; subst hi; exact ⟨T, hT, h⟩⟩
theorem region_g (z : Nat) (C S : World → Prop) {id : Nat} {a : Act} {w : World} (hm : P.follows .mixedOrders = true) (hS : S w.drew)
    (h : wpG P .any ops Q z C ops.size S (Array.replicate ops.size false) a) : (Code.region id ops true).wp P Q a w :=
  wp_region_any hm (wpAny_of_g _ _ _ _ _ hS h)
end
end Go.Proofs.Ytdcbaddndoilfaa
