/-
  The contract of ring.elements: an iterator of two variables that reads a ring.
-/
import Derived.Test.YtdpmogbibmgolaaNa
import Derived.RangeFuncBox
import Derived.RangeFuncLeaves
import Derived.RangeFuncNested
import Derived.RangeFuncBound
import Derived.RangeFuncCalls
import Derived.Shelf.Abstract
import Derived.Shelf.RegionOpen
import Derived.WalkKit
import Derived.OwnWalkIn
import Derived.TacticsInMore
import Derived.LoopNIn
import Derived.LoopIn
set_option linter.unusedVariables false
set_option linter.unusedSimpArgs false
namespace Go.Proofs.Ytdpmogbibmgolaa
open Go.RowKit Go.Shelf
attribute [local go_sem] Oper.semAt_some

/-- A ring that lies in a block. -/
def RingIn (g : Nat) (r : Ri) (W : World) : Prop := W.heap[g]? = some (.cells r.cells 24 (0, 0))
/-- What a round keeps: a block. -/
def KeepsAt (g : Nat) (W W' : World) : Prop := ∀ o, W.heap[g]? = some o → W'.heap[g]? = some o
abbrev encs2 (p : I8) : Array Value := #[.int .i64 p.1.1, .int .i64 p.1.2]
theorem RingIn.buf {g : Nat} {r : Ri} {W : World} (h : RingIn g r W) (hl : r.buf.length = 8) (j : Nat) (hj : j < 8) : W.cell? ⟨g, j, none⟩ = some (.int .i64 (r.buf[j]?.getD 0)) := blk_cell h j _ (Ri.cells_buf hl j hj)
theorem RingIn.head {g : Nat} {r : Ri} {W : World} (h : RingIn g r W) (hl : r.buf.length = 8) : W.cell? ⟨g, 8, none⟩ = some (.int .i64 r.head) ∧ W.cell? ⟨g, 9, none⟩ = some (.int .i64 r.n) := by
  obtain ⟨bs, hd, n⟩ := r
  obtain ⟨b0, b1, b2, b3, b4, b5, b6, b7, rfl⟩ := list8 hl
  exact ⟨blk_cell h 8 _ rfl, blk_cell h 9 _ rfl⟩
set_option maxRecDepth 100000 in
set_option maxHeartbeats 1000000 in
theorem elems1 (F : Fence) (n : Nat) (h18 : F.fn 18) (hro : F.round = none) (hn : 1 ≤ n) (l g hd nn : Nat) (bs : List Int) (hbs : bs.length = 8) (hhd : hd < 8) (hnn : nn ≤ 8) (J Jx : List I8 → World → Prop)
    (hY : ∀ pre x W, J pre W → pre.length < nn → YieldAt F (n - 1) Try.prog l (encs2 x) W fun e W' =>
      (e = .returned (.bool true) ∧ J (pre ++ [x]) W' ∧ KeepsAt g W W') ∨ (e = .returned (.bool false) ∧ Jx (pre ++ [x]) W'))
    (W : World) (hB : RingIn g ⟨bs, hd, nn⟩ W) (h0 : J [] W) :
    CallsIn F n Try.prog 18 #[.func (.yield l) #[] #[], .pointer (some ⟨g, 0, none⟩)] W fun e W' => (∃ v, e = .returned v) ∧
      ((∃ ys, ys = upto (Ri.pair hd bs) nn ∧ J ys W') ∨ (∃ pre, (∃ k, k ≤ nn ∧ pre = upto (Ri.pair hd bs) k) ∧ Jx pre W')) := by
  obtain ⟨hc8, hc9⟩ := hB.head hbs
  have HB := Lib.hid hB
  simp only at hc8 hc9
  refine callsIn_of_wp Try.func18 rfl h18 ?_ hro
  simp only [Try.ntmps18, List.size_toArray, List.length_cons, List.length_nil, Nat.reduceAdd, Nat.reduceSub, Array.replicate_succ, Array.replicate_zero, List.push_toArray, List.append_toArray, List.nil_append, List.cons_append]
  gi_wp2
  gi_loopw [7] (fun i wr => ∃ k : Nat, k ≤ nn ∧ i = .int .i64 k ∧ J (upto (Ri.pair hd bs) k) wr ∧ KeepsAt g W wr)
    (fun i _ => nn - (intOf i).toNat)
  case atStart => exact ⟨0, Nat.zero_le _, rfl, h0, fun _ h => h⟩
  case round =>
    obtain ⟨k, hk, rfl, hJs, hnx⟩ := hrel
    have HN : RingIn g ⟨bs, hd, nn⟩ wr := hnx _ HB.out
    have hcx : ∀ j, j < 8 → wr.cell? ⟨g, j, none⟩ = some (.int .i64 (bs[j]?.getD 0)) := fun j hj => HN.buf hbs j hj
    have hc8' : wr.cell? ⟨g, 8, none⟩ = some (.int .i64 (hd : Int)) := (HN.head hbs).1
    clear HN
    by_cases hlt : k < nn
    · obtain ⟨fn, tmps, assign, body, hy, hR⟩ := hY _ (Ri.pair hd bs k) wr hJs (by rw [upto_len]; exact hlt)
      have hat := hcx ((hd + k) % 8) (by omega)
      have e1 : IntKind.i64.wrap ((hd : Int) + (k : Int)) = ((hd + k : Nat) : Int) := IntWalk.i64_in _ (by omega)
      have e2 : ((hd + k : Nat) : Int).tmod 8 = (((hd + k) % 8 : Nat) : Int) := by rw [Int.tmod_eq_emod_of_nonneg (by omega)]; omega
      have e3 : (0 : Int) ≤ (((hd + k) % 8 : Nat) : Int) := by omega
      have e4 : (((hd + k) % 8 : Nat) : Int) < 8 := by omega
      dsimp only [encs2, Ri.pair] at hy
      clear hcx
      gi_wp2
      refine hR.mono ?_
      rintro e W3 (⟨rfl, hJ3, hk3⟩ | ⟨rfl, hJx3⟩)
      · gi_wp2
        go_roundw
        case rel => exact ⟨k + 1, by omega, by simp, by rw [upto_succ]; exact hJ3, fun o ho => hk3 o (hnx o ho)⟩
        case measure => simp [intOf]; omega
      · gi_wp2
        refine bodyPost_ret (results_none rfl _ _ _) rfl ?_
        exact ⟨⟨_, rfl⟩, .inr ⟨_, ⟨k + 1, by omega, (upto_succ _ _).symm⟩, hJx3⟩⟩
    · obtain rfl : k = nn := by omega
      gi_wp2
      go_end0
      exact ⟨⟨_, rfl⟩, .inl ⟨_, rfl, hJs⟩⟩
set_option maxRecDepth 100000 in
set_option maxHeartbeats 1000000 in
theorem elements_in (F : Fence) (n : Nat) (h17 : F.fn 17) (hro : F.round = none) (b0 b1 b2 b3 b4 b5 b6 b7 hd nn : Int) (w : World) :
    CallsIn F n Try.prog 17 #[.agg #[.int .i64 b0, .int .i64 b1, .int .i64 b2, .int .i64 b3, .int .i64 b4, .int .i64 b5, .int .i64 b6, .int .i64 b7, .int .i64 hd, .int .i64 nn]] w fun e w' =>
      e = .returned (.func (.func 18) #[] #[.pointer (some ⟨w.heap.size, 0, none⟩)]) ∧ w' = w.alloc (.cells #[.int .i64 b0, .int .i64 b1, .int .i64 b2, .int .i64 b3, .int .i64 b4, .int .i64 b5, .int .i64 b6, .int .i64 b7, .int .i64 hd, .int .i64 nn] 24) := by
  refine callsIn_of_wp Try.func17 rfl h17 ?_ hro
  simp only [Try.ntmps17, List.size_toArray, List.length_cons, List.length_nil, Nat.reduceAdd, Nat.reduceSub, Array.replicate_succ, Array.replicate_zero, List.push_toArray, List.append_toArray, List.nil_append, List.cons_append]
  gi_wp2
  go_ret
  exact ⟨rfl, rfl⟩
theorem elements_stops (F : Fence) (n : Nat) (h18 : F.fn 18) (hro : F.round = none) (hn : 1 ≤ n) (g hd nn : Nat) (bs : List Int) (hbs : bs.length = 8) (hhd : hd < 8) (hnn : nn ≤ 8) (w : World) (hg : g < w.heap.size) (hB : RingIn g ⟨bs, hd, nn⟩ w) :
    SeqStopsK F n Try.prog 18 #[.pointer (some ⟨g, 0, none⟩)] encs2 (KeepsAt g) (fun ys => ys = upto (Ri.pair hd bs) nn) (fun pre => ∃ k, k ≤ nn ∧ pre = upto (Ri.pair hd bs) k) nn w := fun l J Jx W hW _ _ hY h0 =>
  elems1 F n h18 hro hn l g hd nn bs hbs hhd hnn J Jx hY W ((hW.block g hg).trans hB) h0

end Go.Proofs.Ytdpmogbibmgolaa
