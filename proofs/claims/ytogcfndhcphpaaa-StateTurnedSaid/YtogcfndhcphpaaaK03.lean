/-
  Several texts in one: Ng, Nh, Ni, Nj, Nk, Nl, Rg, Sa, Ta.
-/
import Derived.Test.YtogcfndhcphpaaaK02
import Derived.Maps.AppendAt
import Derived.Test.YtogcfndhcphpaaaK01
import Derived.Orders
import Derived.Deep.QuietTactic
import Derived.BigQuiet
/-
  The contract of ring.List.
-/
set_option linter.unusedVariables false
set_option linter.unusedSimpArgs false
namespace Go.Proofs.Ytogcfndhcphpaaa
open Go.RowKit Go.Shelf
attribute [local go_sem] Oper.semAt_some

theorem Try.infoRint : (Try.prog.info? 3).map (fun i => (i.zero, i.size, i.bytes)) = some (some (.int .i64 0), 1, 8) := by kernel_rfl
theorem ring_not_row {W : World} {g : Nat} {r : Ri} (h : RingIn g r W) {base k : Nat} {v : Value} {xs : List Value} (hr : W.ownsRow base 3 1 v k xs) : some g ≠ v.ownBlock := by
  rcases hr.2 with ⟨rfl, _⟩ | ⟨g', cap, cur, rfl, _, hgb, _⟩
  · simp [Value.ownBlock]
  · intro e'
    obtain rfl : g = g' := by simpa [Value.ownBlock] using e'
    have := (show W.heap[g]? = _ from h).symm.trans hgb
    simp at this
def seconds (pre : List I8) : List Int := pre.map fun p => p.1.2
theorem seconds_snoc (pre : List I8) (x : I8) : seconds (pre ++ [x]) = seconds pre ++ [x.1.2] := by simp [seconds]
theorem seconds_len (pre : List I8) : (seconds pre).length = pre.length := by simp [seconds]
theorem Ri.list_upto {hd nn : Nat} {bs : List Int} (hm : Ri.may ⟨bs, hd, nn⟩ = true) : Ri.list ⟨bs, hd, nn⟩ = seconds (upto (Ri.pair hd bs) nn) := by
  unfold Ri.list
  rw [if_pos hm]
  simp [seconds, upto, Ri.elem, Ri.pair]
set_option maxRecDepth 100000 in
set_option maxHeartbeats 1000000 in
theorem rlist_no (b0 b1 b2 b3 b4 b5 b6 b7 hd nn : Int) (hm : Ri.may ⟨[b0, b1, b2, b3, b4, b5, b6, b7], hd, nn⟩ = false) (w : World) :
    Calls Try.prog 118 #[.agg #[.int .i64 b0, .int .i64 b1, .int .i64 b2, .int .i64 b3, .int .i64 b4, .int .i64 b5, .int .i64 b6, .int .i64 b7, .int .i64 hd, .int .i64 nn]] w fun e w' => e = .returned (.slice none 0 0) ∧ Ext w w' := by
  have HM := Lib.hid hm
  clear hm
  go_enter Try.func118, Try.ntmps118
  go_wp2_with fail
  refine (rmay_eq b0 b1 b2 b3 b4 b5 b6 b7 hd nn _ HM.out _).mono ?_
  rintro r w1 ⟨rfl, hx1⟩
  go_wp2
  go_ret
  exact ⟨rfl, ((Ext.refl w).alloc _).trans hx1⟩
set_option maxRecDepth 100000 in
set_option maxHeartbeats 2000000 in
theorem rlist_in (b0 b1 b2 b3 b4 b5 b6 b7 : Int) (hd nn : Nat) (hhd : hd < 8) (hnn : nn ≤ 8) (hm : Ri.may ⟨[b0, b1, b2, b3, b4, b5, b6, b7], hd, nn⟩ = true) (w : World) :
    Calls Try.prog 118 #[.agg #[.int .i64 b0, .int .i64 b1, .int .i64 b2, .int .i64 b3, .int .i64 b4, .int .i64 b5, .int .i64 b6, .int .i64 b7, .int .i64 (hd : Int), .int .i64 (nn : Int)]] w fun e w' => ∃ v, e = .returned v ∧ IntsAt w' v (seconds (upto (Ri.pair hd [b0, b1, b2, b3, b4, b5, b6, b7]) nn)) ∧ Ext w w' := by
  have HM := Lib.hid hm
  clear hm
  obtain ⟨i0, hi, hz0, hz1, hz2⟩ := info_parts Try.infoRint
  refine (callsIn_wide (n := 3)).1 ?_
  have h1 : 1 ≤ 3 := by omega
  refine callsIn_of_wp_marks Try.func118 rfl trivial ?_ rfl
  simp only [Try.ntmps118, List.size_toArray, List.length_cons, List.length_nil, Nat.reduceAdd, Nat.reduceSub, Array.replicate_succ, Array.replicate_zero, List.push_toArray, List.append_toArray, List.nil_append, List.cons_append]
  gi_wp2_with fail
  refine ⟨trivial, callsIn_wide.2 ((rmay_eq b0 b1 b2 b3 b4 b5 b6 b7 hd nn _ HM.out _).mono ?_)⟩
  rintro r w1 ⟨rfl, hx1⟩
  obtain ⟨⟨q0, q1, q2, q3, q4⟩, q5, q6, q7, q8, q9⟩ := cells10 (blk_alloc (hx1.blk (blk_new w (.cells #[.int .i64 b0, .int .i64 b1, .int .i64 b2, .int .i64 b3, .int .i64 b4, .int .i64 b5, .int .i64 b6, .int .i64 b7, .int .i64 (hd : Int), .int .i64 (nn : Int)] 38))) (.cells #[.slice none 0 0] 27))
  have HX1 : Hid (Ext w w1) := Lib.hid (((Ext.refl w).alloc _).trans hx1)
  clear hx1
  gi_wp2_with fail
  refine ⟨trivial, (elements_in Fence.wide (3 - 1) trivial rfl _ _ _ _ _ _ _ _ _ _ _).mono ?_⟩
  rintro e w' ⟨rfl, rfl⟩
  clear q0 q1 q2 q3 q4 q5 q6 q7 q8 q9
  gi_wp2_with fail
  have bO := (Boxed.new w1 27 (.slice none 0 0)).alloc (.cells #[.int .i64 b0, .int .i64 b1, .int .i64 b2, .int .i64 b3, .int .i64 b4, .int .i64 b5, .int .i64 b6, .int .i64 b7, .int .i64 (hd : Int), .int .i64 (nn : Int)] 38)
  have hA3 : RingIn (w1.heap.size + 1) ⟨[b0, b1, b2, b3, b4, b5, b6, b7], hd, nn⟩ ((w1.alloc (.cells #[.slice none 0 0] 27)).alloc (.cells #[.int .i64 b0, .int .i64 b1, .int .i64 b2, .int .i64 b3, .int .i64 b4, .int .i64 b5, .int .i64 b6, .int .i64 b7, .int .i64 (hd : Int), .int .i64 (nn : Int)] 38)) := by
    have := blk_new (w1.alloc (.cells #[.slice none 0 0] 27)) (.cells #[.int .i64 b0, .int .i64 b1, .int .i64 b2, .int .i64 b3, .int .i64 b4, .int .i64 b5, .int .i64 b6, .int .i64 b7, .int .i64 (hd : Int), .int .i64 (nn : Int)] 38)
    rwa [World.size_alloc] at this
  have hX0 : Ext w ((w1.alloc (.cells #[.slice none 0 0] 27)).alloc (.cells #[.int .i64 b0, .int .i64 b1, .int .i64 b2, .int .i64 b3, .int .i64 b4, .int .i64 b5, .int .i64 b6, .int .i64 b7, .int .i64 (hd : Int), .int .i64 (nn : Int)] 38)) := (HX1.out.alloc _).alloc _
  have hS3 : ((w1.alloc (.cells #[.slice none 0 0] 27)).alloc (.cells #[.int .i64 b0, .int .i64 b1, .int .i64 b2, .int .i64 b3, .int .i64 b4, .int .i64 b5, .int .i64 b6, .int .i64 b7, .int .i64 (hd : Int), .int .i64 (nn : Int)] 38)).heap.size = w1.heap.size + 2 := by simp [World.size_alloc]
  have hsz := HX1.out.size
  generalize hW3 : (w1.alloc (.cells #[.slice none 0 0] 27)).alloc (.cells #[.int .i64 b0, .int .i64 b1, .int .i64 b2, .int .i64 b3, .int .i64 b4, .int .i64 b5, .int .i64 b6, .int .i64 b7, .int .i64 (hd : Int), .int .i64 (nn : Int)] 38) = W3 at *
  clear hW3
  apply wpIn_rangeFunc_ownG rfl h1 (gf := 126) (lb := #[.pointer (some ⟨w1.heap.size + 1, 0, none⟩)]) rfl trivial (enters_of Try.func126 (by kernel_rfl) rfl)
    (elements_stops Fence.wide (3 - 1) trivial rfl (by omega) (w1.heap.size + 1) hd nn [b0, b1, b2, b3, b4, b5, b6, b7] rfl hhd hnn W3 (by omega) hA3) (keepsAt_t (w1.heap.size + 1)) (keepsAt_b (by omega)) (Below.refl _ _) (fun _ => rfl)
    (fun pre W => ((∃ v, Boxed W w1.heap.size 27 v ∧ W.ownsRow w.heap.size 3 1 v (seconds pre).length (intsV (seconds pre)) ∧ True) ∧ RingIn (w1.heap.size + 1) ⟨[b0, b1, b2, b3, b4, b5, b6, b7], hd, nn⟩ W) ∧ Ext w W)
    (fun _ _ _ => False)
    (OwnFrom.and (OwnFrom.and (Own.from (holdsRow_own w.heap.size w1.heap.size 27 3 1 (fun pre => (seconds pre).length) (fun pre => intsV (seconds pre)) (fun _ _ => True)) _) (Own.from (fun s A B row hs hg hr => blk_own (w1.heap.size + 1) (fun (_ : Unit) => .cells (⟨[b0, b1, b2, b3, b4, b5, b6, b7], hd, nn⟩ : Ri).cells 38 (0, 0)) (fun _ => rfl) () A B row hs hg hr) _)) (ownFrom_below (Nat.le_refl _) (by omega)))
    (fun _ _ _ _ _ hs _ _ => hs)
    ⟨⟨⟨_, bO, World.ownsRow_nil _ _ _ _, trivial⟩, hA3⟩, hX0⟩ _ ?assign ?body ?done ?stop
  case assign =>
    intro l x W K hK
    gi_wp2
    exact hK
  case body =>
    rintro l pre ⟨⟨x1, x2⟩, hx0, hx8⟩ W ⟨⟨⟨v, hv, hrow, _⟩, hA⟩, hB⟩ hlt
    have hc := hv.cell
    have hpl := seconds_len pre
    have hne := ring_not_row hA hrow
    gi_wp2_with (gi_at_builtin; refine wpListIn_append_own _ rfl _ _ 27 rfl w.heap.size 3 i0 (.int .i64 0) 1 8 Try.underlying27 hi hz0 hz1 hz2 rfl (by decide) _ _ _ rfl (hrow.alloc _) ⟨W.heap.size, 0, none⟩ 1 1 [.int .i64 x2] rfl rfl (cell_one_new _ _ _) (by simp [Value.oneCell']) (by unfold maxLen; omega) (by omega) (by have := hB.size; simp; omega) ?_; intro v' w2 hown' hgrow _; obtain ⟨g', cap', rfl⟩ := ownsRow_succ hown'; obtain ⟨hv1, hv2, hr2, hk2, hb2⟩ := hv.appended (by decide) hrow hB.size hsz hown' hgrow; have hc1 := hv1.cell; have hf1 := hv1.frozen)
    have hA2 : RingIn (w1.heap.size + 1) ⟨[b0, b1, b2, b3, b4, b5, b6, b7], hd, nn⟩ w2 := (hgrow.block (w1.heap.size + 1) (by have := blk_lt hA; simp; omega) hne).trans (blk_alloc hA _)
    have hA3' := blk_set_other hA2 ⟨w1.heap.size, 0, none⟩ (by simp only; omega) (.slice (some ⟨g', 0, none⟩) ((seconds pre).length + 1) cap')
    (try simp only [hpl] at hA3')
    (try simp only [hpl] at hv2)
    (try simp only [hpl] at hr2)
    (try simp only [hpl] at hk2)
    (try simp only [hpl] at hb2)
    refine ⟨hk2.from _, fun o ho => ?_, ⟨⟨_, hv2, ?_⟩, hA3'⟩, Below.trans (show Below w.heap.size w W from hB) hb2⟩
    · rw [show W.heap[w1.heap.size + 1]? = _ from hA] at ho
      cases ho
      exact hA3'
    · rw [seconds_snoc]
      simpa [intsV, hpl] using hr2
  case done =>
    rintro D ys W hD rfl ⟨⟨⟨v, hv, hrow, _⟩, hA⟩, hB⟩ hK
    have hc := hv.cell
    gi_wp2
    refine ⟨by simp, .inl ⟨_, _, rfl, run_takeDeferred hK, ?_⟩⟩
    obtain ⟨A', c', h1', h2'⟩ := OwnInts.ints (ownsRow_putObj hrow (.deferred none) hK rfl)
    refine ⟨_, results_tmp rfl _ _ _, v, rfl, by rw [h1']; exact h2', Below.trans (show Below w.heap.size w W from hB) (belowK_b (w := w) (Nat.le_refl _) W D _ _ (by omega) hK rfl rfl)⟩
  case stop =>
    rintro D c pre W _ _ h _
    exact h.elim
theorem rlist_k (b0 b1 b2 b3 b4 b5 b6 b7 hd nn : Int) (l : List Int) (h : Ri.list ⟨[b0, b1, b2, b3, b4, b5, b6, b7], hd, nn⟩ = l) (w : World) :
    Calls Try.prog 118 #[.agg #[.int .i64 b0, .int .i64 b1, .int .i64 b2, .int .i64 b3, .int .i64 b4, .int .i64 b5, .int .i64 b6, .int .i64 b7, .int .i64 hd, .int .i64 nn]] w fun e w' => ∃ v, e = .returned v ∧ IntsAt w' v l ∧ Ext w w' := by
  subst h
  cases hm : Ri.may ⟨[b0, b1, b2, b3, b4, b5, b6, b7], hd, nn⟩ with
  | false =>
    refine (rlist_no b0 b1 b2 b3 b4 b5 b6 b7 hd nn hm w).mono ?_
    rintro e w' ⟨rfl, hx⟩
    refine ⟨_, rfl, ?_, hx⟩
    unfold Ri.list
    rw [hm]
    exact ⟨none, 0, rfl, fun h => by simp at h⟩
  | true =>
    have hi : Ri.inside ⟨[b0, b1, b2, b3, b4, b5, b6, b7], hd, nn⟩ = true := by have := hm; unfold Ri.may at this; rw [Bool.and_eq_true] at this; exact this.1
    obtain ⟨a, n, rfl, rfl, h1, h2⟩ := Ri.inside_nat hi
    rw [Ri.list_upto hm]
    exact rlist_in b0 b1 b2 b3 b4 b5 b6 b7 a n h1 h2 hm w

end Go.Proofs.Ytogcfndhcphpaaa
/-
  The contract of ring.Of.
-/
set_option linter.unusedVariables false
set_option linter.unusedSimpArgs false
namespace Go.Proofs.Ytogcfndhcphpaaa
open Go.RowKit
theorem Ri.push_len {r : Ri} {g : Int} (h : r.buf.length = 8) : (r.push g).1.buf.length = 8 := by
  unfold Ri.push; split
  · simp [h]
  · rfl
theorem Ri.pop_len {r : Ri} (h : r.buf.length = 8) : r.pop.1.buf.length = 8 := by
  unfold Ri.pop; split
  · split
    · exact h
    · simp [h]
  · rfl
/-- Numbers pushed one by one. -/
def Ri.ofs : Ri → List Int → Ri × Bool
  | r, [] => (r, true)
  | r, g :: l => if (r.push g).2 then Ri.ofs (r.push g).1 l else (Ri.zero, false)
end Go.Proofs.Ytogcfndhcphpaaa
/-
  The contract of ring.Half.
-/
set_option linter.unusedVariables false
set_option linter.unusedSimpArgs false
namespace Go.Proofs.Ytogcfndhcphpaaa
open Go.RowKit
def Ri.takes : Nat → Ri → List Int → Ri × List Int
  | 0, r, o => (r, o)
  | k + 1, r, o => Ri.takes k r.pop.1 (o ++ [r.pop.2.1])
def Ri.half (r : Ri) : Ri × List Int := if r.may then Ri.takes ((r.n.toNat + 1) / 2) r [] else (Ri.zero, [])
set_option maxRecDepth 100000 in
set_option maxHeartbeats 1000000 in
theorem rhalf_no (b0 b1 b2 b3 b4 b5 b6 b7 hd nn : Int) (hm : Ri.may ⟨[b0, b1, b2, b3, b4, b5, b6, b7], hd, nn⟩ = false) (w : World) :
    Calls Try.prog 69 #[.agg #[.int .i64 b0, .int .i64 b1, .int .i64 b2, .int .i64 b3, .int .i64 b4, .int .i64 b5, .int .i64 b6, .int .i64 b7, .int .i64 hd, .int .i64 nn]] w fun e w' => e = .returned (.tuple #[.agg #[.int .i64 0, .int .i64 0, .int .i64 0, .int .i64 0, .int .i64 0, .int .i64 0, .int .i64 0, .int .i64 0, .int .i64 0, .int .i64 0], .slice none 0 0]) ∧ Ext w w' := by
  have HM := Lib.hid hm
  clear hm
  go_enter Try.func69, Try.ntmps69
  go_wp2_with fail
  refine (rmay_eq b0 b1 b2 b3 b4 b5 b6 b7 hd nn _ HM.out _).mono ?_
  rintro r w1 ⟨rfl, hx1⟩
  have HX := Lib.hid ((((Ext.refl w).alloc (.cells #[.int .i64 b0, .int .i64 b1, .int .i64 b2, .int .i64 b3, .int .i64 b4, .int .i64 b5, .int .i64 b6, .int .i64 b7, .int .i64 hd, .int .i64 nn] 38)).alloc (.cells #[.int .i64 0, .int .i64 0, .int .i64 0, .int .i64 0, .int .i64 0, .int .i64 0, .int .i64 0, .int .i64 0, .int .i64 0, .int .i64 0] 38)).trans hx1)
  have HZB : Hid (w1.heap[w.heap.size + 1]? = some (.cells #[.int .i64 0, .int .i64 0, .int .i64 0, .int .i64 0, .int .i64 0, .int .i64 0, .int .i64 0, .int .i64 0, .int .i64 0, .int .i64 0] 38 (0, 0))) := Lib.hid (hx1.blk (by have := blk_new (w.alloc (.cells #[.int .i64 b0, .int .i64 b1, .int .i64 b2, .int .i64 b3, .int .i64 b4, .int .i64 b5, .int .i64 b6, .int .i64 b7, .int .i64 hd, .int .i64 nn] 38)) (.cells #[.int .i64 0, .int .i64 0, .int .i64 0, .int .i64 0, .int .i64 0, .int .i64 0, .int .i64 0, .int .i64 0, .int .i64 0, .int .i64 0] 38); rwa [World.size_alloc] at this))
  clear hx1
  obtain ⟨⟨z0, z1, z2, z3, z4⟩, z5, z6, z7, z8, z9⟩ := cells10 HZB.out
  obtain ⟨⟨y0, y1, y2, y3, y4⟩, y5, y6, y7, y8, y9⟩ := frozen10 HZB.out
  go_wp2
  have hzz := set10_at HZB.out (.int .i64 0) (.int .i64 0) (.int .i64 0) (.int .i64 0) (.int .i64 0) (.int .i64 0) (.int .i64 0) (.int .i64 0) (.int .i64 0) (.int .i64 0)
  clear z0 z1 z2 z3 z4 z5 z6 z7 z8 z9 y0 y1 y2 y3 y4 y5 y6 y7 y8 y9
  obtain ⟨⟨t0, t1, t2, t3, t4⟩, t5, t6, t7, t8, t9⟩ := cells10 hzz
  refine bodyPost_ret (v := .tuple #[.agg #[.int .i64 0, .int .i64 0, .int .i64 0, .int .i64 0, .int .i64 0, .int .i64 0, .int .i64 0, .int .i64 0, .int .i64 0, .int .i64 0], .slice none 0 0]) (by simp [results, Try.results69, go_sem, t0, t1, t2, t3, t4, t5, t6, t7, t8, t9]) rfl ⟨rfl, ?_⟩
  exact set10_ext HX.out (by omega) _ _ _ _ _ _ _ _ _ _
theorem upd10 (g : Nat) (w5 : World) (d0 d1 d2 d3 d4 d5 d6 d7 d8 d9 : Value) : Upd g w5 ((((((((((w5.setCell ⟨g, 0, none⟩ d0).setCell ⟨g, 1, none⟩ d1).setCell ⟨g, 2, none⟩ d2).setCell ⟨g, 3, none⟩ d3).setCell ⟨g, 4, none⟩ d4).setCell ⟨g, 5, none⟩ d5).setCell ⟨g, 6, none⟩ d6).setCell ⟨g, 7, none⟩ d7).setCell ⟨g, 8, none⟩ d8).setCell ⟨g, 9, none⟩ d9) :=
  ((((((((((Upd.refl g w5).set 0 d0).set 1 d1).set 2 d2).set 3 d3).set 4 d4).set 5 d5).set 6 d6).set 7 d7).set 8 d8).set 9 d9
set_option maxRecDepth 100000 in
set_option maxHeartbeats 6000000 in
theorem rhalf_in (b0 b1 b2 b3 b4 b5 b6 b7 : Int) (hd nn : Nat) (hhd : hd < 8) (hnn : nn ≤ 8) (hm : Ri.may ⟨[b0, b1, b2, b3, b4, b5, b6, b7], hd, nn⟩ = true) (e0 e1 e2 e3 e4 e5 e6 e7 eh en : Int) (o : List Int) (h : Ri.takes ((nn + 1) / 2) ⟨[b0, b1, b2, b3, b4, b5, b6, b7], hd, nn⟩ [] = (⟨[e0, e1, e2, e3, e4, e5, e6, e7], eh, en⟩, o)) (w : World) :
    Calls Try.prog 69 #[.agg #[.int .i64 b0, .int .i64 b1, .int .i64 b2, .int .i64 b3, .int .i64 b4, .int .i64 b5, .int .i64 b6, .int .i64 b7, .int .i64 (hd : Int), .int .i64 (nn : Int)]] w fun e w' => ∃ A c, e = .returned (.tuple #[.agg #[.int .i64 e0, .int .i64 e1, .int .i64 e2, .int .i64 e3, .int .i64 e4, .int .i64 e5, .int .i64 e6, .int .i64 e7, .int .i64 eh, .int .i64 en], .slice A o.length c]) ∧ IntsAt w' (.slice A o.length c) o ∧ Ext w w' := by
  have HM := Lib.hid hm
  have H := Lib.hid h
  clear hm h
  have f1 : IntKind.i64.wrap ((nn : Int) + 1) = ((nn + 1 : Nat) : Int) := IntWalk.i64_in _ (by omega)
  have f2 : ((nn + 1 : Nat) : Int).tdiv 2 = (((nn + 1) / 2 : Nat) : Int) := by rw [Int.tdiv_eq_ediv_of_nonneg (by omega)]; omega
  have f3 : IntKind.i64.wrap (((nn + 1) / 2 : Nat) : Int) = (((nn + 1) / 2 : Nat) : Int) := IntWalk.i64_in _ (by omega)
  go_enter Try.func69, Try.ntmps69
  go_wp2_with fail
  refine (rmay_eq b0 b1 b2 b3 b4 b5 b6 b7 hd nn _ HM.out _).mono ?_
  rintro r w1 ⟨rfl, hx1⟩
  have HX := Lib.hid ((((Ext.refl w).alloc (.cells #[.int .i64 b0, .int .i64 b1, .int .i64 b2, .int .i64 b3, .int .i64 b4, .int .i64 b5, .int .i64 b6, .int .i64 b7, .int .i64 (hd : Int), .int .i64 (nn : Int)] 38)).alloc (.cells #[.int .i64 0, .int .i64 0, .int .i64 0, .int .i64 0, .int .i64 0, .int .i64 0, .int .i64 0, .int .i64 0, .int .i64 0, .int .i64 0] 38)).trans hx1)
  have HB := Lib.hid (hx1.blk (blk_alloc (blk_new w (.cells #[.int .i64 b0, .int .i64 b1, .int .i64 b2, .int .i64 b3, .int .i64 b4, .int .i64 b5, .int .i64 b6, .int .i64 b7, .int .i64 (hd : Int), .int .i64 (nn : Int)] 38)) (.cells #[.int .i64 0, .int .i64 0, .int .i64 0, .int .i64 0, .int .i64 0, .int .i64 0, .int .i64 0, .int .i64 0, .int .i64 0, .int .i64 0] 38)))
  have HZ : Hid (w1.heap[w.heap.size + 1]? = some (.cells #[.int .i64 0, .int .i64 0, .int .i64 0, .int .i64 0, .int .i64 0, .int .i64 0, .int .i64 0, .int .i64 0, .int .i64 0, .int .i64 0] 38 (0, 0))) := Lib.hid (hx1.blk (by have := blk_new (w.alloc (.cells #[.int .i64 b0, .int .i64 b1, .int .i64 b2, .int .i64 b3, .int .i64 b4, .int .i64 b5, .int .i64 b6, .int .i64 b7, .int .i64 (hd : Int), .int .i64 (nn : Int)] 38)) (.cells #[.int .i64 0, .int .i64 0, .int .i64 0, .int .i64 0, .int .i64 0, .int .i64 0, .int .i64 0, .int .i64 0, .int .i64 0, .int .i64 0] 38); rwa [World.size_alloc] at this))
  have hsz := hx1.size
  rw [World.size_alloc, World.size_alloc] at hsz
  have p9 := blk_cell HB.out 9 (.int .i64 (nn : Int)) rfl
  clear hx1
  generalize hK : (nn + 1) / 2 = K at *
  go_wp2
  clear p9 f1 f2 f3
  have hK4 : K ≤ 4 := by omega
  go_loopw [4, 16] (fun ov iv wr => ∃ (u : Value) (j : Nat) (c0 c1 c2 c3 c4 c5 c6 c7 ch cn : Int) (l : List Int), u = ov ∧ j ≤ K ∧ iv = .int .i64 j ∧ l.length = j ∧ Ri.takes K ⟨[b0, b1, b2, b3, b4, b5, b6, b7], hd, nn⟩ [] = Ri.takes (K - j) ⟨[c0, c1, c2, c3, c4, c5, c6, c7], ch, cn⟩ l ∧ OwnInts wr (w.heap.size + 2) u l ∧ wr.heap[(w.heap.size + 1)]? = some (.cells #[.int .i64 0, .int .i64 0, .int .i64 0, .int .i64 0, .int .i64 0, .int .i64 0, .int .i64 0, .int .i64 0, .int .i64 0, .int .i64 0] 38 (0, 0)) ∧ wr.heap[w.heap.size]? = some (.cells #[.int .i64 c0, .int .i64 c1, .int .i64 c2, .int .i64 c3, .int .i64 c4, .int .i64 c5, .int .i64 c6, .int .i64 c7, .int .i64 ch, .int .i64 cn] 38 (0, 0)) ∧ Ext w wr ∧ w.heap.size + 2 ≤ wr.heap.size) (fun _ iv _ => K - (intOf iv).toNat)
  case atStart => exact ⟨_, 0, b0, b1, b2, b3, b4, b5, b6, b7, hd, nn, [], rfl, by omega, rfl, rfl, rfl, OwnInts.nil _ _, HZ.out, HB.out, HX.out, hsz⟩
  case round =>
    obtain ⟨u, j, c0, c1, c2, c3, c4, c5, c6, c7, ch, cn, l, hu, hj, rfl, hll, hs, hown, hb1, hb0, hx, hsz⟩ := hrel
    subst hu
    have HS := Lib.hid hs
    have HOWN := Lib.hid hown
    have HLL := Lib.hid hll
    have HZB := Lib.hid hb1
    have HB0 := Lib.hid hb0
    have HX := Lib.hid hx
    obtain ⟨A0, a0, rfl⟩ := OwnInts.form HOWN.out
    clear hs hown hb0 hb1 hx hll
    by_cases hlt : j < K
    · obtain ⟨d0, d1, d2, d3, d4, d5, d6, d7, hds⟩ := list8 (Ri.pop_len (r := ⟨[c0, c1, c2, c3, c4, c5, c6, c7], ch, cn⟩) rfl)
      rcases hp : Ri.pop ⟨[c0, c1, c2, c3, c4, c5, c6, c7], ch, cn⟩ with ⟨⟨ds, dh, dn⟩, x, k⟩
      rw [hp] at hds
      simp only at hds
      subst hds
      have HP := Lib.hid hp
      have hofs := HS.out
      rw [show K - j = (K - (j + 1)) + 1 by omega] at hofs
      simp only [Ri.takes, hp] at hofs
      have HO := Lib.hid hofs
      clear hp hofs HS
      obtain ⟨⟨q0, q1, q2, q3, q4⟩, q5, q6, q7, q8, q9⟩ := cells10 HB0.out
      go_wp2_with fail
      refine (rpop_k c0 c1 c2 c3 c4 c5 c6 c7 ch cn d0 d1 d2 d3 d4 d5 d6 d7 dh dn x k HP.out _).mono ?_
      rintro r wq ⟨rfl, hx5⟩
      clear q0 q1 q2 q3 q4 q5 q6 q7 q8 q9
      have hsz5 := hx5.size
      have HX5 : Hid (Ext w (wq.alloc (.cells #[.int .i64 d0, .int .i64 d1, .int .i64 d2, .int .i64 d3, .int .i64 d4, .int .i64 d5, .int .i64 d6, .int .i64 d7, .int .i64 dh, .int .i64 dn] 38))) := Lib.hid ((HX.out.trans hx5).alloc _)
      have HZ5 : Hid ((wq.alloc (.cells #[.int .i64 d0, .int .i64 d1, .int .i64 d2, .int .i64 d3, .int .i64 d4, .int .i64 d5, .int .i64 d6, .int .i64 d7, .int .i64 dh, .int .i64 dn] 38)).heap[(w.heap.size + 1)]? = some (.cells #[.int .i64 0, .int .i64 0, .int .i64 0, .int .i64 0, .int .i64 0, .int .i64 0, .int .i64 0, .int .i64 0, .int .i64 0, .int .i64 0] 38 (0, 0))) := Lib.hid (blk_alloc (hx5.blk HZB.out) _)
      have HB5 : Hid ((wq.alloc (.cells #[.int .i64 d0, .int .i64 d1, .int .i64 d2, .int .i64 d3, .int .i64 d4, .int .i64 d5, .int .i64 d6, .int .i64 d7, .int .i64 dh, .int .i64 dn] 38)).heap[w.heap.size]? = some (.cells #[.int .i64 c0, .int .i64 c1, .int .i64 c2, .int .i64 c3, .int .i64 c4, .int .i64 c5, .int .i64 c6, .int .i64 c7, .int .i64 ch, .int .i64 cn] 38 (0, 0))) := Lib.hid (blk_alloc (hx5.blk HB0.out) _)
      have HN5 : Hid ((wq.alloc (.cells #[.int .i64 d0, .int .i64 d1, .int .i64 d2, .int .i64 d3, .int .i64 d4, .int .i64 d5, .int .i64 d6, .int .i64 d7, .int .i64 dh, .int .i64 dn] 38)).heap[wq.heap.size]? = some (.cells #[.int .i64 d0, .int .i64 d1, .int .i64 d2, .int .i64 d3, .int .i64 d4, .int .i64 d5, .int .i64 d6, .int .i64 d7, .int .i64 dh, .int .i64 dn] 38 (0, 0))) := Lib.hid (blk_new _ _)
      have HO5 : Hid (OwnInts (wq.alloc (.cells #[.int .i64 d0, .int .i64 d1, .int .i64 d2, .int .i64 d3, .int .i64 d4, .int .i64 d5, .int .i64 d6, .int .i64 d7, .int .i64 dh, .int .i64 dn] 38)) (w.heap.size + 2) (.slice A0 l.length a0) l) := Lib.hid ((HOWN.out.ext hx5).alloc _)
      have hs5 : w.heap.size + 2 ≤ (wq.alloc (.cells #[.int .i64 d0, .int .i64 d1, .int .i64 d2, .int .i64 d3, .int .i64 d4, .int .i64 d5, .int .i64 d6, .int .i64 d7, .int .i64 dh, .int .i64 dn] 38)).heap.size := by rw [World.size_alloc]; omega
      clear hx5 HZB HB0 HX HOWN hsz5
      generalize hw5 : wq.alloc (.cells #[.int .i64 d0, .int .i64 d1, .int .i64 d2, .int .i64 d3, .int .i64 d4, .int .i64 d5, .int .i64 d6, .int .i64 d7, .int .i64 dh, .int .i64 dn] 38) = w5 at *
      have HU := Lib.hid (upd10 w.heap.size w5 (.int .i64 d0) (.int .i64 d1) (.int .i64 d2) (.int .i64 d3) (.int .i64 d4) (.int .i64 d5) (.int .i64 d6) (.int .i64 d7) (.int .i64 dh) (.int .i64 dn))
      have HB7 := Lib.hid (set10_at HB5.out (.int .i64 d0) (.int .i64 d1) (.int .i64 d2) (.int .i64 d3) (.int .i64 d4) (.int .i64 d5) (.int .i64 d6) (.int .i64 d7) (.int .i64 dh) (.int .i64 dn))
      have HX7 := Lib.hid (set10_ext HX5.out (Nat.le_refl _) (.int .i64 d0) (.int .i64 d1) (.int .i64 d2) (.int .i64 d3) (.int .i64 d4) (.int .i64 d5) (.int .i64 d6) (.int .i64 d7) (.int .i64 dh) (.int .i64 dn))
      have HZB := HB5
      obtain ⟨⟨z0, z1, z2, z3, z4⟩, z5, z6, z7, z8, z9⟩ := cells10 HZB.out
      obtain ⟨⟨y0, y1, y2, y3, y4⟩, y5, y6, y7, y8, y9⟩ := frozen10 HZB.out
      obtain ⟨⟨q0, q1, q2, q3, q4⟩, q5, q6, q7, q8, q9⟩ := cells10 HN5.out
      go_upto_region 8 with fail
      generalize hw7 : ((((((((((w5.setCell ⟨w.heap.size, 0, none⟩ (.int .i64 d0)).setCell ⟨w.heap.size, 1, none⟩ (.int .i64 d1)).setCell ⟨w.heap.size, 2, none⟩ (.int .i64 d2)).setCell ⟨w.heap.size, 3, none⟩ (.int .i64 d3)).setCell ⟨w.heap.size, 4, none⟩ (.int .i64 d4)).setCell ⟨w.heap.size, 5, none⟩ (.int .i64 d5)).setCell ⟨w.heap.size, 6, none⟩ (.int .i64 d6)).setCell ⟨w.heap.size, 7, none⟩ (.int .i64 d7)).setCell ⟨w.heap.size, 8, none⟩ (.int .i64 dh)).setCell ⟨w.heap.size, 9, none⟩ (.int .i64 dn)) = w7 at *
      have HZ7 : Hid (w7.heap[(w.heap.size + 1)]? = some (.cells #[.int .i64 0, .int .i64 0, .int .i64 0, .int .i64 0, .int .i64 0, .int .i64 0, .int .i64 0, .int .i64 0, .int .i64 0, .int .i64 0] 38 (0, 0))) := Lib.hid (HU.out.blk HZ5.out (by omega))
      have HO7 : Hid (OwnInts w7 (w.heap.size + 2) (.slice A0 l.length a0) l) := Lib.hid (OwnInts.kept HO5.out HU.out (by omega))
      have hs7 := HU.out.sz
      clear z0 z1 z2 z3 z4 z5 z6 z7 z8 z9 y0 y1 y2 y3 y4 y5 y6 y7 y8 y9
      clear q0 q1 q2 q3 q4 q5 q6 q7 q8 q9
      clear hw7 hw5 HZB HB5 HZ5 HN5 HO5 HX5
      obtain ⟨u, w8, hr8, ho8, hg8⟩ := OwnInts.appendS 27 (OwnInts.alloc HO7.out (.cells #[.int .i64 x] 3)) (m := [x]) (ints_one w7 x) (by have := HLL.out; simp; omega) (by simp; omega)
      simp only [List.length_singleton] at hr8
      have HR8 := Lib.hid hr8
      have hub : ∀ k, (Value.slice A0 l.length a0).ownBlock = some k → w.heap.size + 2 ≤ k := fun k hk => (World.ownsRow.lt HO7.out k hk).1
      have hX8 := Below.grown (HX7.out.alloc (.cells #[.int .i64 x] 3)) hg8 (by rw [World.size_alloc]; omega) (fun k hk => by have := hub k hk; omega)
      have hz8 : w8.heap[(w.heap.size + 1)]? = some (.cells #[.int .i64 0, .int .i64 0, .int .i64 0, .int .i64 0, .int .i64 0, .int .i64 0, .int .i64 0, .int .i64 0, .int .i64 0, .int .i64 0] 38 (0, 0)) := (hg8.block (w.heap.size + 1) (by rw [World.size_alloc]; omega) (fun hk => by have := hub _ hk.symm; omega)).trans (blk_alloc HZ7.out _)
      have hb8 : w8.heap[w.heap.size]? = some (.cells #[.int .i64 d0, .int .i64 d1, .int .i64 d2, .int .i64 d3, .int .i64 d4, .int .i64 d5, .int .i64 d6, .int .i64 d7, .int .i64 dh, .int .i64 dn] 38 (0, 0)) := (hg8.block w.heap.size (by rw [World.size_alloc]; omega) (fun hk => by have := hub _ hk.symm; omega)).trans (blk_alloc HB7.out _)
      have hs8 := hg8.size
      rw [World.size_alloc] at hs8
      have HEND : Hid (OwnInts w8 (w.heap.size + 2) u (l ++ [x]) ∧ w8.heap[(w.heap.size + 1)]? = some (.cells #[.int .i64 0, .int .i64 0, .int .i64 0, .int .i64 0, .int .i64 0, .int .i64 0, .int .i64 0, .int .i64 0, .int .i64 0, .int .i64 0] 38 (0, 0)) ∧ w8.heap[w.heap.size]? = some (.cells #[.int .i64 d0, .int .i64 d1, .int .i64 d2, .int .i64 d3, .int .i64 d4, .int .i64 d5, .int .i64 d6, .int .i64 d7, .int .i64 dh, .int .i64 dn] 38 (0, 0)) ∧ Ext w w8 ∧ w.heap.size + 2 ≤ w8.heap.size) := Lib.hid ⟨ho8, hz8, hb8, hX8, by omega⟩
      clear hr8 ho8 hg8 hub hX8 hz8 hb8 HU HB7 HX7 HZ7
      go_wp2_with (at_builtin; refine wpList_append_run rfl _ _ 27 rfl _ _ rfl rfl HR8.out ?_)
      go_roundw
      case rel => exact ⟨u, j + 1, d0, d1, d2, d3, d4, d5, d6, d7, dh, dn, l ++ [x], rfl, by omega, by go_num, by simp [HLL.out], HO.out, HEND.out⟩
      case measure => simp [intOf]; omega
    · obtain rfl : j = K := by omega
      have hofs := H.out.symm.trans HS.out
      rw [Nat.sub_self] at hofs
      simp only [Ri.takes, Prod.mk.injEq, Ri.mk.injEq, List.cons.injEq, and_true] at hofs
      obtain ⟨⟨⟨rfl, rfl, rfl, rfl, rfl, rfl, rfl, rfl⟩, rfl, rfl⟩, rfl⟩ := hofs
      obtain ⟨⟨z0, z1, z2, z3, z4⟩, z5, z6, z7, z8, z9⟩ := cells10 HZB.out
      obtain ⟨⟨y0, y1, y2, y3, y4⟩, y5, y6, y7, y8, y9⟩ := frozen10 HZB.out
      obtain ⟨⟨q0, q1, q2, q3, q4⟩, q5, q6, q7, q8, q9⟩ := cells10 HB0.out
      go_wp2
      have hzz := set10_at HZB.out (.int .i64 e0) (.int .i64 e1) (.int .i64 e2) (.int .i64 e3) (.int .i64 e4) (.int .i64 e5) (.int .i64 e6) (.int .i64 e7) (.int .i64 eh) (.int .i64 en)
      have HO9 := OwnInts.kept HOWN.out (upd10 (w.heap.size + 1) wr (.int .i64 e0) (.int .i64 e1) (.int .i64 e2) (.int .i64 e3) (.int .i64 e4) (.int .i64 e5) (.int .i64 e6) (.int .i64 e7) (.int .i64 eh) (.int .i64 en)) (by omega)
      obtain ⟨A9, a9, h9, h9'⟩ := HO9.ints
      simp only [Value.slice.injEq, true_and] at h9
      obtain ⟨rfl, rfl⟩ := h9
      clear z0 z1 z2 z3 z4 z5 z6 z7 z8 z9 y0 y1 y2 y3 y4 y5 y6 y7 y8 y9
      clear q0 q1 q2 q3 q4 q5 q6 q7 q8 q9
      obtain ⟨⟨t0, t1, t2, t3, t4⟩, t5, t6, t7, t8, t9⟩ := cells10 hzz
      refine bodyPost_ret (v := .tuple #[.agg #[.int .i64 e0, .int .i64 e1, .int .i64 e2, .int .i64 e3, .int .i64 e4, .int .i64 e5, .int .i64 e6, .int .i64 e7, .int .i64 eh, .int .i64 en], .slice A0 o.length a0]) (by simp [results, Try.results69, go_sem, t0, t1, t2, t3, t4, t5, t6, t7, t8, t9]) rfl ⟨_, _, rfl, ?_, ?_⟩
      · exact h9'
      · exact set10_ext HX.out (by omega) _ _ _ _ _ _ _ _ _ _

end Go.Proofs.Ytogcfndhcphpaaa
/-
  Layer 9's own helper 'fixed': it returns true.
-/
set_option linter.unusedVariables false
set_option linter.unusedSimpArgs false
namespace Go.Proofs.Ytogcfndhcphpaaa
open Go.RowKit
theorem ints_lit (w : World) (xs : List Int) : IntsAt (w.alloc (.cells (bufCells xs) 3)) (.slice (some ⟨w.heap.size, 0, none⟩) xs.length xs.length) xs :=
  ⟨_, xs.length, rfl, fun _ => ⟨w.heap.size, 0, rfl, by simp, fun j x hj => by
    have hlt : j < xs.length := (List.getElem?_eq_some_iff.1 hj).1
    have hx : xs[j] = x := (List.getElem?_eq_some_iff.1 hj).2
    have := blk_cell (blk_new w (.cells (bufCells xs) 3)) j _ (bufCells_at hlt)
    rw [hx] at this
    simpa using this⟩⟩
theorem ints_lit' (w : World) (g n : Nat) (cs : Array Value) (xs : List Int) (hc : cs = bufCells xs) (hg : g = w.heap.size) (hn : n = xs.length) : IntsAt (w.alloc (.cells cs 3)) (.slice (some ⟨g, 0, none⟩) n n) xs := by
  subst hc hg hn; exact ints_lit w xs
theorem rhalf_k (b0 b1 b2 b3 b4 b5 b6 b7 hd nn : Int) (e0 e1 e2 e3 e4 e5 e6 e7 eh en : Int) (o : List Int) (h : Ri.half ⟨[b0, b1, b2, b3, b4, b5, b6, b7], hd, nn⟩ = (⟨[e0, e1, e2, e3, e4, e5, e6, e7], eh, en⟩, o)) (w : World) :
    Calls Try.prog 69 #[.agg #[.int .i64 b0, .int .i64 b1, .int .i64 b2, .int .i64 b3, .int .i64 b4, .int .i64 b5, .int .i64 b6, .int .i64 b7, .int .i64 hd, .int .i64 nn]] w fun e w' => ∃ A c, e = .returned (.tuple #[.agg #[.int .i64 e0, .int .i64 e1, .int .i64 e2, .int .i64 e3, .int .i64 e4, .int .i64 e5, .int .i64 e6, .int .i64 e7, .int .i64 eh, .int .i64 en], .slice A o.length c]) ∧ IntsAt w' (.slice A o.length c) o ∧ Ext w w' := by
  unfold Ri.half at h
  split at h
  · rename_i hm
    have hi : Ri.inside ⟨[b0, b1, b2, b3, b4, b5, b6, b7], hd, nn⟩ = true := by have := hm; unfold Ri.may at this; rw [Bool.and_eq_true] at this; exact this.1
    obtain ⟨a, n, rfl, rfl, h1, h2⟩ := Ri.inside_nat hi
    exact rhalf_in b0 b1 b2 b3 b4 b5 b6 b7 a n h1 h2 hm e0 e1 e2 e3 e4 e5 e6 e7 eh en o h w
  · rename_i hm
    simp only [Prod.mk.injEq, Ri.zero, Ri.mk.injEq, List.cons.injEq, and_true] at h
    obtain ⟨⟨⟨rfl, rfl, rfl, rfl, rfl, rfl, rfl, rfl⟩, rfl, rfl⟩, rfl⟩ := h
    refine (rhalf_no b0 b1 b2 b3 b4 b5 b6 b7 hd nn (by simpa using hm) w).mono ?_
    rintro e w' ⟨rfl, hx⟩
    exact ⟨none, 0, rfl, ⟨none, 0, rfl, fun h => by simp at h⟩, hx⟩
theorem Ri.F1 : Ri.ofs Ri.zero [1, 2, 3] = (⟨[1, 2, 3, 0, 0, 0, 0, 0], 0, 3⟩, true) := by kernel_rfl
theorem Ri.F2 : Ri.half ⟨[1, 2, 3, 0, 0, 0, 0, 0], 0, 3⟩ = (⟨[0, 0, 3, 0, 0, 0, 0, 0], 2, 1⟩, [1, 2]) := by kernel_rfl
theorem Ri.F3 : Ri.pop ⟨[1, 2, 3, 0, 0, 0, 0, 0], 0, 3⟩ = (⟨[0, 2, 3, 0, 0, 0, 0, 0], 1, 2⟩, 1, true) := by kernel_rfl
theorem Ri.F4 : Ri.push ⟨[0, 2, 3, 0, 0, 0, 0, 0], 1, 2⟩ 9 = (⟨[0, 2, 3, 9, 0, 0, 0, 0], 1, 3⟩, true) := by kernel_rfl
theorem Ri.F5 : Ri.ofs Ri.zero [1, 2, 3, 4, 5, 6, 7, 8, 9] = (⟨[0, 0, 0, 0, 0, 0, 0, 0], 0, 0⟩, false) := by kernel_rfl
theorem Ri.F6 : Ri.list ⟨[0, 0, 3, 0, 0, 0, 0, 0], 2, 1⟩ = [3] := by kernel_rfl
theorem Ri.F7 : Ri.list ⟨[0, 2, 3, 9, 0, 0, 0, 0], 1, 3⟩ = [2, 3, 9] := by kernel_rfl
theorem Ri.F8 : Ri.may ⟨[1, 2, 3, 0, 0, 0, 0, 0], 0, 3⟩ = true := by kernel_rfl
theorem Ri.F9 : Ri.may ⟨[0, 0, 0, 0, 0, 0, 0, 0], 0, 1⟩ = false := by kernel_rfl
end Go.Proofs.Ytogcfndhcphpaaa
/-
  The walk of the statement RingRound.
-/
set_option linter.unusedVariables false
set_option linter.unusedSimpArgs false
namespace Go.Proofs.Ytogcfndhcphpaaa
open Go.RowKit
theorem rints_self' (v u : Value) (xs : List Int) (w : World) (h : IntsAt w v xs) (k : IntsAt w u xs) (hn : xs.length ≤ 9223372036854775807 := by simp) :
    Calls Try.prog 30 #[v, u] w fun e w' => e = .returned (.bool true) ∧ Ext w w' := rints_eq v u xs xs true (decide_eq_true rfl) w h k hn
def Ri.one (g : Int) (a : Nat) : List Int := [0, 0, 0, 0, 0, 0, 0, 0].set a g
theorem Ri.round {g : Int} (hg : 1 ≤ g) (a : Nat) (ha : a < 8) :
    Ri.push ⟨Ri.one g a, a, 1⟩ g = (⟨(Ri.one g a).set ((a + 1) % 8) g, a, 2⟩, true) ∧ Ri.pop ⟨(Ri.one g a).set ((a + 1) % 8) g, a, 2⟩ = (⟨Ri.one g ((a + 1) % 8), ((a + 1) % 8 : Nat), 1⟩, g, true) ∧ Ri.list ⟨Ri.one g a, a, 1⟩ = [g] := by
  have h0 : 0 < g := by omega
  have h1 : decide (0 < g) = true := decide_eq_true h0
  have h2 : decide (1 ≤ g) = true := decide_eq_true hg
  rcases a with _ | _ | _ | _ | _ | _ | _ | _ | a
  all_goals first
    | omega
    | (refine ⟨?_, ?_, ?_⟩ <;> simp [Ri.push, Ri.pop, Ri.list, Ri.may, Ri.inside, Ri.okAt, Ri.one, Ri.elem, List.range_succ, h0, hg])
theorem Ri.of_one {g : Int} (hg : 1 ≤ g) : Ri.ofs Ri.zero [g] = (⟨Ri.one g 0, 0, 1⟩, true) := by
  have h0 : 0 < g := by omega
  simp [Ri.ofs, Ri.push, Ri.zero, Ri.may, Ri.inside, Ri.okAt, Ri.one, List.range_succ, hg]
theorem Ri.one_len (g : Int) (a : Nat) : (Ri.one g a).length = 8 := by simp [Ri.one]
end Go.Proofs.Ytogcfndhcphpaaa
/-
  Rings as queues: plain mathematics.
-/
set_option linter.unusedVariables false
set_option linter.unusedSimpArgs false
namespace Go.Proofs.Ytogcfndhcphpaaa
open Go.RowKit
/-- A ring that may be, and what it holds. -/
def Ri.Holds (r : Ri) (l : List Int) : Prop :=
  ∃ hd nn : Nat, r.head = hd ∧ r.n = nn ∧ hd < 8 ∧ nn ≤ 8 ∧ r.buf.length = 8 ∧ (∀ j < 8, if (j + 8 - hd) % 8 < nn then 0 < r.buf[j]?.getD 0 else r.buf[j]?.getD 0 = 0) ∧ l = (List.range nn).map fun i => r.buf[(hd + i) % 8]?.getD 0
theorem Ri.may_nat {hd nn : Nat} (h : hd < 8) (hn : nn ≤ 8) {bs : List Int} :
    Ri.may ⟨bs, hd, nn⟩ = true ↔ ∀ j < 8, if (j + 8 - hd) % 8 < nn then 0 < bs[j]?.getD 0 else bs[j]?.getD 0 = 0 := by
  have hi : Ri.inside ⟨bs, hd, nn⟩ = true := (Ri.inside_iff _).2 (by simp only; omega)
  unfold Ri.may
  rw [hi, Bool.true_and, List.all_eq_true]
  simp only [List.mem_range, Ri.okAt, Int.toNat_natCast]
  constructor
  · intro k j hj
    have := k j hj
    split
    · rename_i hc; rw [if_pos hc] at this; exact of_decide_eq_true this
    · rename_i hc; rw [if_neg hc] at this; exact of_decide_eq_true this
  · intro k j hj
    have := k j hj
    split
    · rename_i hc; rw [if_pos hc] at this; exact decide_eq_true this
    · rename_i hc; rw [if_neg hc] at this; exact decide_eq_true this
theorem Ri.may_of {r : Ri} {l : List Int} (h : r.Holds l) : r.may = true := by
  obtain ⟨hd, nn, h1, h2, h3, h4, h5, h6, rfl⟩ := h
  obtain ⟨bs, a, b⟩ := r
  simp only at h1 h2 h5 h6
  subst h1 h2
  exact (Ri.may_nat h3 h4).2 h6
theorem Ri.list_of {r : Ri} {l : List Int} (h : r.Holds l) : r.list = l := by
  unfold Ri.list
  rw [if_pos (Ri.may_of h)]
  obtain ⟨hd, nn, h1, h2, h3, h4, h5, h6, rfl⟩ := h
  unfold Ri.elem
  rw [h1, h2]
  rfl
theorem Ri.holds_may {r : Ri} (hl : r.buf.length = 8) (hm : r.may = true) : r.Holds r.list := by
  have hi : r.inside = true := by have := hm; unfold Ri.may at this; rw [Bool.and_eq_true] at this; exact this.1
  obtain ⟨hd, nn, h1, h2, h3, h4⟩ := Ri.inside_nat hi
  obtain ⟨bs, a, b⟩ := r
  simp only at h1 h2 hl
  subst h1 h2
  refine ⟨hd, nn, rfl, rfl, h3, h4, hl, (Ri.may_nat h3 h4).1 hm, ?_⟩
  unfold Ri.list
  rw [if_pos hm]
  rfl
theorem Ri.holds_n {r : Ri} {l : List Int} (h : r.Holds l) : r.n = l.length ∧ l.length ≤ 8 := by
  obtain ⟨hd, nn, h1, h2, h3, h4, h5, h6, rfl⟩ := h
  simp [h2, h4]
theorem Ri.holds_pos {r : Ri} {l : List Int} (h : r.Holds l) : ∀ x ∈ l, 1 ≤ x := by
  obtain ⟨hd, nn, h1, h2, h3, h4, h5, h6, rfl⟩ := h
  intro x hx
  simp only [List.mem_map, List.mem_range] at hx
  obtain ⟨i, hi, rfl⟩ := hx
  have := h6 ((hd + i) % 8) (by omega)
  rw [if_pos (by omega)] at this
  omega
theorem Ri.holds_push {r : Ri} {l : List Int} (h : r.Holds l) {g : Int} (hg : 1 ≤ g) (h8 : l.length < 8) : ∃ r', r.push g = (r', true) ∧ r'.Holds (l ++ [g]) := by
  have hm := Ri.may_of h
  obtain ⟨hd, nn, h1, h2, h3, h4, h5, h6, rfl⟩ := h
  obtain ⟨bs, a, b⟩ := r
  simp only at h1 h2 h5 h6
  subst h1 h2
  simp only [List.length_map, List.length_range] at h8
  refine ⟨⟨bs.set ((hd + nn) % 8) g, hd, (nn : Int) + 1⟩, ?_, hd, nn + 1, rfl, by simp, h3, by omega, by simpa using h5, ?_, ?_⟩
  · unfold Ri.push
    rw [hm]
    simp only [Int.toNat_natCast]
    rw [if_pos (by simp; omega)]
  · intro j hj
    have := h6 j hj
    simp only [List.getElem?_set]
    by_cases he : (hd + nn) % 8 = j
    · rw [if_pos (by omega), if_pos he, if_pos (by omega)]
      simp only [Option.getD_some]; omega
    · rw [if_neg he]
      by_cases hlt : (j + 8 - hd) % 8 < nn
      · rw [if_pos hlt] at this
        rw [if_pos (by omega)]; exact this
      · rw [if_neg hlt] at this
        rw [if_neg (by omega)]; exact this
  · rw [List.range_succ, List.map_append]
    simp only [List.map_cons, List.map_nil]
    congr 1
    · apply List.map_congr_left
      intro i hi
      have := List.mem_range.1 hi
      rw [List.getElem?_set_ne (by omega)]
    · rw [List.getElem?_set_self (by omega)]
      rfl
theorem Ri.push_no {r : Ri} {l : List Int} (h : r.Holds l) {g : Int} (hn : g < 1 ∨ l.length = 8) : r.push g = (Ri.zero, false) := by
  have := (Ri.holds_n h).1
  unfold Ri.push
  rw [if_neg]
  simp only [Bool.and_eq_true, decide_eq_true_eq]
  omega
theorem Ri.holds_pop {r : Ri} {l : List Int} {g : Int} (h : r.Holds (g :: l)) : ∃ r', r.pop = (r', g, true) ∧ r'.Holds l := by
  have hm := Ri.may_of h
  have hn := Ri.holds_n h
  obtain ⟨hd, nn, h1, h2, h3, h4, h5, h6, hl⟩ := h
  obtain ⟨bs, a, b⟩ := r
  simp only at h1 h2 h5 h6 hn hl
  subst h1 h2
  simp only [List.length_cons] at hn
  obtain ⟨k, rfl⟩ : ∃ k, nn = k + 1 := ⟨nn - 1, by omega⟩
  rw [List.range_succ_eq_map, List.map_cons, List.map_map] at hl
  simp only [List.cons.injEq] at hl
  obtain ⟨hg, hl⟩ := hl
  rw [show (hd + 0) % 8 = hd by omega] at hg
  refine ⟨⟨bs.set hd 0, ((hd : Int) + 1) % 8, ((k + 1 : Nat) : Int) - 1⟩, ?_, (hd + 1) % 8, k, by simp only; omega, by simp only; omega, by omega, by omega, by simpa using h5, ?_, ?_⟩
  · unfold Ri.pop
    rw [if_pos hm]
    simp only [Int.toNat_natCast]
    rw [if_neg (by omega), hg]
  · intro j hj
    have := h6 j hj
    simp only [List.getElem?_set]
    by_cases he : hd = j
    · rw [if_neg (by omega), if_pos he, if_pos (by omega)]
      rfl
    · rw [if_neg he]
      by_cases hlt : (j + 8 - hd) % 8 < k + 1
      · rw [if_pos hlt] at this
        rw [if_pos (by omega)]; exact this
      · rw [if_neg hlt] at this
        rw [if_neg (by omega)]; exact this
  · rw [hl]
    apply List.map_congr_left
    intro i hi
    have := List.mem_range.1 hi
    simp only [Function.comp]
    rw [List.getElem?_set_ne (by omega), show (hd + i.succ) % 8 = ((hd + 1) % 8 + i) % 8 by omega]
theorem Ri.pop_nil {r : Ri} (h : r.Holds []) : r.pop = (r, 0, false) := by
  have hm := Ri.may_of h
  have hn := (Ri.holds_n h).1
  unfold Ri.pop
  rw [if_pos hm, if_pos (by simpa using hn)]
theorem Ri.holds_zero : Ri.zero.Holds [] := ⟨0, 0, rfl, rfl, by omega, by omega, rfl, by decide, rfl⟩
theorem Ri.ofs_holds : ∀ (l m : List Int) (r : Ri), r.Holds m → (∃ r', Ri.ofs r l = (r', true) ∧ r'.Holds (m ++ l)) ∨ Ri.ofs r l = (Ri.zero, false)
  | [], m, r, h => .inl ⟨r, rfl, by simpa using h⟩
  | g :: l, m, r, h => by
    by_cases hg : 1 ≤ g ∧ m.length < 8
    · obtain ⟨r', h1, h2⟩ := Ri.holds_push h hg.1 hg.2
      unfold Ri.ofs
      rw [h1]
      simp only [if_true]
      rcases Ri.ofs_holds l (m ++ [g]) r' h2 with ⟨r'', h3, h4⟩ | h3
      · exact .inl ⟨r'', h3, by simpa using h4⟩
      · exact .inr h3
    · have := (Ri.holds_n h).2
      right
      unfold Ri.ofs
      rw [Ri.push_no h (by omega)]
      rfl
theorem Ri.holds_len {r : Ri} {l : List Int} (h : r.Holds l) : r.buf.length = 8 := by
  obtain ⟨hd, nn, h1, h2, h3, h4, h5, h6, rfl⟩ := h
  exact h5
/-- A ring with its ten numbers. -/
theorem Ri.open8 {r : Ri} (h : r.buf.length = 8) : ∃ b0 b1 b2 b3 b4 b5 b6 b7 hd n, r = ⟨[b0, b1, b2, b3, b4, b5, b6, b7], hd, n⟩ := by
  obtain ⟨bs, hd, n⟩ := r
  obtain ⟨b0, b1, b2, b3, b4, b5, b6, b7, rfl⟩ := list8 h
  exact ⟨b0, b1, b2, b3, b4, b5, b6, b7, hd, n, rfl⟩

end Go.Proofs.Ytogcfndhcphpaaa
/-
  A statement whose order Go leaves open, taken in the text's order: where each operation gives one value in every world that meets a condition, and leaves a world that meets it, the order makes no difference. No program is named; the conditions stand in the theorems.
-/
set_option linter.unusedVariables false
set_option linter.unusedSimpArgs false
namespace Go.Proofs.Ytogcfndhcphpaaa
open Go.RowKit

section
variable {P : Program} {ops : Array Oper} {Q : Exit → Act → World → Prop} {md : Region.Mode} {S : World → Prop}

/-- What an operation came to: the value v, in a world that meets S. -/
def GivesV (P : Program) (S : World → Prop) (v : Value) : Result Next → Prop
  | .ok (.value u) w' => u = v ∧ S w'
  | .ok .skip w' => v = undef ∧ S w'
  | .ok (.enter f args) w' => Calls P f args w' fun e w'' => e = .returned v ∧ S w''
  | _ => False

/-- In every world that meets S the operation gives v, or it is not wanted. -/
def Tame (P : Program) (ops : Array Oper) (S : World → Prop) (o : Oper) (v : Value) (a : Act) : Prop :=
  (Region.wanted o (yielded ops a.tmps) = true ∧ ∀ w, S w → GivesV P S v ((execOp a.eval o).run P w)) ∨
  (Region.wanted o (yielded ops a.tmps) = false ∧ v = undef)

theorem Tame.same {o : Oper} {v : Value} {a b : Act} (h : Tame P ops S o v a) (he : execOp b.eval o = execOp a.eval o)
    (hw : Region.wanted o (yielded ops b.tmps) = Region.wanted o (yielded ops a.tmps)) : Tame P ops S o v b := by
  unfold Tame at *
  rw [he, hw]
  exact h

theorem Tame.op {i : Nat} {o : Oper} {v : Value} {a : Act} (hi : ops[i]? = some o) (h : Tame P ops S o v a)
    {K : Act → World → Prop} {w : World} (hS : S w) (hK : ∀ w', S w' → K (a.put o.dst v) w') : wpOp P ops Q i K a w := by
  unfold wpOp
  simp only [hi]
  rcases h with ⟨hw, hv⟩ | ⟨hw, rfl⟩
  · simp only [hw, if_true]
    left
    have h2 := hv w hS
    unfold Oper.wp
    generalize (execOp a.eval o).run P w = r at *
    cases r with
    | halt x w' => exact h2.elim
    | ok n w' =>
      cases n with
      | value u => obtain ⟨rfl, h3⟩ := h2; exact hK _ h3
      | skip => obtain ⟨rfl, h3⟩ := h2; exact hK _ h3
      | enter f args =>
        refine Calls.mono h2 fun e w'' he => ?_
        obtain ⟨rfl, h3⟩ := he
        exact hK _ h3
      | _ => exact h2.elim
  · simp only [hw, Bool.false_eq_true, if_false]
    exact hK _ hS

/-- Behind an operation that is apart the first one is as tame as it was. -/
theorem op_apart {j : Nat} {oi oj : Oper} {v : Value} (hj : ops[j]? = some oj) (hap : oi.apart ops oj = true)
    (hsi : ∀ cs b, oi.op ≠ .select cs b) (hsj : ∀ cs b, oj.op ≠ .select cs b)
    (hQ : ∀ c a w, Q (.panic c) (a.put oi.dst v) w → Q (.panic c) a w) {K : Act → World → Prop} {a : Act} {w : World}
    (hy : Tame P ops S oi v a) (h : wpOp P ops Q j K (a.put oi.dst v) w) :
    wpOp P ops Q j (fun a' w' => Tame P ops S oi v a' ∧ K (a'.put oi.dst v) w') a w := by
  obtain ⟨h1, h2, h3⟩ := Oper.apart_spec hap
  have keep : ∀ u, Tame P ops S oi v (a.put oj.dst u) := fun u => hy.same (execOp_put oi hsi a oj.dst u h3) (wanted_put oi a oj.dst u h3)
  have swap : ∀ u w', K ((a.put oi.dst v).put oj.dst u) w' → Tame P ops S oi v (a.put oj.dst u) ∧ K ((a.put oj.dst u).put oi.dst v) w' :=
    fun u w' hk => ⟨keep u, by rw [← Act.put_comm a v u h2]; exact hk⟩
  unfold wpOp at *
  simp only [hj] at *
  rw [wanted_put oj a oi.dst v h1] at h
  split
  · rename_i hw
    simp only [hw, if_true] at h
    rcases h with h | ⟨hasks, hlets⟩
    · left
      unfold Oper.wp at *
      rw [execOp_put oj hsj a oi.dst v h1] at h
      generalize (execOp a.eval oj).run P w = r at *
      cases r with
      | ok n w' =>
        cases n <;> simp only [Oper.upon] at h ⊢
        case value u => exact swap u w' h
        case skip => exact swap _ w' h
        case defer d =>
          have kd : Tame P ops S oi v { a with defers := d :: a.defers } := hy.same rfl rfl
          refine ⟨kd.same (execOp_put oi hsi _ oj.dst _ h3) (wanted_put oi _ oj.dst _ h3), ?_⟩
          rw [← Act.put_comm _ v undef h2, ← Act.put_defers]
          exact h
        case enter f args =>
          refine Calls.mono h fun e w'' he => ?_
          cases e with
          | returned u => exact swap u w'' he
          | panicked c => exact hQ _ _ _ he
          | outgrown => exact he
        case row row args => exact Rows.mono h fun u w'' he => swap u w'' he
      | halt x w' =>
        cases x <;> simp only [Oper.upon] at h ⊢
        case panic u => exact hQ _ _ _ h
    · right
      unfold Oper.asks at *
      rw [execOp_put oj hsj a oi.dst v h1] at hasks
      exact ⟨hasks, hlets⟩
  · rename_i hw
    simp only [hw] at h
    exact swap _ w h

/-- Whatever order is picked from here on, in whatever world that meets S. -/
def wpAll (P : Program) (md : Region.Mode) (ops : Array Oper) (Q : Exit → Act → World → Prop) (S : World → Prop) : Nat → Array Bool → Act → Prop
  | 0, listed, a => Region.ready md ops listed = [] ∧ ∀ w, S w → Q .normal a w
  | f + 1, listed, a => (Region.ready md ops listed = [] → ∀ w, S w → Q .normal a w) ∧
      ∀ i ∈ Region.ready md ops listed, ∀ w, S w → wpOp P ops Q i (fun a' w' => S w' ∧ wpAll P md ops Q S f (listed.setIfInBounds i true) a') a w

theorem wpAny_of_all : ∀ (f : Nat) (listed : Array Bool) (a : Act) (w : World), S w → wpAll P md ops Q S f listed a → wpAny P md ops Q f listed a w
  | 0, _, _, w, hS, h => ⟨h.1, h.2 w hS⟩
  | f + 1, _, _, w, hS, h => ⟨fun h0 => h.1 h0 w hS, fun i hi => wpOp_mono (fun a' w' h' => wpAny_of_all f _ a' w' h'.1 h'.2) (h.2 i hi w hS)⟩

theorem all_first {i : Nat} {oi : Oper} {v : Value} (hi : ops[i]? = some oi) (hsel : ∀ (j : Nat) (o : Oper) cs b, ops[j]? = some o → o.op ≠ .select cs b)
    (hQ : ∀ c a w, Q (.panic c) (a.put oi.dst v) w → Q (.panic c) a w) :
    ∀ (f : Nat) (listed : Array Bool) (a : Act),
      (∀ j oj, ops[j]? = some oj → j ≠ i → listed.getD j true = false → (∀ e ∈ oj.after, Region.binds md e = true → e.on ≠ i) → oi.apart ops oj = true) →
      i ∈ Region.ready md ops listed → Tame P ops S oi v a →
      wpAll P md ops Q S f (listed.setIfInBounds i true) (a.put oi.dst v) → wpAll P md ops Q S (f + 1) listed a := by
  intro f
  induction f with
  | zero =>
    intro listed a _ hr hy H
    refine ⟨fun h => (by rw [h] at hr; cases hr), fun j hj w hS => ?_⟩
    by_cases hji : j = i
    · subst hji
      exact hy.op hi hS fun w' h' => ⟨h', H⟩
    · have h0 := ready_mono hj hji
      rw [H.1] at h0
      cases h0
  | succ f ih =>
    intro listed a hfree hr hy H
    refine ⟨fun h => (by rw [h] at hr; cases hr), fun j hj w hS => ?_⟩
    by_cases hji : j = i
    · subst hji
      exact hy.op hi hS fun w' h' => ⟨h', H⟩
    · obtain ⟨hjun, oj, hoj, hall⟩ := mem_ready.1 hj
      have hno : ∀ e ∈ oj.after, Region.binds md e = true → e.on ≠ i := fun e he hb heq => by
        have h1 := hall e he hb
        have h0 := (mem_ready.1 hr).1
        rw [heq] at h1
        rcases Nat.lt_or_ge i listed.size with h' | h'
        · simp [h'] at h0 h1; rw [h0] at h1; cases h1
        · simp [Array.getElem?_eq_none h'] at h1
      have h2 := op_apart hoj (hfree j oj hoj hji hjun hno) (fun cs b => hsel i oi cs b hi) (fun cs b => hsel j oj cs b hoj) hQ hy (H.2 j (ready_mono hj hji) w hS)
      refine wpOp_mono (fun a' w' h3 => ⟨h3.2.1, ih (listed.setIfInBounds j true) a' (fun k ok hk hki hun hn => ?_) (ready_mono hr (Ne.symm hji)) h3.1 ?_⟩) h2
      · refine hfree k ok hk hki ?_ hn
        by_cases hjk : j = k
        · subst hjk; exact hjun
        · rw [getD_set_ne true hjk] at hun; exact hun
      · rw [Array.setIfInBounds_comm _ _ hji]
        exact h3.2.2

/-- The next operation of the text. -/
theorem all_take {i : Nat} {oi : Oper} {v : Value} {f : Nat} {listed : Array Bool} {a : Act} (hi : ops[i]? = some oi)
    (hs : Region.noSelect ops = true) (hf : Region.free md ops listed i = true) (hr : (Region.ready md ops listed).contains i = true)
    (hQ : ∀ c a w, Q (.panic c) (a.put oi.dst v) w → Q (.panic c) a w) (hy : Tame P ops S oi v a)
    (h : wpAll P md ops Q S f (listed.setIfInBounds i true) (a.put oi.dst v)) : wpAll P md ops Q S (f + 1) listed a :=
  all_first hi (Region.noSelect_spec hs) hQ f listed a (Region.free_spec hi hf) (by simpa using hr) hy h

theorem all_done {listed : Array Bool} {a : Act} (hr : Region.ready md ops listed = []) (h : ∀ w, S w → Q .normal a w) : ∀ f, wpAll P md ops Q S f listed a
  | 0 => ⟨hr, h⟩
  | _ + 1 => ⟨fun _ => h, by rw [hr]; simp⟩

/-- The beginning. -/
theorem region_all (S : World → Prop) {id : Nat} {a : Act} {w : World} (hm : P.follows .mixedOrders = true) (hS : S w.drew)
    (h : wpAll P .any ops Q S ops.size (Array.replicate ops.size false) a) : (Code.region id ops true).wp P Q a w :=
  wp_region_any hm (wpAny_of_all _ _ _ _ hS h)

theorem Tame.yes {o : Oper} {v : Value} {a : Act} (hw : Region.wanted o (yielded ops a.tmps) = true) (h : ∀ w, S w → GivesV P S v ((execOp a.eval o).run P w)) : Tame P ops S o v a := .inl ⟨hw, h⟩
theorem Tame.no {o : Oper} {a : Act} (hw : Region.wanted o (yielded ops a.tmps) = false) : Tame P ops S o undef a := .inr ⟨hw, rfl⟩
theorem gives_mk {u v : Value} {w : World} (h : u = v) (hS : S w) : GivesV P S v (.ok (.value u) w) := ⟨h, hS⟩
theorem gives_call {f : FuncId} {args : Array Value} {v : Value} {w : World} (h : Calls P f args w fun e w'' => e = .returned v ∧ S w'') : GivesV P S v (.ok (.enter f args) w) := h
end

end Go.Proofs.Ytogcfndhcphpaaa
/-
  Timers: what they read as, which stands ahead, which lists may be; and the walk of before.
-/
set_option linter.unusedVariables false
set_option linter.unusedSimpArgs false
namespace Go.Proofs.Ytogcfndhcphpaaa
open Go.RowKit

/-- A slice of pairs of numbers. -/
def PairsAt (w : World) (v : Value) (xs : List (Int × Int)) : Prop :=
  ∃ A c, v = .slice A xs.length c ∧ xs.length ≤ c ∧ (0 < xs.length → ∃ b o, A = some ⟨b, o, none⟩ ∧ b < w.heap.size ∧ ∀ j p, xs[j]? = some p → w.cell? ⟨b, o + j * 2, none⟩ = some (.int .i64 p.1) ∧ w.cell? ⟨b, o + j * 2 + 1, none⟩ = some (.int .i64 p.2))
theorem PairsAt.ext {w w' : World} {v : Value} {xs : List (Int × Int)} (h : PairsAt w v xs) (hx : Ext w w') : PairsAt w' v xs := by
  obtain ⟨A, c, rfl, hc, hA⟩ := h
  refine ⟨A, c, rfl, hc, fun h0 => ?_⟩
  obtain ⟨b, o, hb, hlt, hc⟩ := hA h0
  exact ⟨b, o, hb, Nat.lt_of_lt_of_le hlt hx.size, fun j x hj => by rw [Below.cell hx hlt, Below.cell hx hlt]; exact hc j x hj⟩
/-- A pair as one value. -/
def pairV (p : Int × Int) : Value := .agg #[.int .i64 p.1, .int .i64 p.2]
def i64ok (x : Int) : Prop := -9223372036854775808 ≤ x ∧ x ≤ 9223372036854775807

def Sl.lt (a b : Int × Int) : Prop := a.1 < b.1 ∨ a.1 = b.1 ∧ a.2 < b.2
instance (a b : Int × Int) : Decidable (Sl.lt a b) := by unfold Sl.lt; exact inferInstance
def Sl.fit (p : Int × Int) : Prop := 0 ≤ p.1 ∧ p.1 < 4611686018427387904 ∧ 1 ≤ p.2
instance (p : Int × Int) : Decidable (Sl.fit p) := by unfold Sl.fit; exact inferInstance
theorem Sl.lt_trans {a b c : Int × Int} (h : Sl.lt a b) (k : Sl.lt b c) : Sl.lt a c := by unfold Sl.lt at *; omega
theorem Sl.lt_irrefl (a : Int × Int) : ¬ Sl.lt a a := by unfold Sl.lt; omega
theorem Sl.lt_total {a b : Int × Int} (h : ¬ Sl.lt a b) (k : ¬ Sl.lt b a) : a = b := by unfold Sl.lt at *; apply Prod.ext <;> omega
def Sl.May (l : List (Int × Int)) : Prop := (∀ p ∈ l, Sl.fit p) ∧ l.Pairwise Sl.lt ∧ (l.map Prod.snd).Nodup
instance (l : List (Int × Int)) : Decidable (Sl.May l) := by unfold Sl.May; exact inferInstance

theorem Sl.May.nil : Sl.May [] := ⟨by simp, by simp, by simp⟩
theorem Sl.May.sub {l m : List (Int × Int)} (h : Sl.May m) (hs : l.Sublist m) : Sl.May l :=
  ⟨fun p hp => h.1 p (hs.subset hp), h.2.1.sublist hs, h.2.2.sublist (hs.map _)⟩
theorem Sl.may_snoc {l : List (Int × Int)} {p : Int × Int} : Sl.May (l ++ [p]) ↔ Sl.May l ∧ Sl.fit p ∧ (∀ q, l.getLast? = some q → Sl.lt q p) ∧ p.2 ∉ l.map Prod.snd := by
  constructor
  · intro h
    refine ⟨h.sub (List.sublist_append_left _ _), h.1 p (by simp), fun q hq => ?_, ?_⟩
    · have := (List.pairwise_append.1 h.2.1).2.2 q (List.mem_of_getLast? hq) p (by simp)
      exact this
    · have h3 := h.2.2
      rw [List.map_append, List.nodup_append] at h3
      intro hm
      exact h3.2.2 _ hm p.2 (by simp) rfl
  · rintro ⟨h, hf, hlt, hn⟩
    refine ⟨fun q hq => ?_, ?_, ?_⟩
    · rcases List.mem_append.1 hq with hq | hq
      · exact h.1 q hq
      · rw [List.mem_singleton.1 hq]; exact hf
    · refine List.pairwise_append.2 ⟨h.2.1, by simp, fun a ha b hb => ?_⟩
      rw [List.mem_singleton.1 hb]
      rcases List.eq_nil_or_concat l with rfl | ⟨l', z, rfl⟩
      · simp at ha
      · have hz := hlt z (by simp)
        rw [List.concat_eq_append] at ha h
        rcases List.mem_append.1 ha with ha | ha
        · exact Sl.lt_trans ((List.pairwise_append.1 h.2.1).2.2 a ha z (by simp)) hz
        · rw [List.mem_singleton.1 ha]; exact hz
    · rw [List.map_append, List.nodup_append]
      refine ⟨h.2.2, by simp, fun a ha b hb => ?_⟩
      simp at hb
      subst hb
      intro he
      exact hn (he ▸ ha)

set_option maxRecDepth 100000 in
set_option maxHeartbeats 1000000 in
theorem before_any (a b : Int × Int) (w : World) : Calls Try.prog 124 #[pairV a, pairV b] w fun e w' => e = .returned (.bool (decide (Sl.lt a b))) ∧ Ext w w' := by
  obtain ⟨a0, a1⟩ := a
  obtain ⟨b0, b1⟩ := b
  unfold pairV
  simp only
  by_cases h0 : a0 < b0
  · rw [show decide (Sl.lt (a0, a1) (b0, b1)) = true from decide_eq_true (Or.inl h0)]
    go_enter Try.func124, Try.ntmps124
    go_wp2
    go_ret
    exact ⟨rfl, ((Ext.refl _).alloc _).alloc _⟩
  · by_cases h1 : a0 = b0
    · subst h1
      rw [show decide (Sl.lt (a0, a1) (a0, b1)) = decide (a1 < b1) from decide_eq_decide.2 (show (a0 < a0 ∨ a0 = a0 ∧ a1 < b1) ↔ a1 < b1 by omega)]
      go_enter Try.func124, Try.ntmps124
      go_wp2
      go_ret
      exact ⟨rfl, ((Ext.refl _).alloc _).alloc _⟩
    · have hb : (a0 == b0) = false := by simpa using h1
      rw [show decide (Sl.lt (a0, a1) (b0, b1)) = false from decide_eq_false (show ¬ (a0 < b0 ∨ a0 = b0 ∧ a1 < b1) by omega)]
      go_enter Try.func124, Try.ntmps124
      go_wp2
      go_ret
      exact ⟨rfl, ((Ext.refl _).alloc _).alloc _⟩

end Go.Proofs.Ytogcfndhcphpaaa
/-
  Plain programs and states of the scheduler: which may be. No function of the program is named.
-/
set_option linter.unusedVariables false
set_option linter.unusedSimpArgs false
namespace Go.Proofs.Ytogcfndhcphpaaa

/-- Each element, by its place. -/
def allIx {α : Type} (f : Nat → α → Bool) : Nat → List α → Bool
  | _, [] => true
  | i, x :: l => f i x && allIx f (i + 1) l
theorem allIx_iff {α : Type} {f : Nat → α → Bool} : ∀ {l : List α} {i : Nat}, allIx f i l = true ↔ ∀ (j : Nat) x, l[j]? = some x → f (i + j) x = true
  | [], i => by simp [allIx]
  | x :: l, i => by
    rw [allIx, Bool.and_eq_true, allIx_iff (l := l)]
    constructor
    · rintro ⟨h1, h2⟩ j y hj
      match j, hj with
      | 0, hj => simp at hj; subst hj; exact h1
      | j + 1, hj => have := h2 j y (by simpa using hj); rwa [Nat.add_assoc, Nat.add_comm 1 j] at this
    · intro h
      exact ⟨h 0 x rfl, fun j y hj => by have := h (j + 1) y (by simpa using hj); rwa [Nat.add_assoc, Nat.add_comm 1 j]⟩
theorem allIx_no {α : Type} {f : Nat → α → Bool} {l : List α} {j : Nat} {x : α} (hj : l[j]? = some x) (h : f j x = false) : allIx f 0 l = false := by
  cases ha : allIx f 0 l with
  | false => rfl
  | true => have := allIx_iff.1 ha j x hj; rw [Nat.zero_add, h] at this; cases this
theorem allIx_yes {α : Type} {f : Nat → α → Bool} {l : List α} (h : ∀ (j : Nat) x, l[j]? = some x → f j x = true) : allIx f 0 l = true := allIx_iff.2 fun j x hj => by rw [Nat.zero_add]; exact h j x hj
theorem all_no {α : Type} {f : α → Bool} {l : List α} {j : Nat} {x : α} (hj : l[j]? = some x) (h : f x = false) : l.all f = false := by
  cases ha : l.all f with
  | false => rfl
  | true => have := List.all_eq_true.1 ha x (List.mem_of_getElem? hj); rw [h] at this; cases this
theorem all_yes {α : Type} {f : α → Bool} {l : List α} (h : ∀ (j : Nat) x, l[j]? = some x → f x = true) : l.all f = true := List.all_eq_true.2 fun x hx => by
  obtain ⟨j, hj⟩ := List.mem_iff_getElem?.1 hx
  exact h j x hj

namespace Pg
def most (n : Int) (d : Int) : Int := if d = 1 then n - 1 else if d = 3 ∨ d = 4 then 3 else if d = 6 then 1000 else 0
def okI (n : Int) (x : Int × Int) : Bool := decide (0 ≤ x.1 ∧ x.1 ≤ 6 ∧ 0 ≤ x.2 ∧ x.2 ≤ most n x.1)
def okC (n : Int) (l : List (Int × Int)) : Bool := decide (l.length ≤ 20) && l.all (okI n)
def may (p : List (List (Int × Int))) : Bool := decide (1 ≤ p.length ∧ p.length ≤ 8) && p.all (okC p.length)
def small (p : List (List (Int × Int))) : Bool := (p.all fun l => decide (l.length ≤ 30)) && decide (p.length ≤ 12)
theorem may_iff {p : List (List (Int × Int))} : may p = true ↔ 1 ≤ p.length ∧ p.length ≤ 8 ∧ ∀ l ∈ p, l.length ≤ 20 ∧ ∀ x ∈ l, 0 ≤ x.1 ∧ x.1 ≤ 6 ∧ 0 ≤ x.2 ∧ x.2 ≤ most p.length x.1 := by
  simp [may, okC, okI, and_assoc]
theorem small_iff {p : List (List (Int × Int))} : small p = true ↔ (∀ l ∈ p, l.length ≤ 30) ∧ p.length ≤ 12 := by simp [small]
end Pg

/-- A goroutine. -/
structure Gr where
  func : Int
  pc : Int
  st : Int
  m : Int
  seq : Int
/-- A processor. -/
structure Pr where
  m : Int
  next : Int
  ring : Ri
  seq : Int
/-- A state. -/
structure St where
  prog : List (List (Int × Int))
  gs : List Gr
  ps : List Pr
  ms : List (Int × Int)
  glob : List Int
  c0 : Int
  c1 : Int
  c2 : Int
  c3 : Int
  w0 : List Int
  w1 : List Int
  w2 : List Int
  w3 : List Int
  timers : List (Int × Int)
  clock : Int
  procs : Int
namespace St
def low (n : Int) : Bool := decide (0 ≤ n ∧ n < 2305843009213693952)
def times (l : List Int) (n : Int) : Nat := l.count n
def queueOf (p : Pr) : List Int := (if p.next ≠ 0 then [p.next] else []) ++ p.ring.list
def runs (s : St) : List Int := s.ps.flatMap queueOf ++ s.glob
def waits (s : St) : List Int := s.w0 ++ s.w1 ++ s.w2 ++ s.w3
def waiters (s : St) : List Int := s.waits ++ s.timers.map Prod.snd
def onM (s : St) (b : Bool) : List Int := (s.ms.filter fun m => m.2 != 0 && ((m.1 != 0) == b)).map Prod.snd
def good (s : St) (g : Gr) : Bool := decide (0 ≤ g.func ∧ g.func < s.prog.length ∧ 0 ≤ g.pc) && low g.seq && decide (g.pc ≤ (s.prog.getD g.func.toNat []).length)
def goods (s : St) : Bool := s.gs.all s.good
def holdP (s : St) (i : Nat) (p : Pr) : Bool :=
  p.ring.may && low p.seq && decide (0 ≤ p.m ∧ p.m ≤ s.ms.length) && decide (0 < p.m → (s.ms.getD (p.m - 1).toNat (0, 0)).1 = i + 1) && !(decide (s.procs ≤ i) && (decide (0 < p.m) || decide (p.next ≠ 0) || decide (0 < p.ring.n)))
def nilP : Pr := ⟨0, 0, ⟨[], 0, 0⟩, 0⟩
def nilG : Gr := ⟨0, 0, 0, 0, 0⟩
def holdM (s : St) (i : Nat) (m : Int × Int) : Bool := decide (0 ≤ m.1 ∧ m.1 ≤ s.ps.length) && decide (0 < m.1 → (s.ps.getD (m.1 - 1).toNat nilP).m = i + 1)
def holds (s : St) : Bool := allIx s.holdP 0 s.ps && allIx s.holdM 0 s.ms
def within (l : List Int) (n : Int) : Bool := l.all fun x => decide (1 ≤ x ∧ x ≤ n)
/-- How often a G of a status is to stand among the runnable ones, on Ms with a P, among those that wait, on Ms without. -/
def want (st i : Int) : Nat := if st = i then 1 else 0
def stands (s : St) (i : Nat) (g : Gr) : Bool :=
  decide (1 ≤ g.st ∧ g.st ≤ 5) && decide (times s.runs (i + 1) = want g.st 1 ∧ times (s.onM true) (i + 1) = want g.st 2 ∧ times s.waiters (i + 1) = want g.st 3 ∧ times (s.onM false) (i + 1) = want g.st 4) &&
  (if g.st ≠ 2 ∧ g.st ≠ 4 then decide (g.m = 0) else decide (1 ≤ g.m ∧ g.m ≤ s.ms.length) && decide ((s.ms.getD (g.m - 1).toNat (0, 0)).2 = i + 1))
def okCnt (c : Int) (l : List Int) : Bool := decide (0 ≤ c ∧ c ≤ 1000000) && !(decide (0 < c) && decide (0 < l.length))
def counts (s : St) : Bool := okCnt s.c0 s.w0 && okCnt s.c1 s.w1 && okCnt s.c2 s.w2 && okCnt s.c3 s.w3
def whole (s : St) : Bool := Pg.may s.prog && decide (1 ≤ s.gs.length ∧ s.gs.length ≤ 1000 ∧ s.ps.length = 8 ∧ 1 ≤ s.procs ∧ s.procs ≤ 8 ∧ s.ms.length ≤ 1000) && low s.clock && decide (Sl.May s.timers)
def allIn (s : St) : Bool := within s.runs s.gs.length && within s.waiters s.gs.length && within (s.onM true) s.gs.length && within (s.onM false) s.gs.length
def may (s : St) : Bool := s.whole && s.goods && s.holds && s.counts && s.allIn && allIx s.stands 0 s.gs
end St
end Go.Proofs.Ytogcfndhcphpaaa
