/-
  The contract of ring.List.
-/
import Derived.Test.YtdpmogbibmgolaaNf
import Derived.Maps.AppendAt
set_option linter.unusedVariables false
set_option linter.unusedSimpArgs false
namespace Go.Proofs.Ytdpmogbibmgolaa
open Go.RowKit Go.Shelf
attribute [local go_sem] Oper.semAt_some

theorem Try.infoRint : (Try.prog.info? 3).map (fun i => (i.zero, i.size, i.bytes)) = some (some (.int .i64 0), 1, 8) := by kernel_rfl
theorem ring_not_row {W : World} {g : Nat} {r : Ri} (h : RingIn g r W) {base k : Nat} {v : Value} {xs : List Value} (hr : W.ownsRow base 3 1 v k xs) : some g ≠ v.ownBlock := by
  rcases hr.2 with ⟨rfl, _⟩ | ⟨g', cap, cur, rfl, _, hgb, _⟩
  · simp [Value.ownBlock]
  · intro e'
    obtain rfl : g = g' := by simpa [Value.ownBlock] using e'
    have := (show W.heap[g]? = _ from h).symm.trans hgb
    simp at this
def seconds (pre : List I8) : List Int := pre.map fun p => p.1.2
theorem seconds_snoc (pre : List I8) (x : I8) : seconds (pre ++ [x]) = seconds pre ++ [x.1.2] := by simp [seconds]
theorem seconds_len (pre : List I8) : (seconds pre).length = pre.length := by simp [seconds]
theorem Ri.list_upto {hd nn : Nat} {bs : List Int} (hm : Ri.may ⟨bs, hd, nn⟩ = true) : Ri.list ⟨bs, hd, nn⟩ = seconds (upto (Ri.pair hd bs) nn) := by
  unfold Ri.list
  rw [if_pos hm]
  simp [seconds, upto, Ri.elem, Ri.pair]
set_option maxRecDepth 100000 in
set_option maxHeartbeats 1000000 in
theorem rlist_no (b0 b1 b2 b3 b4 b5 b6 b7 hd nn : Int) (hm : Ri.may ⟨[b0, b1, b2, b3, b4, b5, b6, b7], hd, nn⟩ = false) (w : World) :
    Calls Try.prog 14 #[.agg #[.int .i64 b0, .int .i64 b1, .int .i64 b2, .int .i64 b3, .int .i64 b4, .int .i64 b5, .int .i64 b6, .int .i64 b7, .int .i64 hd, .int .i64 nn]] w fun e w' => e = .returned (.slice none 0 0) ∧ Ext w w' := by
  have HM := Lib.hid hm
  clear hm
  go_enter Try.func14, Try.ntmps14
  go_wp2_with fail
  refine (rmay_eq b0 b1 b2 b3 b4 b5 b6 b7 hd nn _ HM.out _).mono ?_
  rintro r w1 ⟨rfl, hx1⟩
  go_wp2
  go_ret
  exact ⟨rfl, ((Ext.refl w).alloc _).trans hx1⟩
set_option maxRecDepth 100000 in
set_option maxHeartbeats 2000000 in
theorem rlist_in (b0 b1 b2 b3 b4 b5 b6 b7 : Int) (hd nn : Nat) (hhd : hd < 8) (hnn : nn ≤ 8) (hm : Ri.may ⟨[b0, b1, b2, b3, b4, b5, b6, b7], hd, nn⟩ = true) (w : World) :
    Calls Try.prog 14 #[.agg #[.int .i64 b0, .int .i64 b1, .int .i64 b2, .int .i64 b3, .int .i64 b4, .int .i64 b5, .int .i64 b6, .int .i64 b7, .int .i64 (hd : Int), .int .i64 (nn : Int)]] w fun e w' => ∃ v, e = .returned v ∧ IntsAt w' v (seconds (upto (Ri.pair hd [b0, b1, b2, b3, b4, b5, b6, b7]) nn)) ∧ Ext w w' := by
  have HM := Lib.hid hm
  clear hm
  obtain ⟨i0, hi, hz0, hz1, hz2⟩ := info_parts Try.infoRint
  refine (callsIn_wide (n := 3)).1 ?_
  have h1 : 1 ≤ 3 := by omega
  refine callsIn_of_wp_marks Try.func14 rfl trivial ?_ rfl
  simp only [Try.ntmps14, List.size_toArray, List.length_cons, List.length_nil, Nat.reduceAdd, Nat.reduceSub, Array.replicate_succ, Array.replicate_zero, List.push_toArray, List.append_toArray, List.nil_append, List.cons_append]
  gi_wp2_with fail
  refine ⟨trivial, callsIn_wide.2 ((rmay_eq b0 b1 b2 b3 b4 b5 b6 b7 hd nn _ HM.out _).mono ?_)⟩
  rintro r w1 ⟨rfl, hx1⟩
  obtain ⟨⟨q0, q1, q2, q3, q4⟩, q5, q6, q7, q8, q9⟩ := cells10 (blk_alloc (hx1.blk (blk_new w (.cells #[.int .i64 b0, .int .i64 b1, .int .i64 b2, .int .i64 b3, .int .i64 b4, .int .i64 b5, .int .i64 b6, .int .i64 b7, .int .i64 (hd : Int), .int .i64 (nn : Int)] 24))) (.cells #[.slice none 0 0] 25))
  have HX1 : Hid (Ext w w1) := Lib.hid (((Ext.refl w).alloc _).trans hx1)
  clear hx1
  gi_wp2_with fail
  refine ⟨trivial, (elements_in Fence.wide (3 - 1) trivial rfl _ _ _ _ _ _ _ _ _ _ _).mono ?_⟩
  rintro e w' ⟨rfl, rfl⟩
  clear q0 q1 q2 q3 q4 q5 q6 q7 q8 q9
  gi_wp2_with fail
  have bO := (Boxed.new w1 25 (.slice none 0 0)).alloc (.cells #[.int .i64 b0, .int .i64 b1, .int .i64 b2, .int .i64 b3, .int .i64 b4, .int .i64 b5, .int .i64 b6, .int .i64 b7, .int .i64 (hd : Int), .int .i64 (nn : Int)] 24)
  have hA3 : RingIn (w1.heap.size + 1) ⟨[b0, b1, b2, b3, b4, b5, b6, b7], hd, nn⟩ ((w1.alloc (.cells #[.slice none 0 0] 25)).alloc (.cells #[.int .i64 b0, .int .i64 b1, .int .i64 b2, .int .i64 b3, .int .i64 b4, .int .i64 b5, .int .i64 b6, .int .i64 b7, .int .i64 (hd : Int), .int .i64 (nn : Int)] 24)) := by
    have := blk_new (w1.alloc (.cells #[.slice none 0 0] 25)) (.cells #[.int .i64 b0, .int .i64 b1, .int .i64 b2, .int .i64 b3, .int .i64 b4, .int .i64 b5, .int .i64 b6, .int .i64 b7, .int .i64 (hd : Int), .int .i64 (nn : Int)] 24)
    rwa [World.size_alloc] at this
  have hX0 : Ext w ((w1.alloc (.cells #[.slice none 0 0] 25)).alloc (.cells #[.int .i64 b0, .int .i64 b1, .int .i64 b2, .int .i64 b3, .int .i64 b4, .int .i64 b5, .int .i64 b6, .int .i64 b7, .int .i64 (hd : Int), .int .i64 (nn : Int)] 24)) := (HX1.out.alloc _).alloc _
  have hS3 : ((w1.alloc (.cells #[.slice none 0 0] 25)).alloc (.cells #[.int .i64 b0, .int .i64 b1, .int .i64 b2, .int .i64 b3, .int .i64 b4, .int .i64 b5, .int .i64 b6, .int .i64 b7, .int .i64 (hd : Int), .int .i64 (nn : Int)] 24)).heap.size = w1.heap.size + 2 := by simp [World.size_alloc]
  have hsz := HX1.out.size
  generalize hW3 : (w1.alloc (.cells #[.slice none 0 0] 25)).alloc (.cells #[.int .i64 b0, .int .i64 b1, .int .i64 b2, .int .i64 b3, .int .i64 b4, .int .i64 b5, .int .i64 b6, .int .i64 b7, .int .i64 (hd : Int), .int .i64 (nn : Int)] 24) = W3 at *
  clear hW3
  apply wpIn_rangeFunc_ownG rfl h1 (gf := 18) (lb := #[.pointer (some ⟨w1.heap.size + 1, 0, none⟩)]) rfl trivial (enters_of Try.func18 (by kernel_rfl) rfl)
    (elements_stops Fence.wide (3 - 1) trivial rfl (by omega) (w1.heap.size + 1) hd nn [b0, b1, b2, b3, b4, b5, b6, b7] rfl hhd hnn W3 (by omega) hA3) (keepsAt_t (w1.heap.size + 1)) (keepsAt_b (by omega)) (Below.refl _ _) (fun _ => rfl)
    (fun pre W => ((∃ v, Boxed W w1.heap.size 25 v ∧ W.ownsRow w.heap.size 3 1 v (seconds pre).length (intsV (seconds pre)) ∧ True) ∧ RingIn (w1.heap.size + 1) ⟨[b0, b1, b2, b3, b4, b5, b6, b7], hd, nn⟩ W) ∧ Ext w W)
    (fun _ _ _ => False)
    (OwnFrom.and (OwnFrom.and (Own.from (holdsRow_own w.heap.size w1.heap.size 25 3 1 (fun pre => (seconds pre).length) (fun pre => intsV (seconds pre)) (fun _ _ => True)) _) (Own.from (fun s A B row hs hg hr => blk_own (w1.heap.size + 1) (fun (_ : Unit) => .cells (⟨[b0, b1, b2, b3, b4, b5, b6, b7], hd, nn⟩ : Ri).cells 24 (0, 0)) (fun _ => rfl) () A B row hs hg hr) _)) (ownFrom_below (Nat.le_refl _) (by omega)))
    (fun _ _ _ _ _ hs _ _ => hs)
    ⟨⟨⟨_, bO, World.ownsRow_nil _ _ _ _, trivial⟩, hA3⟩, hX0⟩ _ ?assign ?body ?done ?stop
  case assign =>
    intro l x W K hK
    gi_wp2
    exact hK
  case body =>
    rintro l pre ⟨⟨x1, x2⟩, hx0, hx8⟩ W ⟨⟨⟨v, hv, hrow, _⟩, hA⟩, hB⟩ hlt
    have hc := hv.cell
    have hpl := seconds_len pre
    have hne := ring_not_row hA hrow
    gi_wp2_with (gi_at_builtin; refine wpListIn_append_own _ rfl _ _ 25 rfl w.heap.size 3 i0 (.int .i64 0) 1 8 Try.underlying25 hi hz0 hz1 hz2 rfl (by decide) _ _ _ rfl (hrow.alloc _) ⟨W.heap.size, 0, none⟩ 1 1 [.int .i64 x2] rfl rfl (cell_one_new _ _ _) (by simp [Value.oneCell']) (by unfold maxLen; omega) (by omega) (by have := hB.size; simp; omega) ?_; intro v' w2 hown' hgrow _; obtain ⟨g', cap', rfl⟩ := ownsRow_succ hown'; obtain ⟨hv1, hv2, hr2, hk2, hb2⟩ := hv.appended (by decide) hrow hB.size hsz hown' hgrow; have hc1 := hv1.cell; have hf1 := hv1.frozen)
    have hA2 : RingIn (w1.heap.size + 1) ⟨[b0, b1, b2, b3, b4, b5, b6, b7], hd, nn⟩ w2 := (hgrow.block (w1.heap.size + 1) (by have := blk_lt hA; simp; omega) hne).trans (blk_alloc hA _)
    have hA3' := blk_set_other hA2 ⟨w1.heap.size, 0, none⟩ (by simp only; omega) (.slice (some ⟨g', 0, none⟩) ((seconds pre).length + 1) cap')
    (try simp only [hpl] at hA3')
    (try simp only [hpl] at hv2)
    (try simp only [hpl] at hr2)
    (try simp only [hpl] at hk2)
    (try simp only [hpl] at hb2)
    refine ⟨hk2.from _, fun o ho => ?_, ⟨⟨_, hv2, ?_⟩, hA3'⟩, Below.trans (show Below w.heap.size w W from hB) hb2⟩
    · rw [show W.heap[w1.heap.size + 1]? = _ from hA] at ho
      cases ho
      exact hA3'
    · rw [seconds_snoc]
      simpa [intsV, hpl] using hr2
  case done =>
    rintro D ys W hD rfl ⟨⟨⟨v, hv, hrow, _⟩, hA⟩, hB⟩ hK
    have hc := hv.cell
    gi_wp2
    refine ⟨by simp, .inl ⟨_, _, rfl, run_takeDeferred hK, ?_⟩⟩
    obtain ⟨A', c', h1', h2'⟩ := OwnInts.ints (ownsRow_putObj hrow (.deferred none) hK rfl)
    refine ⟨_, results_tmp rfl _ _ _, v, rfl, by rw [h1']; exact h2', Below.trans (show Below w.heap.size w W from hB) (belowK_b (w := w) (Nat.le_refl _) W D _ _ (by omega) hK rfl rfl)⟩
  case stop =>
    rintro D c pre W _ _ h _
    exact h.elim
theorem rlist_k (b0 b1 b2 b3 b4 b5 b6 b7 hd nn : Int) (l : List Int) (h : Ri.list ⟨[b0, b1, b2, b3, b4, b5, b6, b7], hd, nn⟩ = l) (w : World) :
    Calls Try.prog 14 #[.agg #[.int .i64 b0, .int .i64 b1, .int .i64 b2, .int .i64 b3, .int .i64 b4, .int .i64 b5, .int .i64 b6, .int .i64 b7, .int .i64 hd, .int .i64 nn]] w fun e w' => ∃ v, e = .returned v ∧ IntsAt w' v l ∧ Ext w w' := by
  subst h
  cases hm : Ri.may ⟨[b0, b1, b2, b3, b4, b5, b6, b7], hd, nn⟩ with
  | false =>
    refine (rlist_no b0 b1 b2 b3 b4 b5 b6 b7 hd nn hm w).mono ?_
    rintro e w' ⟨rfl, hx⟩
    refine ⟨_, rfl, ?_, hx⟩
    unfold Ri.list
    rw [hm]
    exact ⟨none, 0, rfl, fun h => by simp at h⟩
  | true =>
    have hi : Ri.inside ⟨[b0, b1, b2, b3, b4, b5, b6, b7], hd, nn⟩ = true := by have := hm; unfold Ri.may at this; rw [Bool.and_eq_true] at this; exact this.1
    obtain ⟨a, n, rfl, rfl, h1, h2⟩ := Ri.inside_nat hi
    rw [Ri.list_upto hm]
    exact rlist_in b0 b1 b2 b3 b4 b5 b6 b7 a n h1 h2 hm w

end Go.Proofs.Ytdpmogbibmgolaa
