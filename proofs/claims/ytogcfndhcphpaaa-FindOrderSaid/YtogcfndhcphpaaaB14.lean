/-
  Several texts in one: Ud, Uc, Uj, Uk.
-/
import Derived.Test.YtogcfndhcphpaaaB02
import Derived.Test.YtogcfndhcphpaaaB05
import Derived.Test.YtogcfndhcphpaaaB13
set_option linter.unusedVariables false
set_option linter.unusedSimpArgs false
namespace Go.Proofs.Ytogcfndhcphpaaa
open Go.RowKit
set_option maxRecDepth 100000 in
set_option maxHeartbeats 6000000 in
theorem rhalf_own_in (b0 b1 b2 b3 b4 b5 b6 b7 : Int) (hd nn : Nat) (hhd : hd < 8) (hnn : nn ≤ 8) (hm : Ri.may ⟨[b0, b1, b2, b3, b4, b5, b6, b7], hd, nn⟩ = true) (e0 e1 e2 e3 e4 e5 e6 e7 eh en : Int) (o : List Int) (h : Ri.takes ((nn + 1) / 2) ⟨[b0, b1, b2, b3, b4, b5, b6, b7], hd, nn⟩ [] = (⟨[e0, e1, e2, e3, e4, e5, e6, e7], eh, en⟩, o)) (w : World) :
    Calls Try.prog 69 #[.agg #[.int .i64 b0, .int .i64 b1, .int .i64 b2, .int .i64 b3, .int .i64 b4, .int .i64 b5, .int .i64 b6, .int .i64 b7, .int .i64 (hd : Int), .int .i64 (nn : Int)]] w fun e w' => ∃ A c, e = .returned (.tuple #[.agg #[.int .i64 e0, .int .i64 e1, .int .i64 e2, .int .i64 e3, .int .i64 e4, .int .i64 e5, .int .i64 e6, .int .i64 e7, .int .i64 eh, .int .i64 en], .slice A o.length c]) ∧ OwnInts w' w.heap.size (.slice A o.length c) o ∧ Ext w w' := by
  have HM := Lib.hid hm
  have H := Lib.hid h
  clear hm h
  have f1 : IntKind.i64.wrap ((nn : Int) + 1) = ((nn + 1 : Nat) : Int) := IntWalk.i64_in _ (by omega)
  have f2 : ((nn + 1 : Nat) : Int).tdiv 2 = (((nn + 1) / 2 : Nat) : Int) := by rw [Int.tdiv_eq_ediv_of_nonneg (by omega)]; omega
  have f3 : IntKind.i64.wrap (((nn + 1) / 2 : Nat) : Int) = (((nn + 1) / 2 : Nat) : Int) := IntWalk.i64_in _ (by omega)
  go_enter Try.func69, Try.ntmps69
  go_wp2_with fail
  refine (rmay_eq b0 b1 b2 b3 b4 b5 b6 b7 hd nn _ HM.out _).mono ?_
  rintro r w1 ⟨rfl, hx1⟩
  have HX := Lib.hid ((((Ext.refl w).alloc (.cells #[.int .i64 b0, .int .i64 b1, .int .i64 b2, .int .i64 b3, .int .i64 b4, .int .i64 b5, .int .i64 b6, .int .i64 b7, .int .i64 (hd : Int), .int .i64 (nn : Int)] 38)).alloc (.cells #[.int .i64 0, .int .i64 0, .int .i64 0, .int .i64 0, .int .i64 0, .int .i64 0, .int .i64 0, .int .i64 0, .int .i64 0, .int .i64 0] 38)).trans hx1)
  have HB := Lib.hid (hx1.blk (blk_alloc (blk_new w (.cells #[.int .i64 b0, .int .i64 b1, .int .i64 b2, .int .i64 b3, .int .i64 b4, .int .i64 b5, .int .i64 b6, .int .i64 b7, .int .i64 (hd : Int), .int .i64 (nn : Int)] 38)) (.cells #[.int .i64 0, .int .i64 0, .int .i64 0, .int .i64 0, .int .i64 0, .int .i64 0, .int .i64 0, .int .i64 0, .int .i64 0, .int .i64 0] 38)))
  have HZ : Hid (w1.heap[w.heap.size + 1]? = some (.cells #[.int .i64 0, .int .i64 0, .int .i64 0, .int .i64 0, .int .i64 0, .int .i64 0, .int .i64 0, .int .i64 0, .int .i64 0, .int .i64 0] 38 (0, 0))) := Lib.hid (hx1.blk (by have := blk_new (w.alloc (.cells #[.int .i64 b0, .int .i64 b1, .int .i64 b2, .int .i64 b3, .int .i64 b4, .int .i64 b5, .int .i64 b6, .int .i64 b7, .int .i64 (hd : Int), .int .i64 (nn : Int)] 38)) (.cells #[.int .i64 0, .int .i64 0, .int .i64 0, .int .i64 0, .int .i64 0, .int .i64 0, .int .i64 0, .int .i64 0, .int .i64 0, .int .i64 0] 38); rwa [World.size_alloc] at this))
  have hsz := hx1.size
  rw [World.size_alloc, World.size_alloc] at hsz
  have p9 := blk_cell HB.out 9 (.int .i64 (nn : Int)) rfl
  clear hx1
  generalize hK : (nn + 1) / 2 = K at *
  go_wp2
  clear p9 f1 f2 f3
  have hK4 : K ≤ 4 := by omega
  go_loopw [4, 16] (fun ov iv wr => ∃ (u : Value) (j : Nat) (c0 c1 c2 c3 c4 c5 c6 c7 ch cn : Int) (l : List Int), u = ov ∧ j ≤ K ∧ iv = .int .i64 j ∧ l.length = j ∧ Ri.takes K ⟨[b0, b1, b2, b3, b4, b5, b6, b7], hd, nn⟩ [] = Ri.takes (K - j) ⟨[c0, c1, c2, c3, c4, c5, c6, c7], ch, cn⟩ l ∧ OwnInts wr (w.heap.size + 2) u l ∧ wr.heap[(w.heap.size + 1)]? = some (.cells #[.int .i64 0, .int .i64 0, .int .i64 0, .int .i64 0, .int .i64 0, .int .i64 0, .int .i64 0, .int .i64 0, .int .i64 0, .int .i64 0] 38 (0, 0)) ∧ wr.heap[w.heap.size]? = some (.cells #[.int .i64 c0, .int .i64 c1, .int .i64 c2, .int .i64 c3, .int .i64 c4, .int .i64 c5, .int .i64 c6, .int .i64 c7, .int .i64 ch, .int .i64 cn] 38 (0, 0)) ∧ Ext w wr ∧ w.heap.size + 2 ≤ wr.heap.size) (fun _ iv _ => K - (intOf iv).toNat)
  case atStart => exact ⟨_, 0, b0, b1, b2, b3, b4, b5, b6, b7, hd, nn, [], rfl, by omega, rfl, rfl, rfl, OwnInts.nil _ _, HZ.out, HB.out, HX.out, hsz⟩
  case round =>
    obtain ⟨u, j, c0, c1, c2, c3, c4, c5, c6, c7, ch, cn, l, hu, hj, rfl, hll, hs, hown, hb1, hb0, hx, hsz⟩ := hrel
    subst hu
    have HS := Lib.hid hs
    have HOWN := Lib.hid hown
    have HLL := Lib.hid hll
    have HZB := Lib.hid hb1
    have HB0 := Lib.hid hb0
    have HX := Lib.hid hx
    obtain ⟨A0, a0, rfl⟩ := OwnInts.form HOWN.out
    clear hs hown hb0 hb1 hx hll
    by_cases hlt : j < K
    · obtain ⟨d0, d1, d2, d3, d4, d5, d6, d7, hds⟩ := list8 (Ri.pop_len (r := ⟨[c0, c1, c2, c3, c4, c5, c6, c7], ch, cn⟩) rfl)
      rcases hp : Ri.pop ⟨[c0, c1, c2, c3, c4, c5, c6, c7], ch, cn⟩ with ⟨⟨ds, dh, dn⟩, x, k⟩
      rw [hp] at hds
      simp only at hds
      subst hds
      have HP := Lib.hid hp
      have hofs := HS.out
      rw [show K - j = (K - (j + 1)) + 1 by omega] at hofs
      simp only [Ri.takes, hp] at hofs
      have HO := Lib.hid hofs
      clear hp hofs HS
      obtain ⟨⟨q0, q1, q2, q3, q4⟩, q5, q6, q7, q8, q9⟩ := cells10 HB0.out
      go_wp2_with fail
      refine (rpop_k c0 c1 c2 c3 c4 c5 c6 c7 ch cn d0 d1 d2 d3 d4 d5 d6 d7 dh dn x k HP.out _).mono ?_
      rintro r wq ⟨rfl, hx5⟩
      clear q0 q1 q2 q3 q4 q5 q6 q7 q8 q9
      have hsz5 := hx5.size
      have HX5 : Hid (Ext w (wq.alloc (.cells #[.int .i64 d0, .int .i64 d1, .int .i64 d2, .int .i64 d3, .int .i64 d4, .int .i64 d5, .int .i64 d6, .int .i64 d7, .int .i64 dh, .int .i64 dn] 38))) := Lib.hid ((HX.out.trans hx5).alloc _)
      have HZ5 : Hid ((wq.alloc (.cells #[.int .i64 d0, .int .i64 d1, .int .i64 d2, .int .i64 d3, .int .i64 d4, .int .i64 d5, .int .i64 d6, .int .i64 d7, .int .i64 dh, .int .i64 dn] 38)).heap[(w.heap.size + 1)]? = some (.cells #[.int .i64 0, .int .i64 0, .int .i64 0, .int .i64 0, .int .i64 0, .int .i64 0, .int .i64 0, .int .i64 0, .int .i64 0, .int .i64 0] 38 (0, 0))) := Lib.hid (blk_alloc (hx5.blk HZB.out) _)
      have HB5 : Hid ((wq.alloc (.cells #[.int .i64 d0, .int .i64 d1, .int .i64 d2, .int .i64 d3, .int .i64 d4, .int .i64 d5, .int .i64 d6, .int .i64 d7, .int .i64 dh, .int .i64 dn] 38)).heap[w.heap.size]? = some (.cells #[.int .i64 c0, .int .i64 c1, .int .i64 c2, .int .i64 c3, .int .i64 c4, .int .i64 c5, .int .i64 c6, .int .i64 c7, .int .i64 ch, .int .i64 cn] 38 (0, 0))) := Lib.hid (blk_alloc (hx5.blk HB0.out) _)
      have HN5 : Hid ((wq.alloc (.cells #[.int .i64 d0, .int .i64 d1, .int .i64 d2, .int .i64 d3, .int .i64 d4, .int .i64 d5, .int .i64 d6, .int .i64 d7, .int .i64 dh, .int .i64 dn] 38)).heap[wq.heap.size]? = some (.cells #[.int .i64 d0, .int .i64 d1, .int .i64 d2, .int .i64 d3, .int .i64 d4, .int .i64 d5, .int .i64 d6, .int .i64 d7, .int .i64 dh, .int .i64 dn] 38 (0, 0))) := Lib.hid (blk_new _ _)
      have HO5 : Hid (OwnInts (wq.alloc (.cells #[.int .i64 d0, .int .i64 d1, .int .i64 d2, .int .i64 d3, .int .i64 d4, .int .i64 d5, .int .i64 d6, .int .i64 d7, .int .i64 dh, .int .i64 dn] 38)) (w.heap.size + 2) (.slice A0 l.length a0) l) := Lib.hid ((HOWN.out.ext hx5).alloc _)
      have hs5 : w.heap.size + 2 ≤ (wq.alloc (.cells #[.int .i64 d0, .int .i64 d1, .int .i64 d2, .int .i64 d3, .int .i64 d4, .int .i64 d5, .int .i64 d6, .int .i64 d7, .int .i64 dh, .int .i64 dn] 38)).heap.size := by rw [World.size_alloc]; omega
      clear hx5 HZB HB0 HX HOWN hsz5
      generalize hw5 : wq.alloc (.cells #[.int .i64 d0, .int .i64 d1, .int .i64 d2, .int .i64 d3, .int .i64 d4, .int .i64 d5, .int .i64 d6, .int .i64 d7, .int .i64 dh, .int .i64 dn] 38) = w5 at *
      have HU := Lib.hid (upd10 w.heap.size w5 (.int .i64 d0) (.int .i64 d1) (.int .i64 d2) (.int .i64 d3) (.int .i64 d4) (.int .i64 d5) (.int .i64 d6) (.int .i64 d7) (.int .i64 dh) (.int .i64 dn))
      have HB7 := Lib.hid (set10_at HB5.out (.int .i64 d0) (.int .i64 d1) (.int .i64 d2) (.int .i64 d3) (.int .i64 d4) (.int .i64 d5) (.int .i64 d6) (.int .i64 d7) (.int .i64 dh) (.int .i64 dn))
      have HX7 := Lib.hid (set10_ext HX5.out (Nat.le_refl _) (.int .i64 d0) (.int .i64 d1) (.int .i64 d2) (.int .i64 d3) (.int .i64 d4) (.int .i64 d5) (.int .i64 d6) (.int .i64 d7) (.int .i64 dh) (.int .i64 dn))
      have HZB := HB5
      obtain ⟨⟨z0, z1, z2, z3, z4⟩, z5, z6, z7, z8, z9⟩ := cells10 HZB.out
      obtain ⟨⟨y0, y1, y2, y3, y4⟩, y5, y6, y7, y8, y9⟩ := frozen10 HZB.out
      obtain ⟨⟨q0, q1, q2, q3, q4⟩, q5, q6, q7, q8, q9⟩ := cells10 HN5.out
      go_upto_region 8 with fail
      generalize hw7 : ((((((((((w5.setCell ⟨w.heap.size, 0, none⟩ (.int .i64 d0)).setCell ⟨w.heap.size, 1, none⟩ (.int .i64 d1)).setCell ⟨w.heap.size, 2, none⟩ (.int .i64 d2)).setCell ⟨w.heap.size, 3, none⟩ (.int .i64 d3)).setCell ⟨w.heap.size, 4, none⟩ (.int .i64 d4)).setCell ⟨w.heap.size, 5, none⟩ (.int .i64 d5)).setCell ⟨w.heap.size, 6, none⟩ (.int .i64 d6)).setCell ⟨w.heap.size, 7, none⟩ (.int .i64 d7)).setCell ⟨w.heap.size, 8, none⟩ (.int .i64 dh)).setCell ⟨w.heap.size, 9, none⟩ (.int .i64 dn)) = w7 at *
      have HZ7 : Hid (w7.heap[(w.heap.size + 1)]? = some (.cells #[.int .i64 0, .int .i64 0, .int .i64 0, .int .i64 0, .int .i64 0, .int .i64 0, .int .i64 0, .int .i64 0, .int .i64 0, .int .i64 0] 38 (0, 0))) := Lib.hid (HU.out.blk HZ5.out (by omega))
      have HO7 : Hid (OwnInts w7 (w.heap.size + 2) (.slice A0 l.length a0) l) := Lib.hid (OwnInts.kept HO5.out HU.out (by omega))
      have hs7 := HU.out.sz
      clear z0 z1 z2 z3 z4 z5 z6 z7 z8 z9 y0 y1 y2 y3 y4 y5 y6 y7 y8 y9
      clear q0 q1 q2 q3 q4 q5 q6 q7 q8 q9
      clear hw7 hw5 HZB HB5 HZ5 HN5 HO5 HX5
      obtain ⟨u, w8, hr8, ho8, hg8⟩ := OwnInts.appendS 27 (OwnInts.alloc HO7.out (.cells #[.int .i64 x] 3)) (m := [x]) (ints_one w7 x) (by have := HLL.out; simp; omega) (by simp; omega)
      simp only [List.length_singleton] at hr8
      have HR8 := Lib.hid hr8
      have hub : ∀ k, (Value.slice A0 l.length a0).ownBlock = some k → w.heap.size + 2 ≤ k := fun k hk => (World.ownsRow.lt HO7.out k hk).1
      have hX8 := Below.grown (HX7.out.alloc (.cells #[.int .i64 x] 3)) hg8 (by rw [World.size_alloc]; omega) (fun k hk => by have := hub k hk; omega)
      have hz8 : w8.heap[(w.heap.size + 1)]? = some (.cells #[.int .i64 0, .int .i64 0, .int .i64 0, .int .i64 0, .int .i64 0, .int .i64 0, .int .i64 0, .int .i64 0, .int .i64 0, .int .i64 0] 38 (0, 0)) := (hg8.block (w.heap.size + 1) (by rw [World.size_alloc]; omega) (fun hk => by have := hub _ hk.symm; omega)).trans (blk_alloc HZ7.out _)
      have hb8 : w8.heap[w.heap.size]? = some (.cells #[.int .i64 d0, .int .i64 d1, .int .i64 d2, .int .i64 d3, .int .i64 d4, .int .i64 d5, .int .i64 d6, .int .i64 d7, .int .i64 dh, .int .i64 dn] 38 (0, 0)) := (hg8.block w.heap.size (by rw [World.size_alloc]; omega) (fun hk => by have := hub _ hk.symm; omega)).trans (blk_alloc HB7.out _)
      have hs8 := hg8.size
      rw [World.size_alloc] at hs8
      have HEND : Hid (OwnInts w8 (w.heap.size + 2) u (l ++ [x]) ∧ w8.heap[(w.heap.size + 1)]? = some (.cells #[.int .i64 0, .int .i64 0, .int .i64 0, .int .i64 0, .int .i64 0, .int .i64 0, .int .i64 0, .int .i64 0, .int .i64 0, .int .i64 0] 38 (0, 0)) ∧ w8.heap[w.heap.size]? = some (.cells #[.int .i64 d0, .int .i64 d1, .int .i64 d2, .int .i64 d3, .int .i64 d4, .int .i64 d5, .int .i64 d6, .int .i64 d7, .int .i64 dh, .int .i64 dn] 38 (0, 0)) ∧ Ext w w8 ∧ w.heap.size + 2 ≤ w8.heap.size) := Lib.hid ⟨ho8, hz8, hb8, hX8, by omega⟩
      clear hr8 ho8 hg8 hub hX8 hz8 hb8 HU HB7 HX7 HZ7
      go_wp2_with (at_builtin; refine wpList_append_run rfl _ _ 27 rfl _ _ rfl rfl HR8.out ?_)
      go_roundw
      case rel => exact ⟨u, j + 1, d0, d1, d2, d3, d4, d5, d6, d7, dh, dn, l ++ [x], rfl, by omega, by go_num, by simp [HLL.out], HO.out, HEND.out⟩
      case measure => simp [intOf]; omega
    · obtain rfl : j = K := by omega
      have hofs := H.out.symm.trans HS.out
      rw [Nat.sub_self] at hofs
      simp only [Ri.takes, Prod.mk.injEq, Ri.mk.injEq, List.cons.injEq, and_true] at hofs
      obtain ⟨⟨⟨rfl, rfl, rfl, rfl, rfl, rfl, rfl, rfl⟩, rfl, rfl⟩, rfl⟩ := hofs
      obtain ⟨⟨z0, z1, z2, z3, z4⟩, z5, z6, z7, z8, z9⟩ := cells10 HZB.out
      obtain ⟨⟨y0, y1, y2, y3, y4⟩, y5, y6, y7, y8, y9⟩ := frozen10 HZB.out
      obtain ⟨⟨q0, q1, q2, q3, q4⟩, q5, q6, q7, q8, q9⟩ := cells10 HB0.out
      go_wp2
      have hzz := set10_at HZB.out (.int .i64 e0) (.int .i64 e1) (.int .i64 e2) (.int .i64 e3) (.int .i64 e4) (.int .i64 e5) (.int .i64 e6) (.int .i64 e7) (.int .i64 eh) (.int .i64 en)
      have HO9 := OwnInts.kept HOWN.out (upd10 (w.heap.size + 1) wr (.int .i64 e0) (.int .i64 e1) (.int .i64 e2) (.int .i64 e3) (.int .i64 e4) (.int .i64 e5) (.int .i64 e6) (.int .i64 e7) (.int .i64 eh) (.int .i64 en)) (by omega)
      clear z0 z1 z2 z3 z4 z5 z6 z7 z8 z9 y0 y1 y2 y3 y4 y5 y6 y7 y8 y9
      clear q0 q1 q2 q3 q4 q5 q6 q7 q8 q9
      obtain ⟨⟨t0, t1, t2, t3, t4⟩, t5, t6, t7, t8, t9⟩ := cells10 hzz
      refine bodyPost_ret (v := .tuple #[.agg #[.int .i64 e0, .int .i64 e1, .int .i64 e2, .int .i64 e3, .int .i64 e4, .int .i64 e5, .int .i64 e6, .int .i64 e7, .int .i64 eh, .int .i64 en], .slice A0 o.length a0]) (by simp [results, Try.results69, go_sem, t0, t1, t2, t3, t4, t5, t6, t7, t8, t9]) rfl ⟨_, _, rfl, ?_, ?_⟩
      · exact OwnInts.lower HO9 (by omega)
      · exact set10_ext HX.out (by omega) _ _ _ _ _ _ _ _ _ _
theorem rhalf_own (b0 b1 b2 b3 b4 b5 b6 b7 hd nn : Int) (e0 e1 e2 e3 e4 e5 e6 e7 eh en : Int) (o : List Int) (h : Ri.half ⟨[b0, b1, b2, b3, b4, b5, b6, b7], hd, nn⟩ = (⟨[e0, e1, e2, e3, e4, e5, e6, e7], eh, en⟩, o)) (w : World) :
    Calls Try.prog 69 #[.agg #[.int .i64 b0, .int .i64 b1, .int .i64 b2, .int .i64 b3, .int .i64 b4, .int .i64 b5, .int .i64 b6, .int .i64 b7, .int .i64 hd, .int .i64 nn]] w fun e w' => ∃ A c, e = .returned (.tuple #[.agg #[.int .i64 e0, .int .i64 e1, .int .i64 e2, .int .i64 e3, .int .i64 e4, .int .i64 e5, .int .i64 e6, .int .i64 e7, .int .i64 eh, .int .i64 en], .slice A o.length c]) ∧ OwnInts w' w.heap.size (.slice A o.length c) o ∧ Ext w w' := by
  unfold Ri.half at h
  split at h
  · rename_i hm
    have hi : Ri.inside ⟨[b0, b1, b2, b3, b4, b5, b6, b7], hd, nn⟩ = true := by have := hm; unfold Ri.may at this; rw [Bool.and_eq_true] at this; exact this.1
    obtain ⟨a, n, rfl, rfl, h1, h2⟩ := Ri.inside_nat hi
    exact rhalf_own_in b0 b1 b2 b3 b4 b5 b6 b7 a n h1 h2 hm e0 e1 e2 e3 e4 e5 e6 e7 eh en o h w
  · rename_i hm
    simp only [Prod.mk.injEq, Ri.zero, Ri.mk.injEq, List.cons.injEq, and_true] at h
    obtain ⟨⟨⟨rfl, rfl, rfl, rfl, rfl, rfl, rfl, rfl⟩, rfl, rfl⟩, rfl⟩ := h
    refine (rhalf_no b0 b1 b2 b3 b4 b5 b6 b7 hd nn (by simpa using hm) w).mono ?_
    rintro e w' ⟨rfl, hx⟩
    exact ⟨none, 0, rfl, OwnInts.nil _ _, hx⟩
theorem Ri.takes_olen : ∀ (k : Nat) (r : Ri) (o : List Int), (Ri.takes k r o).2.length = o.length + k
  | 0, r, o => rfl
  | k + 1, r, o => by
    unfold Ri.takes
    rw [Ri.takes_olen k, List.length_append, List.length_singleton]
    omega
theorem Ri.half_olen {r : Ri} (h : r.may = true) : r.half.2.length ≤ 8 := by
  unfold Ri.half
  rw [if_pos h, Ri.takes_olen]
  have hi : r.inside = true := by unfold Ri.may at h; rw [Bool.and_eq_true] at h; exact h.1
  have := (Ri.inside_iff r).1 hi
  simp only [List.length_nil]
  omega
theorem Ri.takes_len : ∀ (k : Nat) (r : Ri) (o : List Int), r.buf.length = 8 → (Ri.takes k r o).1.buf.length = 8
  | 0, r, o, h => h
  | k + 1, r, o, h => by
    unfold Ri.takes
    exact Ri.takes_len k _ _ (Ri.pop_len h)
theorem Ri.half_len {r : Ri} (h : r.buf.length = 8) : r.half.1.buf.length = 8 := by
  unfold Ri.half
  split
  · exact Ri.takes_len _ _ _ h
  · rfl
def rL (r : Ri) : List Value := r.buf.map (Value.int .i64) ++ [.int .i64 r.head, .int .i64 r.n]
theorem rL_len {r : Ri} (h : r.buf.length = 8) : (rL r).length = 10 := by simp [rL, h]
theorem rL_one (r : Ri) : ∀ u ∈ rL r, u.oneCell' = true := by
  intro u hu
  simp only [rL, List.mem_append, List.mem_map, List.mem_cons, List.not_mem_nil, or_false] at hu
  rcases hu with ⟨x, _, rfl⟩ | rfl | rfl <;> rfl
theorem pL_ring {x : Pr} {r : Ri} (hb : x.ring.buf.length = 8) (hr : r.buf.length = 8) : ∀ t, t < 13 → (pL { x with ring := r })[t]? = if 2 ≤ t ∧ t < 2 + (rL r).length then (rL r)[t - 2]? else (pL x)[t]? := by
  obtain ⟨m, nx, r0, sq⟩ := x
  obtain ⟨b0, b1, b2, b3, b4, b5, b6, b7, hd, nn, rfl⟩ := Ri.open8 hb
  obtain ⟨c0, c1, c2, c3, c4, c5, c6, c7, hd', nn', rfl⟩ := Ri.open8 hr
  intro t ht
  obtain rfl | rfl | rfl | rfl | rfl | rfl | rfl | rfl | rfl | rfl | rfl | rfl | rfl : t = 0 ∨ t = 1 ∨ t = 2 ∨ t = 3 ∨ t = 4 ∨ t = 5 ∨ t = 6 ∨ t = 7 ∨ t = 8 ∨ t = 9 ∨ t = 10 ∨ t = 11 ∨ t = 12 := by omega
  all_goals rfl
theorem range_ring {v : World} {g o : Nat} {m nx sq : Int} {b0 b1 b2 b3 b4 b5 b6 b7 hd nn : Int} (h : v.rangeAt g o (pL ⟨m, nx, ⟨[b0, b1, b2, b3, b4, b5, b6, b7], hd, nn⟩, sq⟩)) : v.rangeAt g (o + 2) (rL ⟨[b0, b1, b2, b3, b4, b5, b6, b7], hd, nn⟩) := fun j u hu => by
  rw [Nat.add_assoc]
  have hj := (List.getElem?_eq_some_iff.1 hu).1
  have hj10 : j < 10 := hj
  refine h (2 + j) u ?_
  obtain rfl | rfl | rfl | rfl | rfl | rfl | rfl | rfl | rfl | rfl : j = 0 ∨ j = 1 ∨ j = 2 ∨ j = 3 ∨ j = 4 ∨ j = 5 ∨ j = 6 ∨ j = 7 ∨ j = 8 ∨ j = 9 := by omega
  all_goals exact hu
theorem ring_box (v : World) {r : Ri} (hr : r.buf.length = 8) : ∃ va vb, v.alloc (.cells #[.int .i64 0, .int .i64 0, .int .i64 0, .int .i64 0, .int .i64 0, .int .i64 0, .int .i64 0, .int .i64 0, .int .i64 0, .int .i64 0] 38) = va ∧ va.setCells v.heap.size 0 (rL r) = vb ∧ va.there v.heap.size 0 (rL r).length ∧ vb.heap[v.heap.size]? = some (.cells (rL r).toArray 38 (0, 0)) ∧ Ext v vb := by
  have hb := blk_new v (.cells #[.int .i64 0, .int .i64 0, .int .i64 0, .int .i64 0, .int .i64 0, .int .i64 0, .int .i64 0, .int .i64 0, .int .i64 0, .int .i64 0] 38)
  refine ⟨_, _, rfl, rfl, there_row hb (by rw [rL_len hr]; exact Nat.le_refl 10), setCells_at [.int .i64 0, .int .i64 0, .int .i64 0, .int .i64 0, .int .i64 0, .int .i64 0, .int .i64 0, .int .i64 0, .int .i64 0, .int .i64 0] (rL r) (by rw [rL_len hr]; rfl) hb, Ext.upd (a := v) ((Ext.refl v).alloc _) (setCells_upd _ _ _ _) (Nat.le_refl _)⟩
set_option maxRecDepth 100000 in
set_option maxHeartbeats 16000000 in
theorem rdTail_any (h : StH) (s : St) (p g : Int) (w : World) (hk : StOk w h s) (hf : StFew s) : Calls Try.prog 25 #[stV h s, .int .i64 p, .int .i64 g] w fun e w' => ∃ h' I, e = .returned (stV h' (s.tail p g)) ∧ StApart w.heap.size w' I h' (s.tail p g) ∧ Ext w w' := by
  have HF := Lib.hid hf
  have HK := Lib.hid hk
  obtain ⟨W0, hW0⟩ : ∃ W0, w.heap.size = W0 := ⟨_, rfl⟩
  obtain ⟨R, hR⟩ : ∃ R, W0 + 1 = R := ⟨_, rfl⟩
  obtain ⟨w2, hw2⟩ : ∃ w2, (w.alloc (.cells #[.slice h.pa s.prog.length h.pc, .slice h.ga s.gs.length h.gc, .slice h.qa s.ps.length h.qc, .slice h.ma s.ms.length h.mc, .slice h.la s.glob.length h.lc, .int .i64 s.c0, .int .i64 s.c1, .int .i64 s.c2, .int .i64 s.c3, .slice h.a0 s.w0.length h.k0, .slice h.a1 s.w1.length h.k1, .slice h.a2 s.w2.length h.k2, .slice h.a3 s.w3.length h.k3, .slice h.ta s.timers.length h.tc, .int .i64 s.clock, .int .i64 s.procs] 32)).alloc (.cells #[.slice none 0 0, .slice none 0 0, .slice none 0 0, .slice none 0 0, .slice none 0 0, .int .i64 0, .int .i64 0, .int .i64 0, .int .i64 0, .slice none 0 0, .slice none 0 0, .slice none 0 0, .slice none 0 0, .slice none 0 0, .int .i64 0, .int .i64 0] 32) = w2 := ⟨_, rfl⟩
  have HX1 : Hid (Ext w w2) := Lib.hid (by rw [← hw2]; exact ((Ext.refl w).alloc _).alloc _)
  have HB1 : Hid (w2.heap[W0]? = some (.cells (stC h s) 32 (0, 0))) := Lib.hid (by rw [← hw2, ← hW0]; exact blk_alloc (blk_new w _) _)
  have HR1 : Hid (w2.heap[R]? = some (.cells #[.slice none 0 0, .slice none 0 0, .slice none 0 0, .slice none 0 0, .slice none 0 0, .int .i64 0, .int .i64 0, .int .i64 0, .int .i64 0, .slice none 0 0, .slice none 0 0, .slice none 0 0, .slice none 0 0, .slice none 0 0, .int .i64 0, .int .i64 0] 32 (0, 0))) := Lib.hid (by
    have := blk_new (w.alloc (.cells #[.slice h.pa s.prog.length h.pc, .slice h.ga s.gs.length h.gc, .slice h.qa s.ps.length h.qc, .slice h.ma s.ms.length h.mc, .slice h.la s.glob.length h.lc, .int .i64 s.c0, .int .i64 s.c1, .int .i64 s.c2, .int .i64 s.c3, .slice h.a0 s.w0.length h.k0, .slice h.a1 s.w1.length h.k1, .slice h.a2 s.w2.length h.k2, .slice h.a3 s.w3.length h.k3, .slice h.ta s.timers.length h.tc, .int .i64 s.clock, .int .i64 s.procs] 32)) (.cells #[.slice none 0 0, .slice none 0 0, .slice none 0 0, .slice none 0 0, .slice none 0 0, .int .i64 0, .int .i64 0, .int .i64 0, .int .i64 0, .slice none 0 0, .slice none 0 0, .slice none 0 0, .slice none 0 0, .slice none 0 0, .int .i64 0, .int .i64 0] 32)
    rw [hw2, World.size_alloc, hW0, hR] at this
    exact this)
  have HRR := Lib.hid hR
  have HW0 := Lib.hid hW0
  have HW2 := Lib.hid hw2
  have HK1 := Lib.hid (hk.ext HX1.out)
  clear hk hf hw2 hW0 hR
  obtain ⟨PQ, hPQ⟩ : ∃ PQ : Ending → World → Prop, PQ = fun e w' => ∃ h' I, e = .returned (stV h' (s.tail p g)) ∧ StApart w.heap.size w' I h' (s.tail p g) ∧ Ext w w' := ⟨_, rfl⟩
  rw [← hPQ]
  have HPQ := Lib.hid hPQ
  clear hPQ
  unfold stV
  go_enter Try.func25, Try.ntmps25
  go_upto_region 1 with fail
  rw [HW2.out, HW0.out, HRR.out]
  generalize Value.agg #[.slice h.pa s.prog.length h.pc, .slice h.ga s.gs.length h.gc, .slice h.qa s.ps.length h.qc, .slice h.ma s.ms.length h.mc, .slice h.la s.glob.length h.lc, .int .i64 s.c0, .int .i64 s.c1, .int .i64 s.c2, .int .i64 s.c3, .slice h.a0 s.w0.length h.k0, .slice h.a1 s.w1.length h.k1, .slice h.a2 s.w2.length h.k2, .slice h.a3 s.w3.length h.k3, .slice h.ta s.timers.length h.tc, .int .i64 s.clock, .int .i64 s.procs] = sv0
  go_wp2_with (refine wpList_load_rowW (by rfl) 32 _ rfl W0 (by go_simp) (stL h s) (stV h s) rfl _ (range_row HB1.out) Try.underlying32 rfl (by kernel_rfl) ?_)
  refine (sCopy_any h s _ HK1.out HF.out).mono ?_
  rintro e w3 ⟨h1, L, rfl, ho, hL, hx⟩
  obtain ⟨w4, hw4⟩ : ∃ w4, w3.setCells W0 0 (stL h1 s) = w4 := ⟨_, rfl⟩
  have hst := Sit.start (w := w) rfl HX1.out HB1.out HR1.out hx (ho.apart hL) (by have := HRR.out; omega) (by have := HW0.out; omega) (by have := HW0.out; have := HRR.out; omega)
  rw [hw4] at hst
  have HTH := Lib.hid hst.1
  have S4 := Lib.hid hst.2
  have HW4 := Lib.hid hw4
  clear ho hL hx hst hw4
  go_upto_region 2 with (refine wpList_store_row rfl 32 _ _ rfl W0 (stL h1 s) (stV h1 s) (by go_simp) (by go_simp) rfl HTH.out (by kernel_rfl) (stL_one _ _) HW4.out ?_)
  have q2 := st2 S4.out.box
  by_cases a1 : p < 1
  · have HE : Hid (s.tail p g = s) := Lib.hid (St.tail_no (by omega))
    go_upto_if 37 with fail
    obtain ⟨wf, hwf⟩ : ∃ wf, w4.setCells R 0 (stL h1 s) = wf := ⟨_, rfl⟩
    have HWF := Lib.hid hwf
    have hfi := S4.out.fin
    rw [hwf] at hfi
    have HFI := Lib.hid hfi
    have HTR := Lib.hid (S4.out.there (h' := h1) (s' := s))
    clear hwf hfi
    go_wp2_with (first | (refine wpList_load_rowW (by rfl) 32 _ rfl W0 (by go_simp) (stL h1 s) (stV h1 s) rfl _ (range_row S4.out.box) Try.underlying32 rfl (by kernel_rfl) ?_) | (refine wpList_store_row rfl 32 _ _ rfl R (stL h1 s) (stV h1 s) (by go_simp) (by go_simp) rfl HTR.out (by kernel_rfl) (stL_one _ _) HWF.out ?_))
    refine bodyPost_ret (v := .agg (stL h1 s).toArray) (results_cell_row rfl _ _ R _ _ _ _ rfl HFI.out.1 Try.underlying32 rfl (by kernel_rfl)) rfl ?_
    obtain ⟨I, hI⟩ := HFI.out.2.1
    rw [HPQ.out, HE.out]
    exact ⟨h1, I, rfl, hI, HFI.out.2.2⟩
  by_cases a2 : (s.ps.length : Int) < p
  · have HE : Hid (s.tail p g = s) := Lib.hid (St.tail_no (by omega))
    go_upto_if 37 with fail
    obtain ⟨wf, hwf⟩ : ∃ wf, w4.setCells R 0 (stL h1 s) = wf := ⟨_, rfl⟩
    have HWF := Lib.hid hwf
    have hfi := S4.out.fin
    rw [hwf] at hfi
    have HFI := Lib.hid hfi
    have HTR := Lib.hid (S4.out.there (h' := h1) (s' := s))
    clear hwf hfi
    go_wp2_with (first | (refine wpList_load_rowW (by rfl) 32 _ rfl W0 (by go_simp) (stL h1 s) (stV h1 s) rfl _ (range_row S4.out.box) Try.underlying32 rfl (by kernel_rfl) ?_) | (refine wpList_store_row rfl 32 _ _ rfl R (stL h1 s) (stV h1 s) (by go_simp) (by go_simp) rfl HTR.out (by kernel_rfl) (stL_one _ _) HWF.out ?_))
    refine bodyPost_ret (v := .agg (stL h1 s).toArray) (results_cell_row rfl _ _ R _ _ _ _ rfl HFI.out.1 Try.underlying32 rfl (by kernel_rfl)) rfl ?_
    obtain ⟨I, hI⟩ := HFI.out.2.1
    rw [HPQ.out, HE.out]
    exact ⟨h1, I, rfl, hI, HFI.out.2.2⟩
  by_cases a3 : g < 1
  · have HE : Hid (s.tail p g = s) := Lib.hid (St.tail_no (by omega))
    go_upto_if 37 with fail
    obtain ⟨wf, hwf⟩ : ∃ wf, w4.setCells R 0 (stL h1 s) = wf := ⟨_, rfl⟩
    have HWF := Lib.hid hwf
    have hfi := S4.out.fin
    rw [hwf] at hfi
    have HFI := Lib.hid hfi
    have HTR := Lib.hid (S4.out.there (h' := h1) (s' := s))
    clear hwf hfi
    go_wp2_with (first | (refine wpList_load_rowW (by rfl) 32 _ rfl W0 (by go_simp) (stL h1 s) (stV h1 s) rfl _ (range_row S4.out.box) Try.underlying32 rfl (by kernel_rfl) ?_) | (refine wpList_store_row rfl 32 _ _ rfl R (stL h1 s) (stV h1 s) (by go_simp) (by go_simp) rfl HTR.out (by kernel_rfl) (stL_one _ _) HWF.out ?_))
    refine bodyPost_ret (v := .agg (stL h1 s).toArray) (results_cell_row rfl _ _ R _ _ _ _ rfl HFI.out.1 Try.underlying32 rfl (by kernel_rfl)) rfl ?_
    obtain ⟨I, hI⟩ := HFI.out.2.1
    rw [HPQ.out, HE.out]
    exact ⟨h1, I, rfl, hI, HFI.out.2.2⟩
  obtain ⟨i, rfl⟩ : ∃ i : Nat, p = (i : Int) + 1 := ⟨(p - 1).toNat, by omega⟩
  obtain ⟨x, hp⟩ : ∃ x, s.ps[i]? = some x := ⟨_, List.getElem?_eq_getElem (by omega)⟩
  have hb8 := HK.out.buf _ (List.mem_of_getElem? hp)
  obtain ⟨m, nx, r, sq⟩ := x
  obtain ⟨b0, b1, b2, b3, b4, b5, b6, b7, hd, nn, rfl⟩ := Ri.open8 hb8
  have HG1 : Hid (1 ≤ g) := Lib.hid (by omega)
  have HP := Lib.hid hp
  have HB8 := Lib.hid hb8
  clear hb8 hp q2
  have e1 : (i : Int) + 1 - 1 = (i : Int) := by omega
  have e4 : (i : Int) < (s.ps.length : Int) := by omega
  have e5 : (i : Int) < 100000 := by have := HF.out.ps; omega
  obtain ⟨bq, hqa, hqb, hrg⟩ := S4.out.getP HP.out
  have q2 : w4.cell? ⟨W0, 2, none⟩ = some (.slice (some ⟨bq, 0, none⟩) s.ps.length h1.qc) := by rw [← hqa]; exact st2 S4.out.box
  have HQA := Lib.hid hqa
  have HRG := Lib.hid (range_ring hrg)
  obtain ⟨rv, hrv⟩ : ∃ rv, Value.agg #[.int .i64 b0, .int .i64 b1, .int .i64 b2, .int .i64 b3, .int .i64 b4, .int .i64 b5, .int .i64 b6, .int .i64 b7, .int .i64 hd, .int .i64 nn] = rv := ⟨_, rfl⟩
  have HRV := Lib.hid hrv
  clear hqa hrg hrv
  go_wp2_with (refine wpList_load_rowM (by rfl) 38 _ rfl bq (i * 13 + 2) (by go_simp) (rL ⟨[b0, b1, b2, b3, b4, b5, b6, b7], hd, nn⟩) rv HRV.out.symm _ HRG.out Try.underlying38 rfl (by kernel_rfl) ?_)
  rw [← HRV.out]
  refine (rmay_eq b0 b1 b2 b3 b4 b5 b6 b7 hd nn _ rfl _).mono ?_
  rintro e w5 ⟨rfl, hx5⟩
  have S5 := Lib.hid (S4.out.more hx5)
  clear hx5 q2
  cases bm : Ri.may ⟨[b0, b1, b2, b3, b4, b5, b6, b7], hd, nn⟩ with
  | false =>
    have HE : Hid (s.tail ((i : Int) + 1) g = s) := Lib.hid (St.tail_no (by rw [St.pAt_of HP.out]; simp [bm]))
    go_upto_if 37 with fail
    obtain ⟨wf, hwf⟩ : ∃ wf, w5.setCells R 0 (stL h1 s) = wf := ⟨_, rfl⟩
    have HWF := Lib.hid hwf
    have hfi := S5.out.fin
    rw [hwf] at hfi
    have HFI := Lib.hid hfi
    have HTR := Lib.hid (S5.out.there (h' := h1) (s' := s))
    clear hwf hfi
    go_wp2_with (first | (refine wpList_load_rowW (by rfl) 32 _ rfl W0 (by go_simp) (stL h1 s) (stV h1 s) rfl _ (range_row S5.out.box) Try.underlying32 rfl (by kernel_rfl) ?_) | (refine wpList_store_row rfl 32 _ _ rfl R (stL h1 s) (stV h1 s) (by go_simp) (by go_simp) rfl HTR.out (by kernel_rfl) (stL_one _ _) HWF.out ?_))
    refine bodyPost_ret (v := .agg (stL h1 s).toArray) (results_cell_row rfl _ _ R _ _ _ _ rfl HFI.out.1 Try.underlying32 rfl (by kernel_rfl)) rfl ?_
    obtain ⟨I, hI⟩ := HFI.out.2.1
    rw [HPQ.out, HE.out]
    exact ⟨h1, I, rfl, hI, HFI.out.2.2⟩
  | true =>
  have HBM := Lib.hid bm
  clear bm
  have q2 : w5.cell? ⟨W0, 2, none⟩ = some (.slice (some ⟨bq, 0, none⟩) s.ps.length h1.qc) := by rw [← HQA.out]; exact st2 S5.out.box
  have HRG5 := Lib.hid (range_ring (S5.out.getP' HP.out HQA.out))
  go_upto_if 37 with fail
  go_wp2_with (refine wpList_load_rowM (by rfl) 38 _ rfl bq (i * 13 + 2) (by go_simp) (rL ⟨[b0, b1, b2, b3, b4, b5, b6, b7], hd, nn⟩) rv HRV.out.symm _ HRG5.out Try.underlying38 rfl (by kernel_rfl) ?_)
  obtain ⟨⟨r1, ok⟩, hpush⟩ : ∃ q, Ri.push ⟨[b0, b1, b2, b3, b4, b5, b6, b7], hd, nn⟩ g = q := ⟨_, rfl⟩
  have hl1 := Ri.push_len (r := ⟨[b0, b1, b2, b3, b4, b5, b6, b7], hd, nn⟩) (g := g) rfl
  rw [hpush] at hl1
  obtain ⟨c0, c1, c2, c3, c4, c5, c6, c7, hd1, nn1, rfl⟩ := Ri.open8 hl1
  rw [← HRV.out]
  refine (rpush_k b0 b1 b2 b3 b4 b5 b6 b7 hd nn g c0 c1 c2 c3 c4 c5 c6 c7 hd1 nn1 ok hpush w5).mono ?_
  rintro e w6 ⟨rfl, hx6⟩
  have S6 := Lib.hid (S5.out.more hx6)
  have HPU := Lib.hid hpush
  obtain ⟨B8, hB8⟩ : ∃ B8, w6.heap.size = B8 := ⟨_, rfl⟩
  obtain ⟨va, vb, hva, hvb, hth, hbx, hxb⟩ := ring_box w6 (r := ⟨[c0, c1, c2, c3, c4, c5, c6, c7], hd1, nn1⟩) rfl
  rw [hB8] at hvb hth hbx
  have HB8 := Lib.hid hB8
  have HVA := Lib.hid hva
  have HVB := Lib.hid hvb
  have HTHA := Lib.hid hth
  have HBX := Lib.hid hbx
  have S7 := Lib.hid (S6.out.more hxb)
  obtain ⟨rv1, hrv1⟩ : ∃ rv1, Value.agg #[.int .i64 c0, .int .i64 c1, .int .i64 c2, .int .i64 c3, .int .i64 c4, .int .i64 c5, .int .i64 c6, .int .i64 c7, .int .i64 hd1, .int .i64 nn1] = rv1 := ⟨_, rfl⟩
  have HRV1 := Lib.hid hrv1
  rw [hrv1]
  clear hx6 hpush hB8 hva hvb hth hbx hxb hrv1 hl1 q2
  go_upto_if 53 with (first | rw [HVA.out, HB8.out] | (refine wpList_store_rowM rfl 38 _ _ rfl B8 0 (rL ⟨[c0, c1, c2, c3, c4, c5, c6, c7], hd1, nn1⟩) rv1 (by go_simp) (by go_simp) HRV1.out.symm HTHA.out (by kernel_rfl) (rL_one _) HVB.out ?_))
  have q2 : vb.cell? ⟨W0, 2, none⟩ = some (.slice (some ⟨bq, 0, none⟩) s.ps.length h1.qc) := by rw [← HQA.out]; exact st2 S7.out.box
  cases ok with
  | true =>
    obtain ⟨w8, hw8⟩ : ∃ w8, vb.setCells bq (i * 13 + 2) (rL ⟨[c0, c1, c2, c3, c4, c5, c6, c7], hd1, nn1⟩) = w8 := ⟨_, rfl⟩
    have hst := S7.out.setP' HP.out HQA.out (x' := ⟨m, nx, ⟨[c0, c1, c2, c3, c4, c5, c6, c7], hd1, nn1⟩, sq⟩) (j := 2) (ds := rL ⟨[c0, c1, c2, c3, c4, c5, c6, c7], hd1, nn1⟩) (by rw [rL_len rfl]; decide) (pL_ring (x := ⟨m, nx, ⟨[b0, b1, b2, b3, b4, b5, b6, b7], hd, nn⟩, sq⟩) rfl rfl)
    rw [hw8] at hst
    have HE := Lib.hid (St.tail_push HP.out HG1.out HBM.out HPU.out)
    obtain ⟨s', hs'⟩ : ∃ s' : St, { s with ps := s.ps.set i ⟨m, nx, ⟨[c0, c1, c2, c3, c4, c5, c6, c7], hd1, nn1⟩, sq⟩ } = s' := ⟨_, rfl⟩
    rw [hs'] at hst HE
    have HTH8 := Lib.hid hst.1
    have S8 := Lib.hid hst.2
    have HW8 := Lib.hid hw8
    clear hst hs' hw8
    have HRB := Lib.hid (range_row HBX.out)
    go_upto_region 8 with (first | (refine wpList_load_rowM (by rfl) 38 _ rfl B8 0 (by go_simp) (rL ⟨[c0, c1, c2, c3, c4, c5, c6, c7], hd1, nn1⟩) rv1 HRV1.out.symm _ HRB.out Try.underlying38 rfl (by kernel_rfl) ?_) | (refine wpList_store_rowM rfl 38 _ _ rfl bq (i * 13 + 2) (rL ⟨[c0, c1, c2, c3, c4, c5, c6, c7], hd1, nn1⟩) rv1 (by go_simp) (by go_simp) HRV1.out.symm HTH8.out (by kernel_rfl) (rL_one _) HW8.out ?_))
    obtain ⟨wf, hwf⟩ : ∃ wf, w8.setCells R 0 (stL h1 s') = wf := ⟨_, rfl⟩
    have HWF := Lib.hid hwf
    have hfi := S8.out.fin
    rw [hwf] at hfi
    have HFI := Lib.hid hfi
    have HTR := Lib.hid (S8.out.there (h' := h1) (s' := s'))
    clear hwf hfi
    go_wp2_with (first | (refine wpList_load_rowW (by rfl) 32 _ rfl W0 (by go_simp) (stL h1 s') (stV h1 s') rfl _ (range_row S8.out.box) Try.underlying32 rfl (by kernel_rfl) ?_) | (refine wpList_store_row rfl 32 _ _ rfl R (stL h1 s') (stV h1 s') (by go_simp) (by go_simp) rfl HTR.out (by kernel_rfl) (stL_one _ _) HWF.out ?_))
    refine bodyPost_ret (v := .agg (stL h1 s').toArray) (results_cell_row rfl _ _ R _ _ _ _ rfl HFI.out.1 Try.underlying32 rfl (by kernel_rfl)) rfl ?_
    obtain ⟨I, hI⟩ := HFI.out.2.1
    rw [HPQ.out, HE.out]
    exact ⟨h1, I, rfl, hI, HFI.out.2.2⟩
  | false =>
    obtain ⟨⟨r2, o⟩, hhalf⟩ : ∃ q, Ri.half ⟨[b0, b1, b2, b3, b4, b5, b6, b7], hd, nn⟩ = q := ⟨_, rfl⟩
    have hl2 := Ri.half_len (r := ⟨[b0, b1, b2, b3, b4, b5, b6, b7], hd, nn⟩) rfl
    rw [hhalf] at hl2
    obtain ⟨d0, d1, d2, d3, d4, d5, d6, d7, hd2, nn2, rfl⟩ := Ri.open8 hl2
    have HHA := Lib.hid hhalf
    have HOL : Hid (o.length ≤ 8) := Lib.hid (by have := Ri.half_olen (r := ⟨[b0, b1, b2, b3, b4, b5, b6, b7], hd, nn⟩) HBM.out; rwa [hhalf] at this)
    have HRG7 := Lib.hid (range_ring (S7.out.getP' HP.out HQA.out))
    clear hl2 hhalf
    go_wp2_with (refine wpList_load_rowM (by rfl) 38 _ rfl bq (i * 13 + 2) (by go_simp) (rL ⟨[b0, b1, b2, b3, b4, b5, b6, b7], hd, nn⟩) rv HRV.out.symm _ HRG7.out Try.underlying38 rfl (by kernel_rfl) ?_)
    rw [← HRV.out]
    refine (rhalf_own b0 b1 b2 b3 b4 b5 b6 b7 hd nn d0 d1 d2 d3 d4 d5 d6 d7 hd2 nn2 o HHA.out vb).mono ?_
    rintro e w9 ⟨Ao, co, rfl, hio, hx9⟩
    have S9 := Lib.hid (S7.out.more hx9)
    obtain ⟨B10, hB10⟩ : ∃ B10, w9.heap.size = B10 := ⟨_, rfl⟩
    obtain ⟨vc, vd, hvc, hvd, hth2, hbx2, hxd⟩ := ring_box w9 (r := ⟨[d0, d1, d2, d3, d4, d5, d6, d7], hd2, nn2⟩) rfl
    rw [hB10] at hvd hth2 hbx2
    have HB10 := Lib.hid hB10
    have HVC := Lib.hid hvc
    have HVD := Lib.hid hvd
    have HTHC := Lib.hid hth2
    have HBX2 := Lib.hid hbx2
    have HIO := Lib.hid (hio.ext hxd)
    have HBL : Hid (bq < vb.heap.size) := Lib.hid (S7.out.ltP HP.out HQA.out)
    have S10 := Lib.hid (S9.out.more hxd)
    obtain ⟨rv2, hrv2⟩ : ∃ rv2, Value.agg #[.int .i64 d0, .int .i64 d1, .int .i64 d2, .int .i64 d3, .int .i64 d4, .int .i64 d5, .int .i64 d6, .int .i64 d7, .int .i64 hd2, .int .i64 nn2] = rv2 := ⟨_, rfl⟩
    have HRV2 := Lib.hid hrv2
    rw [hrv2]
    clear hx9 hB10 hvc hvd hth2 hbx2 hxd hrv2 hio q2
    go_upto_region 10 with (first | rw [HVC.out, HB10.out] | (refine wpList_store_rowM rfl 38 _ _ rfl B10 0 (rL ⟨[d0, d1, d2, d3, d4, d5, d6, d7], hd2, nn2⟩) rv2 (by go_simp) (by go_simp) HRV2.out.symm HTHC.out (by kernel_rfl) (rL_one _) HVD.out ?_))
    have q2 : vd.cell? ⟨W0, 2, none⟩ = some (.slice (some ⟨bq, 0, none⟩) s.ps.length h1.qc) := by rw [← HQA.out]; exact st2 S10.out.box
    obtain ⟨w11, hw11⟩ : ∃ w11, vd.setCells bq (i * 13 + 2) (rL ⟨[d0, d1, d2, d3, d4, d5, d6, d7], hd2, nn2⟩) = w11 := ⟨_, rfl⟩
    have hst := S10.out.setP' HP.out HQA.out (x' := ⟨m, nx, ⟨[d0, d1, d2, d3, d4, d5, d6, d7], hd2, nn2⟩, sq⟩) (j := 2) (ds := rL ⟨[d0, d1, d2, d3, d4, d5, d6, d7], hd2, nn2⟩) (by rw [rL_len rfl]; decide) (pL_ring (x := ⟨m, nx, ⟨[b0, b1, b2, b3, b4, b5, b6, b7], hd, nn⟩, sq⟩) rfl rfl)
    rw [hw11] at hst
    have HE := Lib.hid (St.tail_half HP.out HG1.out HBM.out HPU.out HHA.out)
    have HTH11 := Lib.hid hst.1
    have S11 := Lib.hid hst.2
    have HIO11 : Hid (OwnInts w11 vb.heap.size (.slice Ao o.length co) o) := Lib.hid (HIO.out.but (But.upd (S := fun b => b = bq) (by rw [← hw11]; exact setCells_upd _ _ _ _) rfl) (fun b hb h => by
      have h1 := (World.ownsRow.lt HIO.out b hb).1
      have h2 := HBL.out
      omega))
    have HW11 := Lib.hid hw11
    clear hst hw11
    have HRB2 := Lib.hid (range_row HBX2.out)
    go_upto_region 11 with (first | (refine wpList_load_rowM (by rfl) 38 _ rfl B10 0 (by go_simp) (rL ⟨[d0, d1, d2, d3, d4, d5, d6, d7], hd2, nn2⟩) rv2 HRV2.out.symm _ HRB2.out Try.underlying38 rfl (by kernel_rfl) ?_) | (refine wpList_store_rowM rfl 38 _ _ rfl bq (i * 13 + 2) (rL ⟨[d0, d1, d2, d3, d4, d5, d6, d7], hd2, nn2⟩) rv2 (by go_simp) (by go_simp) HRV2.out.symm HTH11.out (by kernel_rfl) (rL_one _) HW11.out ?_))
    clear q2
    obtain ⟨I11, ha11⟩ := S11.out.ap
    have q4 : w11.cell? ⟨W0, 4, none⟩ = some (.slice h1.la s.glob.length h1.lc) := by have := st4 S11.out.box; exact this
    have hlo4 := ha11.low 4 (by omega)
    have hgf := HF.out.glob
    have hol := HOL.out
    obtain ⟨A12, c12, w12, hr12, hq12⟩ := GlobQ.more (n := s.glob.length) (GlobQ.start (v := w11) (B4 := (I11 4).1) (u0 := .slice h1.la s.glob.length h1.lc) (l := s.glob) ha11.glob.1) rfl rfl HIO11.out.at.2 (by omega) (by show s.glob.length + o.length ≤ _; omega)
    obtain ⟨A13, c13, w13, hr13, hq13⟩ := GlobQ.more (n := s.glob.length + o.length) (hq12.ext ((Ext.refl w12).alloc (.cells #[.int .i64 g] 3))) (m := [g]) (by rw [List.length_append]) rfl (ints_one w12 g) (by omega) (by rw [List.length_append]; show s.glob.length + o.length + 1 ≤ _; omega)
    have hsg := S11.out.globQ ha11 hq13 (by rw [List.length_append, List.length_append])
    obtain ⟨w14, hw14⟩ : ∃ w14, w13.setCell ⟨W0, 4, none⟩ (.slice A13 (s.glob.length + o.length + 1) c13) = w14 := ⟨_, rfl⟩
    obtain ⟨h', hh'⟩ : ∃ h' : StH, { h1 with la := A13, lc := c13 } = h' := ⟨_, rfl⟩
    obtain ⟨s', hs'⟩ : ∃ s' : St, { s with ps := s.ps.set i ⟨m, nx, ⟨[d0, d1, d2, d3, d4, d5, d6, d7], hd2, nn2⟩, sq⟩, glob := s.glob ++ o ++ [g] } = s' := ⟨_, rfl⟩
    have hsit := hsg.2.2
    simp only [List.length_singleton] at hsit
    rw [hw14, hh', hs'] at hsit
    rw [hs'] at HE
    have S14 := Lib.hid hsit
    have HW14 := Lib.hid hw14
    have q5 : w13.cell? ⟨W0, 4, none⟩ = some (.slice h1.la s.glob.length h1.lc) := hsg.1
    have q6 := hsg.2.1
    simp only [List.length_singleton] at hr13
    clear hsg hsit hh' hs' hw14 ha11 hq12 hq13 hlo4 hgf hol
    have HR12 := Lib.hid hr12
    have HR13 := Lib.hid hr13
    clear hr12 hr13
    go_upto_region 12 with (first | (at_builtin; refine wpList_append_run rfl _ _ 27 rfl _ _ (by go_simp) (by go_simp) HR12.out ?_) | (at_builtin; refine wpList_append_run rfl _ _ 27 rfl _ _ (by go_simp) (by go_simp) HR13.out ?_) | rw [HW14.out])
    clear q4 q5 q6
    obtain ⟨wf, hwf⟩ : ∃ wf, w14.setCells R 0 (stL h' s') = wf := ⟨_, rfl⟩
    have HWF := Lib.hid hwf
    have hfi := S14.out.fin
    rw [hwf] at hfi
    have HFI := Lib.hid hfi
    have HTR := Lib.hid (S14.out.there (h' := h') (s' := s'))
    clear hwf hfi
    go_wp2_with (first | (refine wpList_load_rowW (by rfl) 32 _ rfl W0 (by go_simp) (stL h' s') (stV h' s') rfl _ (range_row S14.out.box) Try.underlying32 rfl (by kernel_rfl) ?_) | (refine wpList_store_row rfl 32 _ _ rfl R (stL h' s') (stV h' s') (by go_simp) (by go_simp) rfl HTR.out (by kernel_rfl) (stL_one _ _) HWF.out ?_))
    refine bodyPost_ret (v := .agg (stL h' s').toArray) (results_cell_row rfl _ _ R _ _ _ _ rfl HFI.out.1 Try.underlying32 rfl (by kernel_rfl)) rfl ?_
    obtain ⟨I, hI⟩ := HFI.out.2.1
    rw [HPQ.out, HE.out]
    exact ⟨h', I, rfl, hI, HFI.out.2.2⟩
namespace Ri
def laid (hd : Nat) (l : List Int) : Nat → List Int
  | 0 => [0, 0, 0, 0, 0, 0, 0, 0]
  | k + 1 => (laid hd l k).set ((hd + k) % 8) (l[k]?.getD 0)
theorem laid_len (hd : Nat) (l : List Int) : ∀ k, (laid hd l k).length = 8
  | 0 => rfl
  | k + 1 => by unfold laid; rw [List.length_set, laid_len hd l k]
def at' (hd : Nat) (l : List Int) : Ri := ⟨laid hd l l.length, hd, l.length⟩
end Ri
set_option maxRecDepth 100000 in
set_option maxHeartbeats 4000000 in
theorem rat_any (v : Value) (hd : Nat) (l : List Int) (n : Int) (hn : n = (hd : Int)) (hhd : hd < 8) (w : World) (h : IntsAt w v l) (hl : l.length ≤ 1000000) : Calls Try.prog 109 #[.int .i64 n, v] w fun e w' => e = .returned (.agg (rL (Ri.at' hd l)).toArray) ∧ Ext w w' := by
  subst hn
  have H := Lib.hid h
  obtain ⟨A, c, rfl, -⟩ := h
  obtain ⟨R, hR⟩ : ∃ R, w.heap.size = R := ⟨_, rfl⟩
  obtain ⟨B, hB⟩ : ∃ B, R + 1 = B := ⟨_, rfl⟩
  obtain ⟨w2, hw2⟩ : ∃ w2, (w.alloc (.cells #[.int .i64 0, .int .i64 0, .int .i64 0, .int .i64 0, .int .i64 0, .int .i64 0, .int .i64 0, .int .i64 0, .int .i64 0, .int .i64 0] 38)).alloc (.cells #[.int .i64 0, .int .i64 0, .int .i64 0, .int .i64 0, .int .i64 0, .int .i64 0, .int .i64 0, .int .i64 0, .int .i64 (hd : Int), .int .i64 (l.length : Int)] 38) = w2 := ⟨_, rfl⟩
  have HX2 : Hid (Ext w w2) := Lib.hid (by rw [← hw2]; exact ((Ext.refl w).alloc _).alloc _)
  have HR2 : Hid (w2.heap[R]? = some (.cells #[.int .i64 0, .int .i64 0, .int .i64 0, .int .i64 0, .int .i64 0, .int .i64 0, .int .i64 0, .int .i64 0, .int .i64 0, .int .i64 0] 38 (0, 0))) := Lib.hid (by rw [← hw2, ← hR]; exact blk_alloc (blk_new w _) _)
  have HB2 : Hid (w2.heap[B]? = some (.cells (Ri.cells ⟨Ri.laid hd l 0, hd, l.length⟩) 38 (0, 0))) := Lib.hid (by
    have := blk_new (w.alloc (.cells #[.int .i64 0, .int .i64 0, .int .i64 0, .int .i64 0, .int .i64 0, .int .i64 0, .int .i64 0, .int .i64 0, .int .i64 0, .int .i64 0] 38)) (.cells #[.int .i64 0, .int .i64 0, .int .i64 0, .int .i64 0, .int .i64 0, .int .i64 0, .int .i64 0, .int .i64 0, .int .i64 (hd : Int), .int .i64 (l.length : Int)] 38)
    rw [hw2, World.size_alloc, hR, hB] at this
    exact this)
  have HW2 := Lib.hid hw2
  have HRR := Lib.hid hR
  have HBB := Lib.hid hB
  have hl' : (l.length : Int) ≤ 1000000 := by omega
  clear hw2 hR hB
  go_enter Try.func109, Try.ntmps109
  go_upto_region 2 with (first | rw [HW2.out])
  rw [HRR.out, HBB.out]
  go_wp2_with fail
  go_loopw [6] (fun iv wr => ∃ k : Nat, k ≤ l.length ∧ iv = .int .i64 k ∧ wr.heap[R]? = some (.cells #[.int .i64 0, .int .i64 0, .int .i64 0, .int .i64 0, .int .i64 0, .int .i64 0, .int .i64 0, .int .i64 0, .int .i64 0, .int .i64 0] 38 (0, 0)) ∧ wr.heap[B]? = some (.cells (Ri.cells ⟨Ri.laid hd l k, hd, l.length⟩) 38 (0, 0)) ∧ Ext w wr) (fun iv _ => l.length - (intOf iv).toNat)
  case atStart => exact ⟨0, Nat.zero_le _, rfl, HR2.out, HB2.out, HX2.out⟩
  case round =>
    obtain ⟨k, hk, rfl, hr, hb, hx⟩ := hrel
    have HR := Lib.hid hr
    have HB := Lib.hid hb
    have HX := Lib.hid hx
    clear hr hb hx
    by_cases hlt : k < l.length
    · obtain ⟨x, hx⟩ : ∃ x, l[k]? = some x := ⟨_, List.getElem?_eq_getElem hlt⟩
      obtain ⟨b, o, rfl, hb, hc⟩ := ints_get (H.out.ext HX.out) hx
      have e1 : IntKind.i64.wrap ((hd : Int) + (k : Int)) = ((hd + k : Nat) : Int) := IntWalk.i64_in _ (by omega)
      have e2 : ((hd + k : Nat) : Int).tmod 8 = (((hd + k) % 8 : Nat) : Int) := by rw [Int.tmod_eq_emod_of_nonneg (by omega)]; omega
      have e3 : (0 : Int) ≤ (((hd + k) % 8 : Nat) : Int) := by omega
      have e4 : (((hd + k) % 8 : Nat) : Int) < 8 := by omega
      have hm8 : (hd + k) % 8 < 8 := Nat.mod_lt _ (by omega)
      have r0 := blk_cell HB.out ((hd + k) % 8) _ (Ri.cells_buf (r := ⟨Ri.laid hd l k, hd, l.length⟩) (Ri.laid_len _ _ _) _ hm8)
      have r1 := frozen_of_row _ _ ((hd + k) % 8) _ _ HB.out
      obtain ⟨wn, hwn⟩ : ∃ wn, wr.setCell ⟨B, (hd + k) % 8, none⟩ (.int .i64 x) = wn := ⟨_, rfl⟩
      have NB : Hid (wn.heap[B]? = some (.cells (Ri.cells ⟨Ri.laid hd l (k + 1), hd, l.length⟩) 38 (0, 0))) := Lib.hid (by
        rw [← hwn, show Ri.laid hd l (k + 1) = (Ri.laid hd l k).set ((hd + k) % 8) x by unfold Ri.laid; rw [hx]; cases k <;> rfl, ← Ri.cells_set (r := ⟨Ri.laid hd l k, hd, l.length⟩) (Ri.laid_len _ _ _) _ hm8]
        exact blk_set HB.out _ _)
      have NR : Hid (wn.heap[R]? = some (.cells #[.int .i64 0, .int .i64 0, .int .i64 0, .int .i64 0, .int .i64 0, .int .i64 0, .int .i64 0, .int .i64 0, .int .i64 0, .int .i64 0] 38 (0, 0))) := Lib.hid (by rw [← hwn]; exact blk_set_other HR.out _ (by have := HBB.out; simp only; omega) _)
      have NX : Hid (Ext w wn) := Lib.hid (by rw [← hwn]; exact HX.out.setCell (p := ⟨B, (hd + k) % 8, none⟩) (by have := HBB.out; have := HRR.out; simp only; omega) _)
      have HWN := Lib.hid hwn
      clear hx hb hm8 hwn
      go_wp2_with (rw [HWN.out])
      go_roundw
      case rel => exact ⟨k + 1, by omega, by go_num, NR.out, NB.out, NX.out⟩
      case measure => simp [intOf]; omega
    · obtain rfl : k = l.length := by omega
      obtain ⟨wf, hwf⟩ : ∃ wf, wr.setCells R 0 (rL (Ri.at' hd l)) = wf := ⟨_, rfl⟩
      have HWF := Lib.hid hwf
      have hl10 : (rL (Ri.at' hd l)).length = 10 := rL_len (Ri.laid_len _ _ _)
      have HRZ : Hid (wf.heap[R]? = some (.cells (rL (Ri.at' hd l)).toArray 38 (0, 0))) := Lib.hid (by rw [← hwf]; exact setCells_at [.int .i64 0, .int .i64 0, .int .i64 0, .int .i64 0, .int .i64 0, .int .i64 0, .int .i64 0, .int .i64 0, .int .i64 0, .int .i64 0] _ (by rw [hl10]; rfl) HR.out)
      have HTH : Hid (wr.there R 0 (rL (Ri.at' hd l)).length) := Lib.hid (there_row HR.out (by rw [hl10]; exact Nat.le_refl 10))
      have HXF : Hid (Ext w wf) := Lib.hid (by rw [← hwf]; exact HX.out.upd (setCells_upd _ _ _ _) (by have := HRR.out; omega))
      have HSZ : Hid ((Try.prog.info? 38).map (·.size) = some (rL (Ri.at' hd l)).length) := Lib.hid (by rw [hl10]; kernel_rfl)
      obtain ⟨rv, hrv⟩ : ∃ rv, Value.agg (rL (Ri.at' hd l)).toArray = rv := ⟨_, rfl⟩
      have HRV := Lib.hid hrv
      have HRG : Hid (wr.rangeAt B 0 (rL (Ri.at' hd l))) := Lib.hid (range_row HB.out)
      clear hwf hrv
      go_wp2_with (first | (refine wpList_load_rowM (by rfl) 38 _ rfl B 0 (by go_simp) (rL (Ri.at' hd l)) rv HRV.out.symm _ HRG.out Try.underlying38 rfl HSZ.out ?_) | (refine wpList_store_rowM rfl 38 _ _ rfl R 0 (rL (Ri.at' hd l)) rv (by go_simp) (by go_simp) HRV.out.symm HTH.out HSZ.out (rL_one _) HWF.out ?_))
      refine bodyPost_ret (v := .agg (rL (Ri.at' hd l)).toArray) (results_cell_row rfl _ _ R _ _ _ _ rfl HRZ.out Try.underlying38 rfl (by rw [List.size_toArray]; exact HSZ.out)) rfl ⟨rfl, HXF.out⟩
set_option maxRecDepth 100000 in
set_option maxHeartbeats 8000000 in
theorem rNew_pa (v : Value) (p : List (List (Int × Int))) (n : Int) (r : St × Int) (hr : St.new p n = r) (w : World) (h : NestAt 2 pairL w v p) (h1 : p.length ≤ 100000) (h2 : ∀ l ∈ p, l.length ≤ 100000) :
    Calls Try.prog 108 #[v, .int .i64 n] w fun e w' => ∃ h', e = .returned (.tuple #[stV h' r.1, .int .i64 r.2]) ∧ StOk w' h' r.1 ∧ (r.2 = 0 → v = .slice h'.pa p.length h'.pc) ∧ Ext w w' := by
  subst hr
  have H := Lib.hid h
  obtain ⟨A, c, rfl⟩ := h.form2
  obtain ⟨w1, hw1⟩ : ∃ w1, w.alloc (.cells #[.slice none 0 0, .slice none 0 0, .slice none 0 0, .slice none 0 0, .slice none 0 0, .int .i64 0, .int .i64 0, .int .i64 0, .int .i64 0, .slice none 0 0, .slice none 0 0, .slice none 0 0, .slice none 0 0, .slice none 0 0, .int .i64 0, .int .i64 0] 32) = w1 := ⟨_, rfl⟩
  obtain ⟨R, hR⟩ : ∃ R, w.heap.size = R := ⟨_, rfl⟩
  have hx1 : Ext w w1 := by rw [← hw1]; exact (Ext.refl w).alloc _
  have HX1 := Lib.hid hx1
  have HR1 : Hid (w1.heap[R]? = some (.cells #[.slice none 0 0, .slice none 0 0, .slice none 0 0, .slice none 0 0, .slice none 0 0, .int .i64 0, .int .i64 0, .int .i64 0, .int .i64 0, .slice none 0 0, .slice none 0 0, .slice none 0 0, .slice none 0 0, .slice none 0 0, .int .i64 0, .int .i64 0] 32 (0, 0))) := Lib.hid (by rw [← hw1, ← hR]; exact blk_new w _)
  obtain ⟨bp, hbp⟩ : ∃ bp, Pg.may p = bp := ⟨_, rfl⟩
  have HBP := Lib.hid hbp
  have HPM := Lib.hid (rpmay_any _ p bp hbp w1 (h.ext hx1) h1 h2)
  have HW1 := Lib.hid hw1
  have HRR := Lib.hid hR
  clear h hw1 hR hx1 hbp h2
  go_enter Try.func108, Try.ntmps108
  go_wp2_with (rw [HW1.out])
  refine HPM.out.mono ?_
  rintro e w3 ⟨rfl, hx3⟩
  rw [HRR.out]
  have HX3 := Lib.hid (HX1.out.trans hx3)
  have HR3 := Lib.hid (hx3.blk HR1.out)
  clear hx3
  by_cases hok : Pg.may p = true ∧ 1 ≤ n ∧ n ≤ 8
  rotate_left 1
  · skip
    obtain ⟨wf, hwf⟩ : ∃ wf, w3.setCells R 0 (stL StH.nil St.nil) = wf := ⟨_, rfl⟩
    have HWF := Lib.hid hwf
    have HUF : Hid (Upd R w3 wf) := Lib.hid (by rw [← hwf]; exact setCells_upd _ _ _ _)
    have HRZ : Hid (wf.heap[R]? = some (.cells (stL StH.nil St.nil).toArray 32 (0, 0))) := Lib.hid (by rw [← hwf]; exact setCells_at [.slice none 0 0, .slice none 0 0, .slice none 0 0, .slice none 0 0, .slice none 0 0, .int .i64 0, .int .i64 0, .int .i64 0, .int .i64 0, .slice none 0 0, .slice none 0 0, .slice none 0 0, .slice none 0 0, .slice none 0 0, .int .i64 0, .int .i64 0] (stL StH.nil St.nil) rfl HR3.out)
    have HTH : Hid (w3.there R 0 (stL StH.nil St.nil).length) := Lib.hid (there_row HR3.out (Nat.le_refl 16))
    have HXZ : Hid (Ext w wf) := Lib.hid (HX3.out.upd HUF.out (by have := HRR.out; omega))
    clear hwf
    cases bp with
    | false =>
      have HN : Hid (St.new p n = (St.nil, 1)) := Lib.hid (St.new_no (by intro h; have h1 := HBP.out; have h2 := h.1; simp_all <;> omega))
      go_wp2_with (refine wpList_store_row rfl 32 _ _ rfl R (stL StH.nil St.nil) (stV StH.nil St.nil) rfl rfl rfl HTH.out (by kernel_rfl) (stL_one _ _) HWF.out ?_)
      refine bodyPost_cell_tmp rfl R _ _ _ _ rfl HRZ.out Try.underlying32 rfl (by kernel_rfl) (.int .i64 1) rfl rfl ?_
      rw [HN.out]
      exact ⟨StH.nil, rfl, StOk.nil _, fun h => absurd h (by decide), HXZ.out⟩
    | true =>
      by_cases a1 : n < 1
      · skip
        have HN : Hid (St.new p n = (St.nil, 1)) := Lib.hid (St.new_no (by intro h; have h1 := HBP.out; have h2 := h.1; simp_all <;> omega))
        go_wp2_with (refine wpList_store_row rfl 32 _ _ rfl R (stL StH.nil St.nil) (stV StH.nil St.nil) rfl rfl rfl HTH.out (by kernel_rfl) (stL_one _ _) HWF.out ?_)
        refine bodyPost_cell_tmp rfl R _ _ _ _ rfl HRZ.out Try.underlying32 rfl (by kernel_rfl) (.int .i64 1) rfl rfl ?_
        rw [HN.out]
        exact ⟨StH.nil, rfl, StOk.nil _, fun h => absurd h (by decide), HXZ.out⟩
      · have a2 : 8 < n := by have := HBP.out; first | (simp_all; done) | (simp_all; omega)
        have a1' : decide (n < 1) = false := by simpa using a1
        clear hok a1
        have HN : Hid (St.new p n = (St.nil, 1)) := Lib.hid (St.new_no (by intro h; have h1 := HBP.out; have h2 := h.1; simp_all <;> omega))
        go_wp2_with (refine wpList_store_row rfl 32 _ _ rfl R (stL StH.nil St.nil) (stV StH.nil St.nil) rfl rfl rfl HTH.out (by kernel_rfl) (stL_one _ _) HWF.out ?_)
        refine bodyPost_cell_tmp rfl R _ _ _ _ rfl HRZ.out Try.underlying32 rfl (by kernel_rfl) (.int .i64 1) rfl rfl ?_
        rw [HN.out]
        exact ⟨StH.nil, rfl, StOk.nil _, fun h => absurd h (by decide), HXZ.out⟩
  · obtain rfl : bp = true := by rw [← HBP.out]; exact hok.1
    have HN : Hid (St.new p n = (St.made p n, 0)) := Lib.hid (St.new_yes hok)
    have a1 : 1 ≤ n := hok.2.1
    have a2 : n ≤ 8 := hok.2.2
    obtain ⟨w4, hw4⟩ : ∃ w4, w3.alloc (.cells #[.int .i64 0, .int .i64 0, .int .i64 1, .int .i64 0, .int .i64 0] 55) = w4 := ⟨_, rfl⟩
    obtain ⟨w5, hw5⟩ : ∃ w5, w4.alloc (.cells (madeCells #[.int .i64 0, .int .i64 0, .int .i64 0, .int .i64 0, .int .i64 0, .int .i64 0, .int .i64 0, .int .i64 0, .int .i64 0, .int .i64 0, .int .i64 0, .int .i64 0, .int .i64 0] 104) 40) = w5 := ⟨_, rfl⟩
    obtain ⟨w6, hw6⟩ : ∃ w6, w5.alloc (.cells #[.int .i64 1] 3) = w6 := ⟨_, rfl⟩
    obtain ⟨g, hg⟩ : ∃ g, w3.heap.size = g := ⟨_, rfl⟩
    obtain ⟨q, hq⟩ : ∃ q, w4.heap.size = q := ⟨_, rfl⟩
    obtain ⟨l, hl⟩ : ∃ l, w5.heap.size = l := ⟨_, rfl⟩
    have hx4 : Ext w3 w4 := by rw [← hw4]; exact (Ext.refl _).alloc _
    have hx5 : Ext w4 w5 := by rw [← hw5]; exact (Ext.refl _).alloc _
    have hx6 : Ext w5 w6 := by rw [← hw6]; exact (Ext.refl _).alloc _
    have hg4 : w4.heap[g]? = some (.cells #[.int .i64 0, .int .i64 0, .int .i64 1, .int .i64 0, .int .i64 0] 55 (0, 0)) := by rw [← hw4, ← hg]; exact blk_new w3 _
    have hq5 : w5.heap[q]? = some (.cells (madeCells #[.int .i64 0, .int .i64 0, .int .i64 0, .int .i64 0, .int .i64 0, .int .i64 0, .int .i64 0, .int .i64 0, .int .i64 0, .int .i64 0, .int .i64 0, .int .i64 0, .int .i64 0] 104) 40 (0, 0)) := by rw [← hw5, ← hq]; exact blk_new w4 _
    have hl6 : w6.heap[l]? = some (.cells #[.int .i64 1] 3 (0, 0)) := by rw [← hw6, ← hl]; exact blk_new w5 _
    have HR6 : Hid (w6.heap[R]? = some (.cells #[.slice none 0 0, .slice none 0 0, .slice none 0 0, .slice none 0 0, .slice none 0 0, .int .i64 0, .int .i64 0, .int .i64 0, .int .i64 0, .slice none 0 0, .slice none 0 0, .slice none 0 0, .slice none 0 0, .slice none 0 0, .int .i64 0, .int .i64 0] 32 (0, 0))) := Lib.hid ((hx4.trans (hx5.trans hx6)).blk HR3.out)
    have HX6 : Hid (Ext w w6) := Lib.hid (HX3.out.trans (hx4.trans (hx5.trans hx6)))
    have hmk := make_ps w4
    rw [hw5, hq] at hmk
    obtain ⟨wf, hwf⟩ : ∃ wf, w6.setCells R 0 (stL (StH.made A c g q l) (St.made p n)) = wf := ⟨_, rfl⟩
    have HWF := Lib.hid hwf
    have hRlt : R < w3.heap.size := blk_lt HR3.out
    have hu : Upd R w6 wf := by rw [← hwf]; exact setCells_upd _ _ _ _
    have HRZ : Hid (wf.heap[R]? = some (.cells (stL (StH.made A c g q l) (St.made p n)).toArray 32 (0, 0))) := Lib.hid (by rw [← hwf]; exact setCells_at [.slice none 0 0, .slice none 0 0, .slice none 0 0, .slice none 0 0, .slice none 0 0, .int .i64 0, .int .i64 0, .int .i64 0, .int .i64 0, .slice none 0 0, .slice none 0 0, .slice none 0 0, .slice none 0 0, .slice none 0 0, .int .i64 0, .int .i64 0] (stL (StH.made A c g q l) (St.made p n)) rfl HR6.out)
    have HTH : Hid (w6.there R 0 (stL (StH.made A c g q l) (St.made p n)).length) := Lib.hid (there_row HR6.out (Nat.le_refl 16))
    have HXZ : Hid (Ext w wf) := Lib.hid (HX6.out.upd hu (by have := HRR.out; omega))
    have HSZ : Hid (R < g ∧ R < q ∧ R < l) := Lib.hid (by have := hx4.size; have := hx5.size; omega)
    have HOK : Hid (StOk wf (StH.made A c g q l) (St.made p n)) := Lib.hid (by
      have hz := HSZ.out
      exact StOk.made (H.out.ext HXZ.out) (hu.blk ((hx5.trans hx6).blk hg4) (by omega)) (hu.blk (hx6.blk hq5) (by omega)) (hu.blk hl6 (by omega)))
    have HW4 := Lib.hid hw4
    have HW6 := Lib.hid hw6
    have HGQ : Hid (w3.heap.size = g ∧ w5.heap.size = l) := Lib.hid ⟨hg, hl⟩
    clear hw4 hw5 hw6 hg hq hl hx4 hx5 hx6 hg4 hq5 hl6 hwf hRlt hu hok
    go_wp2_with (first | rw [HW4.out, HGQ.out.1] | rw [HW6.out, HGQ.out.2] | (refine wpList_store_row rfl 32 _ _ rfl R (stL (StH.made A c g q l) (St.made p n)) (stV (StH.made A c g q l) (St.made p n)) rfl rfl rfl HTH.out (by kernel_rfl) (stL_one _ _) HWF.out ?_))
    refine bodyPost_cell_tmp rfl R _ _ _ _ rfl HRZ.out Try.underlying32 rfl (by kernel_rfl) (.int .i64 0) rfl rfl ?_
    rw [HN.out]
    exact ⟨StH.made A c g q l, rfl, HOK.out, fun _ => rfl, HXZ.out⟩
theorem gs_push {v : World} {B0 n cc : Nat} {A : Option Addr} {xs : List Gr} (h : OwnRows 55 5 gL v B0 (.slice A n cc) xs) (hn : n = xs.length) (x : Gr) (hl : xs.length ≤ 1000000) (hB : B0 ≤ v.heap.size) :
    ∃ A' c' v', (Builtin.append_ #[24, 24] 24 #[.slice A n cc, .slice (some ⟨v.heap.size, 0, none⟩) 1 1]).run Try.prog (v.alloc (.cells (gL x).toArray 55)) = .ok (.slice A' (n + 1) c') v' ∧ OwnRows 55 5 gL v' B0 (.slice A' (n + 1) c') (xs ++ [x]) ∧
      (∀ b o, b < B0 → v.heap[b]? = some o → v'.heap[b]? = some o) ∧ (∀ W : World, Ext W v → W.heap.size ≤ B0 → Ext W v') ∧ v.heap.size ≤ v'.heap.size := by
  subst hn
  obtain ⟨i0, I0, I1, I2, I3⟩ := info_parts Try.infoG
  obtain ⟨g, hg⟩ : ∃ g, v.heap.size = g := ⟨_, rfl⟩
  have hb := blk_new v (.cells (gL x).toArray 55)
  have hone : RowsAt 5 gL (v.alloc (.cells (gL x).toArray 55)) (.slice (some ⟨v.heap.size, 0, none⟩) [x].length 1) [x] := ⟨_, _, rfl, Nat.le_refl 1, fun _ => ⟨v.heap.size, 0, rfl, blk_lt hb, fun j y hj i u hu => by
    match j with
    | 0 =>
      simp at hj; subst hj
      simp only [Nat.zero_mul, Nat.zero_add]
      exact blk_cell hb i u (by simpa using hu)
    | j + 1 => simp at hj⟩⟩
  obtain ⟨u, v', hr, ho, hgr, hbb⟩ := OwnRows.append2 (P := Try.prog) (e := 55) (m := 5) (f := gL) (ys := [x]) 24 Try.underlying24 I0 I1 I2 I3 rfl (by decide) gL_len gL_one (h.alloc _) hone (by simp [maxLen]; omega) (by simp; omega) (by rw [World.size_alloc]; omega)
  obtain ⟨A', c', rfl, -⟩ := (OwnRows.rows gL_len ho).form
  rw [List.length_append] at hr ho
  have hlo : ∀ b, (Value.slice A xs.length cc).ownBlock = some b → B0 ≤ b := fun b e => (h.lt b e).1
  refine ⟨A', c', v', hr, ho, fun b o hb0 hbo => (hgr.block b (by have := blk_lt hbo; rw [World.size_alloc]; omega) (fun e => by have := hlo b e.symm; omega)).trans (blk_alloc hbo _), fun W hx hW => ?_, by have := hgr.size; rw [World.size_alloc] at this; omega⟩
  exact Below.grown (hx.alloc _) hgr (hx.alloc _).size fun k hk => by have := hlo k hk; omega
def p1 : Pr := ⟨1, 0, ⟨[1, 2, 3, 4, 5, 6, 7, 8], 0, 8⟩, 0⟩
def fullS : St := ⟨[[(0, 0)]], List.replicate 8 ⟨0, 0, 1, 0, 0⟩ ++ [⟨0, 0, 2, 1, 0⟩], p1 :: List.replicate 7 nilPr, [(1, 9)], [], 0, 0, 0, 0, [], [], [], [], [], 0, 1⟩
theorem full_new : St.new [[(0, 0)]] 1 = (St.made [[(0, 0)]] 1, 0) := St.new_yes (by decide +kernel)
theorem full_at : Ri.at' 0 [1, 2, 3, 4, 5, 6, 7, 8] = ⟨[1, 2, 3, 4, 5, 6, 7, 8], 0, 8⟩ := by kernel_rfl
structure FK (B1 q0 g0 m0 c9 : Nat) (A9 : Option Addr) (gs9 : List Gr) (h : StH) (s : St) (w : World) : Prop where
  box : w.heap[B1]? = some (.cells (stC h s) 32 (0, 0))
  ps : ∃ x : Pr, OwnRows 40 13 pL w q0 (.slice (some ⟨q0, 0, none⟩) 8 8) (x :: List.replicate 7 nilPr)
  gs : OwnRows 55 5 gL w g0 (.slice A9 9 c9) gs9
  ms : w.heap[m0]? = some (.cells #[.int .i64 1, .int .i64 9] 57 (0, 0))
  lt : B1 < q0 ∧ m0 < q0
  un : UnderB (.slice A9 9 c9) q0
theorem OwnRows.lowM {α : Type} {e : TypeId} {m : Nat} {f : α → List Value} {w w2 : World} {B M : Nat} {v : Value} {xs : List α} (h : OwnRows e m f w B v xs) (hl : LowSame M w w2) (hv : UnderB v M) : OwnRows e m f w2 B v xs := by
  refine ⟨h.1, ?_⟩
  rcases h.2 with h2 | ⟨g', cap, cur, e, hb, hh, rest⟩
  · exact .inl h2
  · exact .inr ⟨g', cap, cur, e, hb, (hl g' (hv g' (by rw [e]; rfl))).trans hh, rest⟩
theorem FK.low {B1 q0 g0 m0 c9 M : Nat} {A9 : Option Addr} {gs9 : List Gr} {h : StH} {s : St} {w w2 : World} (k : FK B1 q0 g0 m0 c9 A9 gs9 h s w) (hl : LowSame M w w2) (hg : q0 < M) : FK B1 q0 g0 m0 c9 A9 gs9 h s w2 := by
  obtain ⟨x, h1⟩ := k.ps
  have hlt := k.lt
  exact ⟨(hl B1 (by omega)).trans k.box, ⟨x, h1.lowM hl fun b hb => by cases hb; exact hg⟩, k.gs.lowM hl fun b hb => Nat.lt_trans (k.un b hb) hg, (hl m0 (by omega)).trans k.ms, k.lt, k.un⟩
theorem PairsAt.none (w : World) (A : Option Addr) (c : Nat) : PairsAt w (.slice A 0 c) [] := ⟨A, c, rfl, Nat.zero_le _, fun h => absurd h (by decide)⟩
theorem own_eight (v : World) : OwnInts (v.alloc (.cells #[.int .i64 1, .int .i64 2, .int .i64 3, .int .i64 4, .int .i64 5, .int .i64 6, .int .i64 7, .int .i64 8] 3)) v.heap.size (.slice (some ⟨v.heap.size, 0, none⟩) 8 8) [1, 2, 3, 4, 5, 6, 7, 8] := ⟨rfl, .inr ⟨v.heap.size, 8, _, rfl, Nat.le_refl _, blk_new v _, Nat.le_refl _, by decide, rfl, rfl⟩⟩
theorem ps_made (w : World) : OwnRows 40 13 pL (w.alloc (.cells (madeCells #[.int .i64 0, .int .i64 0, .int .i64 0, .int .i64 0, .int .i64 0, .int .i64 0, .int .i64 0, .int .i64 0, .int .i64 0, .int .i64 0, .int .i64 0, .int .i64 0, .int .i64 0] 104) 40)) w.heap.size (.slice (some ⟨w.heap.size, 0, none⟩) 8 8) (List.replicate 8 nilPr) := by
  refine ⟨by rw [flatMap_len pL_len], .inr ⟨w.heap.size, 8, _, rfl, Nat.le_refl _, blk_new w _, Nat.le_refl _, by decide, by kernel_rfl, by kernel_rfl⟩⟩
set_option maxRecDepth 100000 in
set_option maxHeartbeats 16000000 in
theorem full_any (w : World) : Calls Try.prog 49 #[] w fun e w' => ∃ h, e = .returned (stV h fullS) ∧ StOk w' h fullS ∧ Ext w w' := by
  obtain ⟨R, hR⟩ : ∃ R, w.heap.size = R := ⟨_, rfl⟩
  obtain ⟨w0, hw0⟩ : ∃ w0, w.alloc (.cells #[.slice none 0 0, .slice none 0 0, .slice none 0 0, .slice none 0 0, .slice none 0 0, .int .i64 0, .int .i64 0, .int .i64 0, .int .i64 0, .slice none 0 0, .slice none 0 0, .slice none 0 0, .slice none 0 0, .slice none 0 0, .int .i64 0, .int .i64 0] 32) = w0 := ⟨_, rfl⟩
  obtain ⟨w1, hw1⟩ : ∃ w1, w0.alloc (.cells #[.int .i64 0, .int .i64 0] 68) = w1 := ⟨_, rfl⟩
  obtain ⟨w2, hw2⟩ : ∃ w2, w1.alloc (.cells #[.slice (some ⟨w0.heap.size, 0, none⟩) 1 1] 69) = w2 := ⟨_, rfl⟩
  have hx0 : Ext w w0 := by rw [← hw0]; exact (Ext.refl w).alloc _
  have hx1 : Ext w0 w1 := by rw [← hw1]; exact (Ext.refl w0).alloc _
  have hx2 : Ext w1 w2 := by rw [← hw2]; exact (Ext.refl w1).alloc _
  have hr0 : w0.heap[R]? = some (.cells #[.slice none 0 0, .slice none 0 0, .slice none 0 0, .slice none 0 0, .slice none 0 0, .int .i64 0, .int .i64 0, .int .i64 0, .int .i64 0, .slice none 0 0, .slice none 0 0, .slice none 0 0, .slice none 0 0, .slice none 0 0, .int .i64 0, .int .i64 0] 32 (0, 0)) := by rw [← hw0, ← hR]; exact blk_new w _
  have hb1 : w1.heap[w0.heap.size]? = some (.cells #[.int .i64 0, .int .i64 0] 68 (0, 0)) := by rw [← hw1]; exact blk_new w0 _
  have hb2 : w2.heap[w1.heap.size]? = some (.cells #[.slice (some ⟨w0.heap.size, 0, none⟩) 1 1] 69 (0, 0)) := by rw [← hw2]; exact blk_new w1 _
  have key : ∀ v : World, v.heap[w0.heap.size]? = some (.cells #[.int .i64 0, .int .i64 0] 68 (0, 0)) → v.heap[w1.heap.size]? = some (.cells #[.slice (some ⟨w0.heap.size, 0, none⟩) 1 1] 69 (0, 0)) → NestAt 2 pairL v (.slice (some ⟨w1.heap.size, 0, none⟩) 1 1) [[(0, 0)]] := fun v k1 k2 => nest_one k2 ⟨_, _, rfl, Nat.le_refl 1, fun _ => ⟨w0.heap.size, 0, rfl, blk_lt k1, fun j x hj i u hu => by
    match j with
    | 0 =>
      simp at hj; subst hj
      refine blk_cell k1 _ _ ?_
      match i with
      | 0 | 1 => simp [pairL] at hu; subst hu; rfl
      | i + 2 => simp [pairL] at hu
    | j + 1 => simp at hj⟩⟩
  have KEY := Lib.hid key
  have HN1 := Lib.hid (rNew_pa _ [[(0, 0)]] 1 _ full_new w2 (key w2 (hx2.blk hb1) hb2) (by decide) (by decide))
  have HX2 : Hid (Ext w w2) := Lib.hid (hx0.trans (hx1.trans hx2))
  have HR2 := Lib.hid ((hx1.trans hx2).blk hr0)
  have HBI := Lib.hid (hx2.blk hb1)
  have HBP := Lib.hid hb2
  have HRL : Hid (R < w0.heap.size ∧ w0.heap.size < w1.heap.size) := Lib.hid ⟨blk_lt hr0, blk_lt hb1⟩
  have HW0 := Lib.hid hw0
  have HW1 := Lib.hid hw1
  have HW2 := Lib.hid hw2
  have HRR := Lib.hid hR
  clear hR hw0 hw1 hw2 hx0 hx1 hx2 hr0 hb1 hb2 key
  go_enter Try.func49, Try.ntmps49
  go_wp2_with (first | rw [HW0.out, HRR.out] | rw [HW0.out] | rw [HW1.out] | rw [HW2.out])
  refine HN1.out.mono ?_
  rintro e wa ⟨h1, rfl, hk1, hpa, hxa⟩
  simp only at hpa ⊢
  have hpa := hpa trivial
  obtain ⟨A0, c0, hpaf⟩ : ∃ A0 c0, h1.pa = A0 ∧ h1.pc = c0 := ⟨_, _, rfl, rfl⟩
  obtain ⟨wb, wc, hwb, hwc, hth, hbc, hxc⟩ := st_box wa h1 (St.made [[(0, 0)]] 1)
  obtain ⟨B1, hB1⟩ : ∃ B1, wa.heap.size = B1 := ⟨_, rfl⟩
  rw [hB1] at hwc hth hbc
  obtain ⟨wd, hwd⟩ : ∃ wd, wc.alloc (.cells #[] 55) = wd := ⟨_, rfl⟩
  obtain ⟨g0, hg0⟩ : ∃ g0, wc.heap.size = g0 := ⟨_, rfl⟩
  obtain ⟨we, hwe⟩ : ∃ we, wd.setCell ⟨B1, 1, none⟩ (.slice (some ⟨g0, 0, none⟩) 0 0) = we := ⟨_, rfl⟩
  have hxd : Ext wc wd := by rw [← hwd]; exact (Ext.refl _).alloc _
  have hbd := hxd.blk hbc
  have q1 : wd.cell? ⟨B1, 1, none⟩ = some (.slice h1.ga 1 h1.gc) := st1 hbd
  have qf := frozen_of_row _ _ 1 _ _ hbd
  have HBE : Hid (we.heap[B1]? = some (.cells (stC { h1 with ga := some ⟨g0, 0, none⟩, gc := 0 } { St.made [[(0, 0)]] 1 with gs := List.replicate 0 ⟨0, 0, 1, 0, 0⟩ }) 32 (0, 0))) := Lib.hid (by rw [← hwe]; exact blk_set hbd 1 _)
  have HAE : Hid (Ext wa we) := Lib.hid (by rw [← hwe]; exact (hxc.trans hxd).setCell (p := ⟨B1, 1, none⟩) (by simp only; omega) _)
  have HGO : Hid (OwnRows 55 5 gL we g0 (.slice (some ⟨g0, 0, none⟩) 0 0) (List.replicate 0 ⟨0, 0, 1, 0, 0⟩)) := Lib.hid (by
    have h0 : OwnRows 55 5 gL wd g0 (.slice (some ⟨g0, 0, none⟩) 0 0) [] := by rw [← hwd, ← hg0]; exact World.ownsRow_made (base := wc.heap.size) (e := 55) (size := 5) wc #[] 0 (Nat.le_refl _) (by decide) rfl
    exact h0.updB (by rw [← hwe]; exact (Upd.refl B1 wd).set 1 _) (by have := blk_lt hbc; omega))
  have HBG : Hid (B1 < g0 ∧ g0 < we.heap.size ∧ wa.heap.size ≤ B1) := Lib.hid ⟨by have := blk_lt hbc; omega, by rw [← hwe, ← hg0]; simp [World.setCell]; rw [← hwd, World.size_alloc]; omega, by omega⟩
  have HWB := Lib.hid hwb
  have HB1 := Lib.hid hB1
  have HWC := Lib.hid hwc
  have HWD := Lib.hid hwd
  have HG0 := Lib.hid hg0
  have HWE := Lib.hid hwe
  have HTHB := Lib.hid hth
  have HXA := Lib.hid hxa
  have HPA := Lib.hid hpa
  clear hwb hwc hth hbc hxc hB1 hwd hg0 hwe hxd hbd hxa hpa hpaf hk1
  go_upto_region 3 with (first | rw [HWB.out, HB1.out] | rw [HWD.out, HG0.out] | rw [HWE.out] | (refine wpList_store_row rfl 32 _ _ rfl B1 (stL h1 (St.made [[(0, 0)]] 1)) (stV h1 (St.made [[(0, 0)]] 1)) (by go_simp) (by go_simp) rfl HTHB.out (by kernel_rfl) (stL_one _ _) HWC.out ?_))
  clear q1 qf
  go_wp2_with fail
  go_loopw [3] (fun iv wr => ∃ k : Nat, k ≤ 8 ∧ iv = .int .i64 k ∧ ∃ A cc, wr.heap[B1]? = some (.cells (stC { h1 with ga := A, gc := cc } { St.made [[(0, 0)]] 1 with gs := List.replicate k ⟨0, 0, 1, 0, 0⟩ }) 32 (0, 0)) ∧ OwnRows 55 5 gL wr g0 (.slice A k cc) (List.replicate k ⟨0, 0, 1, 0, 0⟩) ∧ Ext wa wr ∧ g0 ≤ wr.heap.size) (fun iv _ => 8 - (intOf iv).toNat)
  case atStart => exact ⟨0, by omega, rfl, _, _, HBE.out, HGO.out, HAE.out, by have := HBG.out; omega⟩
  case round =>
    obtain ⟨k, hk, rfl, A, cc, hb, ho, hx, hsz⟩ := hrel
    have HB := Lib.hid hb
    have HO := Lib.hid ho
    have HX := Lib.hid hx
    have HSZ := Lib.hid hsz
    have q1 : wr.cell? ⟨B1, 1, none⟩ = some (.slice A k cc) := by have := st1 hb; simp only [List.length_replicate] at this; exact this
    clear hb ho hx hsz
    by_cases hlt : k < 8
    · obtain ⟨A', c', v', hr, ho', hkeep, hext, hsz'⟩ := gs_push HO.out (by rw [List.length_replicate]) ⟨0, 0, 1, 0, 0⟩ (by rw [List.length_replicate]; omega) HSZ.out
      obtain ⟨wn, hwn⟩ : ∃ wn, v'.setCell ⟨B1, 1, none⟩ (.slice A' (k + 1) c') = wn := ⟨_, rfl⟩
      have hbv := hkeep B1 _ HBG.out.1 HB.out
      have r0 := st1 hbv
      have r1 := frozen_of_row _ _ 1 _ _ hbv
      have hrep : List.replicate k (⟨0, 0, 1, 0, 0⟩ : Gr) ++ [⟨0, 0, 1, 0, 0⟩] = List.replicate (k + 1) ⟨0, 0, 1, 0, 0⟩ := by rw [List.replicate_succ', ]
      have NB : Hid (wn.heap[B1]? = some (.cells (stC { h1 with ga := A', gc := c' } { St.made [[(0, 0)]] 1 with gs := List.replicate (k + 1) ⟨0, 0, 1, 0, 0⟩ }) 32 (0, 0))) := Lib.hid (by
        rw [← hwn]
        have := blk_set hbv 1 (.slice A' (k + 1) c')
        unfold stC
        rw [List.length_replicate]
        exact this)
      have NO : Hid (OwnRows 55 5 gL wn g0 (.slice A' (k + 1) c') (List.replicate (k + 1) ⟨0, 0, 1, 0, 0⟩)) := Lib.hid (by rw [← hrep, ← hwn]; exact ho'.updB ((Upd.refl B1 v').set 1 _) HBG.out.1)
      have NX : Hid (Ext wa wn) := Lib.hid (by rw [← hwn]; exact (hext wa HX.out (by have := HBG.out; omega)).setCell (p := ⟨B1, 1, none⟩) (by have := HBG.out; simp only; omega) _)
      have NS : Hid (g0 ≤ wn.heap.size) := Lib.hid (by rw [← hwn]; simp [World.setCell]; have := HSZ.out; omega)
      have HR := Lib.hid hr
      have HWN := Lib.hid hwn
      clear hr ho' hkeep hext hsz' hbv hrep hwn
      go_wp2_with (first | (at_builtin; refine wpList_append_run rfl _ _ 24 rfl _ _ (by go_simp) (by go_simp) HR.out ?_) | rw [HWN.out])
      go_roundw
      case rel => exact ⟨k + 1, by omega, by go_num, A', c', NB.out, NO.out, NX.out, NS.out⟩
      case measure => simp [intOf]; omega
    · obtain rfl : k = 8 := by omega
      have HG8 := HO
      obtain ⟨A9, c9, v9, hr9, ho9, hkeep, hext, hsz9⟩ := gs_push HO.out (by rw [List.length_replicate]) ⟨0, 0, 2, 1, 0⟩ (by rw [List.length_replicate]; omega) HSZ.out
      obtain ⟨gs9, hgs9⟩ : ∃ gs9 : List Gr, List.replicate 8 ⟨0, 0, 1, 0, 0⟩ ++ [⟨0, 0, 2, 1, 0⟩] = gs9 := ⟨_, rfl⟩
      have hgl : gs9.length = 9 := by rw [← hgs9]; rfl
      have hbv := hkeep B1 _ HBG.out.1 HB.out
      obtain ⟨w7, hw7⟩ : ∃ w7, v9.setCell ⟨B1, 1, none⟩ (.slice A9 9 c9) = w7 := ⟨_, rfl⟩
      obtain ⟨w8, hw8⟩ : ∃ w8, w7.setCell ⟨B1, 4, none⟩ (.slice none 0 0) = w8 := ⟨_, rfl⟩
      obtain ⟨wm, hwm⟩ : ∃ wm, w8.alloc (.cells #[.int .i64 1, .int .i64 9] 57) = wm := ⟨_, rfl⟩
      obtain ⟨m0, hm0⟩ : ∃ m0, w8.heap.size = m0 := ⟨_, rfl⟩
      obtain ⟨w9, hw9⟩ : ∃ w9, wm.setCell ⟨B1, 3, none⟩ (.slice (some ⟨m0, 0, none⟩) 1 1) = w9 := ⟨_, rfl⟩
      obtain ⟨wp, hwp⟩ : ∃ wp, w9.alloc (.cells (madeCells #[.int .i64 0, .int .i64 0, .int .i64 0, .int .i64 0, .int .i64 0, .int .i64 0, .int .i64 0, .int .i64 0, .int .i64 0, .int .i64 0, .int .i64 0, .int .i64 0, .int .i64 0] 104) 40) = wp := ⟨_, rfl⟩
      obtain ⟨q0, hq0⟩ : ∃ q0, w9.heap.size = q0 := ⟨_, rfl⟩
      obtain ⟨w10, hw10⟩ : ∃ w10, wp.setCell ⟨B1, 2, none⟩ (.slice (some ⟨q0, 0, none⟩) 8 8) = w10 := ⟨_, rfl⟩
      have b7 : w7.heap[B1]? = some (.cells (stC { h1 with ga := A9, gc := c9 } { St.made [[(0, 0)]] 1 with gs := gs9 }) 32 (0, 0)) := by
        rw [← hw7]; unfold stC; rw [hgl]; exact blk_set hbv 1 _
      have b8 : w8.heap[B1]? = some (.cells (stC { h1 with ga := A9, gc := c9, la := none, lc := 0 } { St.made [[(0, 0)]] 1 with gs := gs9, glob := [] }) 32 (0, 0)) := by
        rw [← hw8]; exact blk_set b7 4 _
      have bm := blk_alloc b8 (.cells #[.int .i64 1, .int .i64 9] 57)
      rw [hwm] at bm
      have b9 : w9.heap[B1]? = some (.cells (stC { h1 with ga := A9, gc := c9, la := none, lc := 0, ma := some ⟨m0, 0, none⟩, mc := 1 } { St.made [[(0, 0)]] 1 with gs := gs9, glob := [], ms := [(1, 9)] }) 32 (0, 0)) := by
        rw [← hw9]; exact blk_set bm 3 _
      have bp := blk_alloc b9 (.cells (madeCells #[.int .i64 0, .int .i64 0, .int .i64 0, .int .i64 0, .int .i64 0, .int .i64 0, .int .i64 0, .int .i64 0, .int .i64 0, .int .i64 0, .int .i64 0, .int .i64 0, .int .i64 0] 104) 40)
      rw [hwp] at bp
      obtain ⟨hh, hhh⟩ : ∃ hh : StH, { h1 with ga := A9, gc := c9, la := none, lc := 0, ma := some ⟨m0, 0, none⟩, mc := 1, qa := some ⟨q0, 0, none⟩, qc := 8 } = hh := ⟨_, rfl⟩
      obtain ⟨ss, hss⟩ : ∃ ss : St, { St.made [[(0, 0)]] 1 with gs := gs9, glob := [], ms := [(1, 9)], ps := List.replicate 8 nilPr } = ss := ⟨_, rfl⟩
      have b10 : w10.heap[B1]? = some (.cells (stC hh ss) 32 (0, 0)) := by
        rw [← hw10, ← hhh, ← hss]; exact blk_set bp 2 _
      have z7 : Ext wa w7 := by rw [← hw7]; exact (hext wa HX.out (by have := HBG.out; omega)).setCell (p := ⟨B1, 1, none⟩) (by have := HBG.out; simp only; omega) _
      have z8 : Ext wa w8 := by rw [← hw8]; exact z7.setCell (p := ⟨B1, 4, none⟩) (by have := HBG.out; simp only; omega) _
      have z9 : Ext wa w9 := by rw [← hw9, ← hwm]; exact (z8.alloc _).setCell (p := ⟨B1, 3, none⟩) (by have := HBG.out; simp only; omega) _
      have z10 : Ext wa w10 := by rw [← hw10, ← hwp]; exact (z9.alloc _).setCell (p := ⟨B1, 2, none⟩) (by have := HBG.out; simp only; omega) _
      have e1 := st1 hbv
      have f1 := frozen_of_row _ _ 1 _ _ hbv
      have e4 := st4 b7
      have f4 := frozen_of_row _ _ 4 _ _ b7
      have e3 := st3 bm
      have f3 := frozen_of_row _ _ 3 _ _ bm
      have e2 := st2 bp
      have f2 := frozen_of_row _ _ 2 _ _ bp
      have hmk := make_ps w9
      rw [hwp, hq0] at hmk
      have hsz8 : g0 ≤ w8.heap.size := by rw [← hw8, ← hw7]; simp [World.setCell]; have := HSZ.out; omega
      have hszs : m0 < q0 ∧ g0 ≤ m0 := by rw [← hq0, ← hw9, ← hm0]; simp [World.setCell]; rw [← hwm, World.size_alloc]; omega
      have u8 : Upd B1 v9 w8 := by rw [← hw8, ← hw7]; exact ((Upd.refl B1 v9).set 1 _).set 4 _
      have u10 : ∃ x, wm.setCell ⟨B1, 3, none⟩ (.slice (some ⟨m0, 0, none⟩) 1 1) = x ∧ x = w9 := ⟨_, rfl, hw9⟩
      have hm9 : w9.heap[m0]? = some (.cells #[.int .i64 1, .int .i64 9] 57 (0, 0)) := by rw [← hw9, ← hm0]; exact blk_set_other (by rw [← hwm]; exact blk_new w8 _) _ (by have := HBG.out; simp only; omega) _
      have ho9' : OwnRows 55 5 gL w9 g0 (.slice A9 9 c9) gs9 := by
        rw [← hgs9, ← hw9]
        refine OwnRows.updB ?_ ((Upd.refl B1 wm).set 3 _) HBG.out.1
        rw [← hwm]
        exact (ho9.updB u8 HBG.out.1).alloc _
      have x910 : Upd B1 wp w10 := by rw [← hw10]; exact (Upd.refl B1 wp).set 2 _
      have hgs10 : OwnRows 55 5 gL w10 g0 (.slice A9 9 c9) gs9 := by
        refine OwnRows.updB ?_ x910 HBG.out.1
        rw [← hwp]
        exact ho9'.alloc _
      have hm10 : w10.heap[m0]? = some (.cells #[.int .i64 1, .int .i64 9] 57 (0, 0)) := (x910.block m0 (by rw [← hwp, World.size_alloc]; omega) (fun e => by injection e; have := HBG.out; omega)).trans (by rw [← hwp]; exact blk_alloc hm9 _)
      have hps10 : OwnRows 40 13 pL w10 q0 (.slice (some ⟨q0, 0, none⟩) 8 8) (List.replicate 8 nilPr) := by
        refine OwnRows.updB ?_ x910 (by have := HBG.out; omega)
        rw [← hwp, ← hq0]
        exact ps_made w9
      have hqw : q0 < w10.heap.size := by
        have h1 := x910.size
        have h2 : q0 < wp.heap.size := by rw [← hwp, World.size_alloc, hq0]; exact Nat.lt_succ_self _
        omega
      have HSQ : Hid (B1 < g0 ∧ g0 ≤ m0 ∧ m0 < q0 ∧ q0 < w10.heap.size ∧ wa.heap.size ≤ B1) := Lib.hid ⟨HBG.out.1, hszs.2, hszs.1, hqw, HBG.out.2.2⟩
      have HGSL : Hid (OwnRows 55 5 gL w10 g0 (.slice A9 9 c9) gs9 ∧ UnderB (.slice A9 9 c9) q0) := Lib.hid ⟨hgs10, fun b hb => by have := (ho9'.lt b hb).2; omega⟩
      have HM10 := Lib.hid hm10
      have HFK : Hid (FK B1 q0 g0 m0 c9 A9 gs9 hh ss w10) := Lib.hid ⟨b10, ⟨nilPr, hps10⟩, hgs10, hm10, by have := HSQ.out; omega, HGSL.out.2⟩
      have HZ10 := Lib.hid z10
      have HR9 := Lib.hid hr9
      have HW7 := Lib.hid hw7
      have HW8 := Lib.hid hw8
      have HWM := Lib.hid hwm
      have HM0 := Lib.hid hm0
      have HW9 := Lib.hid hw9
      have HW10 := Lib.hid hw10
      have HHH := Lib.hid hhh
      have HSS := Lib.hid hss
      have HGS9 := Lib.hid hgs9
      clear hr9 ho9 hkeep hext hsz9 hbv hw7 hw8 hwm hm0 hw9 hwp hw10 b7 b8 bm b9 bp b10 z7 z8 z9 z10 hsz8 hszs u8 u10 hm9 ho9' x910 hgs10 hm10 hps10 hhh hss hgs9 hgl hq0
      simp only [St.made, List.length_replicate] at e1 e2 e3 e4
      go_upto_region 11 with (first | (at_builtin; refine wpList_append_run rfl _ _ 24 rfl _ _ (by go_simp) (by go_simp) HR9.out ?_) | rw [HW7.out] | rw [HW8.out] | rw [HWM.out, HM0.out] | rw [HW9.out] | rw [HW10.out])
      have hkk0 := HFK.out
      have hq1 : q0 < q0 + 1 := Nat.lt_succ_self _
      have hqz := HSQ.out
      clear e1 e2 e3 e4 f1 f2 f3 f4 hmk
      refine region_rgz ([(2, (fun u => ∃ b, u = .slice (some ⟨b, 0, none⟩) 8 8 : Value → Prop), (fun u w => OwnInts w (q0 + 1) (u 2).v [1, 2, 3, 4, 5, 6, 7, 8] : (Nat → GV) → World → Prop)), (3, (fun u => u = .agg #[.int .i64 1, .int .i64 2, .int .i64 3, .int .i64 4, .int .i64 5, .int .i64 6, .int .i64 7, .int .i64 8, .int .i64 0, .int .i64 8] : Value → Prop), (fun _ _ => True : (Nat → GV) → World → Prop)), (6, (fun u => u = undef : Value → Prop), (fun u w => OwnRows 40 13 pL w q0 (.slice (some ⟨q0, 0, none⟩) 8 8) (p1 :: List.replicate 7 nilPr) : (Nat → GV) → World → Prop))]) (wa) (q0 + 1) (q0) (6) (FK B1 q0 g0 m0 c9 A9 gs9 hh ss) ([]) (by kernel_rfl) (by kernel_rfl) ?_ ?_ (by omega) (fun w w2 hl hk => by first | (obtain ⟨x, hx⟩ := hk; exact ⟨x, (hl _ (by omega)).trans hx⟩) | exact hk.low hl (by assumption)) ?_ ?_ ?_ ?_
      · exact List.forall_mem_nil _
      · exact List.forall_mem_cons.2 ⟨⟨⟨_, 0, rfl⟩, fun u v w h ht => by show (fun u w => OwnInts w (q0 + 1) (u 2).v [1, 2, 3, 4, 5, 6, 7, 8] : (Nat → GV) → World → Prop) v w; dsimp only; rw [← h 2 (.inl rfl) (by kernel_rfl)]; exact ht, fun u w w2 hx ht => OwnInts.ext ht hx, List.forall_mem_nil _, fun _ u w w2 hz ht => OwnInts.updB ht hz (Nat.lt_succ_self _)⟩, List.forall_mem_cons.2 ⟨⟨⟨_, rfl⟩, fun _ _ _ _ _ => trivial, fun _ _ _ _ _ => trivial, List.forall_mem_nil _, fun _ _ _ _ _ _ => trivial⟩, List.forall_mem_cons.2 ⟨⟨⟨_, rfl⟩, fun _ _ _ _ ht => ht, fun u w w2 hx ht => OwnRows.ext ht hx, List.forall_mem_nil _, fun hne => absurd rfl hne⟩, List.forall_mem_nil _⟩⟩⟩
      · first | assumption | exact Ext.refl _
      · first | assumption | omega
      · assumption
      refine rg_pure (v := ?_) rfl (by kernel_rfl) (by kernel_rfl) (fun w hS hN => ?_) ?_
      rotate_left 1
      · obtain ⟨hS, hM, hK⟩ := hS
        clear hN
        go_simp
        refine givesP_mk ?_
        with_reducible rfl
      refine rg_pure (v := ?_) rfl (by kernel_rfl) (by kernel_rfl) (fun w hS hN => ?_) ?_
      rotate_left 1
      · obtain ⟨hS, hM, hK⟩ := hS
        have k2 : w.cell? ⟨B1, 2, none⟩ = some (.slice (some ⟨q0, 0, none⟩) 8 8) := by (have := st2 hK.box; rw [← HSS.out, ← HHH.out] at this; exact this)
        clear hN
        go_simp
        refine givesP_mk ?_
        with_reducible rfl
      refine rg_mem (fun u => ∃ b, u = .slice (some ⟨b, 0, none⟩) 8 8 : Value → Prop) (fun u w => OwnInts w (q0 + 1) (u 2).v [1, 2, 3, 4, 5, 6, 7, 8] : (Nat → GV) → World → Prop) (fun _ => Ext) rfl rfl rfl rfl (by kernel_rfl) (by kernel_rfl) (fun w hS hN R hR => ?_) ?_
      · obtain ⟨hS, hM, hK⟩ := hS
        have HR := Lib.hid hR
        clear hR
        (try clear hN)
        go_simp
        exact givesM_val (HR.out _ _ ⟨_, rfl⟩ (OwnInts.lower (own_eight w) hM) ((Ext.refl w).alloc _))
      rintro u2 s2 t2 ⟨b2, rfl⟩
      refine rg_mem (fun u => u = .agg #[.int .i64 1, .int .i64 2, .int .i64 3, .int .i64 4, .int .i64 5, .int .i64 6, .int .i64 7, .int .i64 8, .int .i64 0, .int .i64 8] : Value → Prop) (fun _ _ => True : (Nat → GV) → World → Prop) (fun _ => Ext) rfl rfl rfl rfl (by kernel_rfl) (by kernel_rfl) (fun w hS hN R hR => ?_) ?_
      · obtain ⟨hS, hM, hK⟩ := hS
        have HR := Lib.hid hR
        clear hR
        have h2 : OwnInts w (q0 + 1) (.slice (some ⟨b2, 0, none⟩) 8 8) [1, 2, 3, 4, 5, 6, 7, 8] := hN.get 2 rfl (by kernel_rfl)
        (try clear hN)
        go_simp
        refine givesM_call ((rat_any _ 0 [1, 2, 3, 4, 5, 6, 7, 8] 0 rfl (by decide) w h2.at.2 (by decide)).mono ?_)
        rintro e w' ⟨rfl, hx⟩
        exact ⟨_, rfl, HR.out _ _ (by rw [full_at]; rfl) trivial hx⟩
      rintro u3 s3 t3 rfl
      refine rg_pure (v := ?_) rfl (by kernel_rfl) (by kernel_rfl) (fun w hS hN => ?_) ?_
      rotate_left 1
      · obtain ⟨hS, hM, hK⟩ := hS
        clear hN
        go_simp
        refine givesP_mk ?_
        with_reducible rfl
      refine rg_pure (v := ?_) rfl (by kernel_rfl) (by kernel_rfl) (fun w hS hN => ?_) ?_
      rotate_left 1
      · obtain ⟨hS, hM, hK⟩ := hS
        clear hN
        go_simp
        refine givesP_mk ?_
        with_reducible rfl
      refine rg_mem (fun u => u = undef : Value → Prop) (fun u w => OwnRows 40 13 pL w q0 (.slice (some ⟨q0, 0, none⟩) 8 8) (p1 :: List.replicate 7 nilPr) : (Nat → GV) → World → Prop) (fun _ w w2 => Upd (q0) w w2 ∧ (FK B1 q0 g0 m0 c9 A9 gs9 hh ss : World → Prop) w2) rfl rfl rfl rfl (by kernel_rfl) (by kernel_rfl) (fun w hS hN R hR => ?_) ?_
      · obtain ⟨hS, hM, hK⟩ := hS
        have HR := Lib.hid hR
        clear hR
        obtain ⟨x, ho⟩ := hK.ps
        obtain ⟨g', c', e1, _, _, _, hth, hown', hu⟩ := OwnRows.setCells pL_len ho (i := 0) (x := x) (x' := p1) rfl (j := 0) (ds := pL p1) (by rw [pL_len]; decide) (fun t ht => by rw [if_pos (by rw [pL_len]; omega)]; rfl)
        simp only [Value.slice.injEq, Option.some.injEq, Addr.mk.injEq, and_true] at e1
        have e2 := e1.1
        clear e1
        subst e2
        clear hN
        refine givesM_store 40 _ _ rfl q0 0 (by go_simp) (pL p1) (by go_simp; rfl) hth (by kernel_rfl) (pL_one _) ?_
        exact HR.out _ _ rfl hown' ⟨hu, ⟨(hu.block B1 (blk_lt hK.box) (fun e => by injection e; have := hK.lt; omega)).trans hK.box, ⟨p1, hown'⟩, hK.gs.but (But.upd (S := fun b => b = q0) hu rfl) (fun b hb e => by have := hK.un b hb; omega), (hu.block m0 (blk_lt hK.ms) (fun e => by injection e; have := hK.lt; omega)).trans hK.ms, hK.lt, hK.un⟩⟩
      rintro u6 s6 t6 rfl
      refine rg_done rfl (Nat.le_of_ble_eq_true (by kernel_rfl)) ?_
      intro w11 hS hT
      have hP : OwnRows 40 13 pL w11 q0 (.slice (some ⟨q0, 0, none⟩) 8 8) (p1 :: List.replicate 7 nilPr) := hT (6, ⟨undef, s6, t6⟩) (by simp)
      have hK := hS.2.2
      have hSF : stC hh ss = stC hh fullS := by rw [← HSS.out, ← HGS9.out]; rfl
      have HBF : Hid (w11.heap[B1]? = some (.cells (stC hh fullS) 32 (0, 0))) := Lib.hid (hSF ▸ hK.box)
      have hx11 : Ext w2 w11 := HXA.out.trans hS.1
      have hr11 := hx11.blk HR2.out
      obtain ⟨wf, hwf⟩ : ∃ wf, w11.setCells R 0 (stL hh fullS) = wf := ⟨_, rfl⟩
      have hu : Upd R w11 wf := by rw [← hwf]; exact setCells_upd _ _ _ _
      have HTR : Hid (w11.there R 0 (stL hh fullS).length) := Lib.hid (there_row hr11 (Nat.le_refl 16))
      have HRZ : Hid (wf.heap[R]? = some (.cells (stL hh fullS).toArray 32 (0, 0))) := Lib.hid (by rw [← hwf]; exact setCells_at [.slice none 0 0, .slice none 0 0, .slice none 0 0, .slice none 0 0, .slice none 0 0, .int .i64 0, .int .i64 0, .int .i64 0, .int .i64 0, .slice none 0 0, .slice none 0 0, .slice none 0 0, .slice none 0 0, .slice none 0 0, .int .i64 0, .int .i64 0] (stL hh fullS) rfl hr11)
      have HXF : Hid (Ext w wf) := Lib.hid ((HX2.out.trans hx11).upd hu (by have := HRR.out; omega))
      have hsz : R < w2.heap.size := blk_lt HR2.out
      have hwa := HXA.out.size
      have HOKF : Hid (StOk wf hh fullS) := Lib.hid (by
        have hlt := HSQ.out
        have hrl := HRL.out
        have hpa := HPA.out
        have hh1 := HHH.out
        refine ⟨?_, ?_, ?_, ?_, ⟨_, _, rfl, fun h => absurd h (by decide)⟩, ⟨_, _, rfl, fun h => absurd h (by decide)⟩, ⟨_, _, rfl, fun h => absurd h (by decide)⟩, ⟨_, _, rfl, fun h => absurd h (by decide)⟩, ⟨_, _, rfl, fun h => absurd h (by decide)⟩, ?_, by decide +kernel⟩
        · have : NestAt 2 pairL wf (.slice (some ⟨w1.heap.size, 0, none⟩) 1 1) [[(0, 0)]] := KEY.out wf (hu.blk (hx11.blk HBI.out) (by omega)) (hu.blk (hx11.blk HBP.out) (by omega))
          rw [hpa] at this
          rw [← hh1]
          exact this
        · have := OwnRows.rows gL_len (hK.gs.but (But.upd (S := fun b => b = R) hu rfl) (fun b hb e => by have := (hK.gs.lt b hb).1; omega))
          rw [← HGS9.out] at this
          rw [← hh1]
          exact this
        · have := OwnRows.rows pL_len (hP.but (But.upd (S := fun b => b = R) hu rfl) (fun b hb e => by have := (hP.lt b hb).1; omega))
          rw [← hh1]
          exact this
        · have hm := hu.blk hK.ms (by omega)
          rw [← hh1]
          exact ⟨_, _, rfl, Nat.le_refl 1, fun _ => ⟨m0, 0, rfl, blk_lt hm, fun j y hj i u hu => by
            match j with
            | 0 =>
              simp [fullS] at hj; subst hj
              simp only [Nat.zero_mul, Nat.zero_add]
              refine blk_cell hm _ _ ?_
              match i with
              | 0 | 1 => simp [pairL] at hu; subst hu; rfl
              | i + 2 => simp [pairL] at hu
            | j + 1 => simp [fullS] at hj⟩⟩
        · exact PairsAt.none _ _ _)
      have HWF := Lib.hid hwf
      clear hS hT hP hK hSF hx11 hr11 hwf hu hsz hwa hkk0 hq1 hqz
      go_wp2_with (first | (refine wpList_load_rowW (by rfl) 32 _ rfl B1 (by go_simp) (stL hh fullS) (stV hh fullS) rfl _ (range_row HBF.out) Try.underlying32 rfl (by kernel_rfl) ?_) | (refine wpList_store_row rfl 32 _ _ rfl R (stL hh fullS) (stV hh fullS) (by go_simp) (by go_simp) rfl HTR.out (by kernel_rfl) (stL_one _ _) HWF.out ?_))
      refine bodyPost_ret (v := .agg (stL hh fullS).toArray) (results_cell_row rfl _ _ R _ _ _ _ rfl HRZ.out Try.underlying32 rfl (by kernel_rfl)) rfl ?_
      exact ⟨hh, rfl, HOKF.out, HXF.out⟩
end Go.Proofs.Ytogcfndhcphpaaa
