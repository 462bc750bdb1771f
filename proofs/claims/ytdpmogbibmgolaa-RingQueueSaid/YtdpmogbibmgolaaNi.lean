/-
  The contract of ring.Half.
-/
import Derived.Test.YtdpmogbibmgolaaNh
set_option linter.unusedVariables false
set_option linter.unusedSimpArgs false
namespace Go.Proofs.Ytdpmogbibmgolaa
open Go.RowKit
def Ri.takes : Nat → Ri → List Int → Ri × List Int
  | 0, r, o => (r, o)
  | k + 1, r, o => Ri.takes k r.pop.1 (o ++ [r.pop.2.1])
def Ri.half (r : Ri) : Ri × List Int := if r.may then Ri.takes ((r.n.toNat + 1) / 2) r [] else (Ri.zero, [])
set_option maxRecDepth 100000 in
set_option maxHeartbeats 1000000 in
theorem rhalf_no (b0 b1 b2 b3 b4 b5 b6 b7 hd nn : Int) (hm : Ri.may ⟨[b0, b1, b2, b3, b4, b5, b6, b7], hd, nn⟩ = false) (w : World) :
    Calls Try.prog 15 #[.agg #[.int .i64 b0, .int .i64 b1, .int .i64 b2, .int .i64 b3, .int .i64 b4, .int .i64 b5, .int .i64 b6, .int .i64 b7, .int .i64 hd, .int .i64 nn]] w fun e w' => e = .returned (.tuple #[.agg #[.int .i64 0, .int .i64 0, .int .i64 0, .int .i64 0, .int .i64 0, .int .i64 0, .int .i64 0, .int .i64 0, .int .i64 0, .int .i64 0], .slice none 0 0]) ∧ Ext w w' := by
  have HM := Lib.hid hm
  clear hm
  go_enter Try.func15, Try.ntmps15
  go_wp2_with fail
  refine (rmay_eq b0 b1 b2 b3 b4 b5 b6 b7 hd nn _ HM.out _).mono ?_
  rintro r w1 ⟨rfl, hx1⟩
  have HX := Lib.hid ((((Ext.refl w).alloc (.cells #[.int .i64 b0, .int .i64 b1, .int .i64 b2, .int .i64 b3, .int .i64 b4, .int .i64 b5, .int .i64 b6, .int .i64 b7, .int .i64 hd, .int .i64 nn] 24)).alloc (.cells #[.int .i64 0, .int .i64 0, .int .i64 0, .int .i64 0, .int .i64 0, .int .i64 0, .int .i64 0, .int .i64 0, .int .i64 0, .int .i64 0] 24)).trans hx1)
  have HZB : Hid (w1.heap[w.heap.size + 1]? = some (.cells #[.int .i64 0, .int .i64 0, .int .i64 0, .int .i64 0, .int .i64 0, .int .i64 0, .int .i64 0, .int .i64 0, .int .i64 0, .int .i64 0] 24 (0, 0))) := Lib.hid (hx1.blk (by have := blk_new (w.alloc (.cells #[.int .i64 b0, .int .i64 b1, .int .i64 b2, .int .i64 b3, .int .i64 b4, .int .i64 b5, .int .i64 b6, .int .i64 b7, .int .i64 hd, .int .i64 nn] 24)) (.cells #[.int .i64 0, .int .i64 0, .int .i64 0, .int .i64 0, .int .i64 0, .int .i64 0, .int .i64 0, .int .i64 0, .int .i64 0, .int .i64 0] 24); rwa [World.size_alloc] at this))
  clear hx1
  obtain ⟨⟨z0, z1, z2, z3, z4⟩, z5, z6, z7, z8, z9⟩ := cells10 HZB.out
  obtain ⟨⟨y0, y1, y2, y3, y4⟩, y5, y6, y7, y8, y9⟩ := frozen10 HZB.out
  go_wp2
  have hzz := set10_at HZB.out (.int .i64 0) (.int .i64 0) (.int .i64 0) (.int .i64 0) (.int .i64 0) (.int .i64 0) (.int .i64 0) (.int .i64 0) (.int .i64 0) (.int .i64 0)
  clear z0 z1 z2 z3 z4 z5 z6 z7 z8 z9 y0 y1 y2 y3 y4 y5 y6 y7 y8 y9
  obtain ⟨⟨t0, t1, t2, t3, t4⟩, t5, t6, t7, t8, t9⟩ := cells10 hzz
  refine bodyPost_ret (v := .tuple #[.agg #[.int .i64 0, .int .i64 0, .int .i64 0, .int .i64 0, .int .i64 0, .int .i64 0, .int .i64 0, .int .i64 0, .int .i64 0, .int .i64 0], .slice none 0 0]) (by simp [results, Try.results15, go_sem, t0, t1, t2, t3, t4, t5, t6, t7, t8, t9]) rfl ⟨rfl, ?_⟩
  exact set10_ext HX.out (by omega) _ _ _ _ _ _ _ _ _ _
theorem upd10 (g : Nat) (w5 : World) (d0 d1 d2 d3 d4 d5 d6 d7 d8 d9 : Value) : Upd g w5 ((((((((((w5.setCell ⟨g, 0, none⟩ d0).setCell ⟨g, 1, none⟩ d1).setCell ⟨g, 2, none⟩ d2).setCell ⟨g, 3, none⟩ d3).setCell ⟨g, 4, none⟩ d4).setCell ⟨g, 5, none⟩ d5).setCell ⟨g, 6, none⟩ d6).setCell ⟨g, 7, none⟩ d7).setCell ⟨g, 8, none⟩ d8).setCell ⟨g, 9, none⟩ d9) :=
  ((((((((((Upd.refl g w5).set 0 d0).set 1 d1).set 2 d2).set 3 d3).set 4 d4).set 5 d5).set 6 d6).set 7 d7).set 8 d8).set 9 d9
set_option maxRecDepth 100000 in
set_option maxHeartbeats 6000000 in
theorem rhalf_in (b0 b1 b2 b3 b4 b5 b6 b7 : Int) (hd nn : Nat) (hhd : hd < 8) (hnn : nn ≤ 8) (hm : Ri.may ⟨[b0, b1, b2, b3, b4, b5, b6, b7], hd, nn⟩ = true) (e0 e1 e2 e3 e4 e5 e6 e7 eh en : Int) (o : List Int) (h : Ri.takes ((nn + 1) / 2) ⟨[b0, b1, b2, b3, b4, b5, b6, b7], hd, nn⟩ [] = (⟨[e0, e1, e2, e3, e4, e5, e6, e7], eh, en⟩, o)) (w : World) :
    Calls Try.prog 15 #[.agg #[.int .i64 b0, .int .i64 b1, .int .i64 b2, .int .i64 b3, .int .i64 b4, .int .i64 b5, .int .i64 b6, .int .i64 b7, .int .i64 (hd : Int), .int .i64 (nn : Int)]] w fun e w' => ∃ A c, e = .returned (.tuple #[.agg #[.int .i64 e0, .int .i64 e1, .int .i64 e2, .int .i64 e3, .int .i64 e4, .int .i64 e5, .int .i64 e6, .int .i64 e7, .int .i64 eh, .int .i64 en], .slice A o.length c]) ∧ IntsAt w' (.slice A o.length c) o ∧ Ext w w' := by
  have HM := Lib.hid hm
  have H := Lib.hid h
  clear hm h
  have f1 : IntKind.i64.wrap ((nn : Int) + 1) = ((nn + 1 : Nat) : Int) := IntWalk.i64_in _ (by omega)
  have f2 : ((nn + 1 : Nat) : Int).tdiv 2 = (((nn + 1) / 2 : Nat) : Int) := by rw [Int.tdiv_eq_ediv_of_nonneg (by omega)]; omega
  have f3 : IntKind.i64.wrap (((nn + 1) / 2 : Nat) : Int) = (((nn + 1) / 2 : Nat) : Int) := IntWalk.i64_in _ (by omega)
  go_enter Try.func15, Try.ntmps15
  go_wp2_with fail
  refine (rmay_eq b0 b1 b2 b3 b4 b5 b6 b7 hd nn _ HM.out _).mono ?_
  rintro r w1 ⟨rfl, hx1⟩
  have HX := Lib.hid ((((Ext.refl w).alloc (.cells #[.int .i64 b0, .int .i64 b1, .int .i64 b2, .int .i64 b3, .int .i64 b4, .int .i64 b5, .int .i64 b6, .int .i64 b7, .int .i64 (hd : Int), .int .i64 (nn : Int)] 24)).alloc (.cells #[.int .i64 0, .int .i64 0, .int .i64 0, .int .i64 0, .int .i64 0, .int .i64 0, .int .i64 0, .int .i64 0, .int .i64 0, .int .i64 0] 24)).trans hx1)
  have HB := Lib.hid (hx1.blk (blk_alloc (blk_new w (.cells #[.int .i64 b0, .int .i64 b1, .int .i64 b2, .int .i64 b3, .int .i64 b4, .int .i64 b5, .int .i64 b6, .int .i64 b7, .int .i64 (hd : Int), .int .i64 (nn : Int)] 24)) (.cells #[.int .i64 0, .int .i64 0, .int .i64 0, .int .i64 0, .int .i64 0, .int .i64 0, .int .i64 0, .int .i64 0, .int .i64 0, .int .i64 0] 24)))
  have HZ : Hid (w1.heap[w.heap.size + 1]? = some (.cells #[.int .i64 0, .int .i64 0, .int .i64 0, .int .i64 0, .int .i64 0, .int .i64 0, .int .i64 0, .int .i64 0, .int .i64 0, .int .i64 0] 24 (0, 0))) := Lib.hid (hx1.blk (by have := blk_new (w.alloc (.cells #[.int .i64 b0, .int .i64 b1, .int .i64 b2, .int .i64 b3, .int .i64 b4, .int .i64 b5, .int .i64 b6, .int .i64 b7, .int .i64 (hd : Int), .int .i64 (nn : Int)] 24)) (.cells #[.int .i64 0, .int .i64 0, .int .i64 0, .int .i64 0, .int .i64 0, .int .i64 0, .int .i64 0, .int .i64 0, .int .i64 0, .int .i64 0] 24); rwa [World.size_alloc] at this))
  have hsz := hx1.size
  rw [World.size_alloc, World.size_alloc] at hsz
  have p9 := blk_cell HB.out 9 (.int .i64 (nn : Int)) rfl
  clear hx1
  generalize hK : (nn + 1) / 2 = K at *
  go_wp2
  clear p9 f1 f2 f3
  have hK4 : K ≤ 4 := by omega
  go_loopw [4, 16] (fun ov iv wr => ∃ (u : Value) (j : Nat) (c0 c1 c2 c3 c4 c5 c6 c7 ch cn : Int) (l : List Int), u = ov ∧ j ≤ K ∧ iv = .int .i64 j ∧ l.length = j ∧ Ri.takes K ⟨[b0, b1, b2, b3, b4, b5, b6, b7], hd, nn⟩ [] = Ri.takes (K - j) ⟨[c0, c1, c2, c3, c4, c5, c6, c7], ch, cn⟩ l ∧ OwnInts wr (w.heap.size + 2) u l ∧ wr.heap[(w.heap.size + 1)]? = some (.cells #[.int .i64 0, .int .i64 0, .int .i64 0, .int .i64 0, .int .i64 0, .int .i64 0, .int .i64 0, .int .i64 0, .int .i64 0, .int .i64 0] 24 (0, 0)) ∧ wr.heap[w.heap.size]? = some (.cells #[.int .i64 c0, .int .i64 c1, .int .i64 c2, .int .i64 c3, .int .i64 c4, .int .i64 c5, .int .i64 c6, .int .i64 c7, .int .i64 ch, .int .i64 cn] 24 (0, 0)) ∧ Ext w wr ∧ w.heap.size + 2 ≤ wr.heap.size) (fun _ iv _ => K - (intOf iv).toNat)
  case atStart => exact ⟨_, 0, b0, b1, b2, b3, b4, b5, b6, b7, hd, nn, [], rfl, by omega, rfl, rfl, rfl, OwnInts.nil _ _, HZ.out, HB.out, HX.out, hsz⟩
  case round =>
    obtain ⟨u, j, c0, c1, c2, c3, c4, c5, c6, c7, ch, cn, l, hu, hj, rfl, hll, hs, hown, hb1, hb0, hx, hsz⟩ := hrel
    subst hu
    have HS := Lib.hid hs
    have HOWN := Lib.hid hown
    have HLL := Lib.hid hll
    have HZB := Lib.hid hb1
    have HB0 := Lib.hid hb0
    have HX := Lib.hid hx
    obtain ⟨A0, a0, rfl⟩ := OwnInts.form HOWN.out
    clear hs hown hb0 hb1 hx hll
    by_cases hlt : j < K
    · obtain ⟨d0, d1, d2, d3, d4, d5, d6, d7, hds⟩ := list8 (Ri.pop_len (r := ⟨[c0, c1, c2, c3, c4, c5, c6, c7], ch, cn⟩) rfl)
      rcases hp : Ri.pop ⟨[c0, c1, c2, c3, c4, c5, c6, c7], ch, cn⟩ with ⟨⟨ds, dh, dn⟩, x, k⟩
      rw [hp] at hds
      simp only at hds
      subst hds
      have HP := Lib.hid hp
      have hofs := HS.out
      rw [show K - j = (K - (j + 1)) + 1 by omega] at hofs
      simp only [Ri.takes, hp] at hofs
      have HO := Lib.hid hofs
      clear hp hofs HS
      obtain ⟨⟨q0, q1, q2, q3, q4⟩, q5, q6, q7, q8, q9⟩ := cells10 HB0.out
      go_wp2_with fail
      refine (rpop_k c0 c1 c2 c3 c4 c5 c6 c7 ch cn d0 d1 d2 d3 d4 d5 d6 d7 dh dn x k HP.out _).mono ?_
      rintro r wq ⟨rfl, hx5⟩
      clear q0 q1 q2 q3 q4 q5 q6 q7 q8 q9
      have hsz5 := hx5.size
      have HX5 : Hid (Ext w (wq.alloc (.cells #[.int .i64 d0, .int .i64 d1, .int .i64 d2, .int .i64 d3, .int .i64 d4, .int .i64 d5, .int .i64 d6, .int .i64 d7, .int .i64 dh, .int .i64 dn] 24))) := Lib.hid ((HX.out.trans hx5).alloc _)
      have HZ5 : Hid ((wq.alloc (.cells #[.int .i64 d0, .int .i64 d1, .int .i64 d2, .int .i64 d3, .int .i64 d4, .int .i64 d5, .int .i64 d6, .int .i64 d7, .int .i64 dh, .int .i64 dn] 24)).heap[(w.heap.size + 1)]? = some (.cells #[.int .i64 0, .int .i64 0, .int .i64 0, .int .i64 0, .int .i64 0, .int .i64 0, .int .i64 0, .int .i64 0, .int .i64 0, .int .i64 0] 24 (0, 0))) := Lib.hid (blk_alloc (hx5.blk HZB.out) _)
      have HB5 : Hid ((wq.alloc (.cells #[.int .i64 d0, .int .i64 d1, .int .i64 d2, .int .i64 d3, .int .i64 d4, .int .i64 d5, .int .i64 d6, .int .i64 d7, .int .i64 dh, .int .i64 dn] 24)).heap[w.heap.size]? = some (.cells #[.int .i64 c0, .int .i64 c1, .int .i64 c2, .int .i64 c3, .int .i64 c4, .int .i64 c5, .int .i64 c6, .int .i64 c7, .int .i64 ch, .int .i64 cn] 24 (0, 0))) := Lib.hid (blk_alloc (hx5.blk HB0.out) _)
      have HN5 : Hid ((wq.alloc (.cells #[.int .i64 d0, .int .i64 d1, .int .i64 d2, .int .i64 d3, .int .i64 d4, .int .i64 d5, .int .i64 d6, .int .i64 d7, .int .i64 dh, .int .i64 dn] 24)).heap[wq.heap.size]? = some (.cells #[.int .i64 d0, .int .i64 d1, .int .i64 d2, .int .i64 d3, .int .i64 d4, .int .i64 d5, .int .i64 d6, .int .i64 d7, .int .i64 dh, .int .i64 dn] 24 (0, 0))) := Lib.hid (blk_new _ _)
      have HO5 : Hid (OwnInts (wq.alloc (.cells #[.int .i64 d0, .int .i64 d1, .int .i64 d2, .int .i64 d3, .int .i64 d4, .int .i64 d5, .int .i64 d6, .int .i64 d7, .int .i64 dh, .int .i64 dn] 24)) (w.heap.size + 2) (.slice A0 l.length a0) l) := Lib.hid ((HOWN.out.ext hx5).alloc _)
      have hs5 : w.heap.size + 2 ≤ (wq.alloc (.cells #[.int .i64 d0, .int .i64 d1, .int .i64 d2, .int .i64 d3, .int .i64 d4, .int .i64 d5, .int .i64 d6, .int .i64 d7, .int .i64 dh, .int .i64 dn] 24)).heap.size := by rw [World.size_alloc]; omega
      clear hx5 HZB HB0 HX HOWN hsz5
      generalize hw5 : wq.alloc (.cells #[.int .i64 d0, .int .i64 d1, .int .i64 d2, .int .i64 d3, .int .i64 d4, .int .i64 d5, .int .i64 d6, .int .i64 d7, .int .i64 dh, .int .i64 dn] 24) = w5 at *
      have HU := Lib.hid (upd10 w.heap.size w5 (.int .i64 d0) (.int .i64 d1) (.int .i64 d2) (.int .i64 d3) (.int .i64 d4) (.int .i64 d5) (.int .i64 d6) (.int .i64 d7) (.int .i64 dh) (.int .i64 dn))
      have HB7 := Lib.hid (set10_at HB5.out (.int .i64 d0) (.int .i64 d1) (.int .i64 d2) (.int .i64 d3) (.int .i64 d4) (.int .i64 d5) (.int .i64 d6) (.int .i64 d7) (.int .i64 dh) (.int .i64 dn))
      have HX7 := Lib.hid (set10_ext HX5.out (Nat.le_refl _) (.int .i64 d0) (.int .i64 d1) (.int .i64 d2) (.int .i64 d3) (.int .i64 d4) (.int .i64 d5) (.int .i64 d6) (.int .i64 d7) (.int .i64 dh) (.int .i64 dn))
      have HZB := HB5
      obtain ⟨⟨z0, z1, z2, z3, z4⟩, z5, z6, z7, z8, z9⟩ := cells10 HZB.out
      obtain ⟨⟨y0, y1, y2, y3, y4⟩, y5, y6, y7, y8, y9⟩ := frozen10 HZB.out
      obtain ⟨⟨q0, q1, q2, q3, q4⟩, q5, q6, q7, q8, q9⟩ := cells10 HN5.out
      go_upto_region 8 with fail
      generalize hw7 : ((((((((((w5.setCell ⟨w.heap.size, 0, none⟩ (.int .i64 d0)).setCell ⟨w.heap.size, 1, none⟩ (.int .i64 d1)).setCell ⟨w.heap.size, 2, none⟩ (.int .i64 d2)).setCell ⟨w.heap.size, 3, none⟩ (.int .i64 d3)).setCell ⟨w.heap.size, 4, none⟩ (.int .i64 d4)).setCell ⟨w.heap.size, 5, none⟩ (.int .i64 d5)).setCell ⟨w.heap.size, 6, none⟩ (.int .i64 d6)).setCell ⟨w.heap.size, 7, none⟩ (.int .i64 d7)).setCell ⟨w.heap.size, 8, none⟩ (.int .i64 dh)).setCell ⟨w.heap.size, 9, none⟩ (.int .i64 dn)) = w7 at *
      have HZ7 : Hid (w7.heap[(w.heap.size + 1)]? = some (.cells #[.int .i64 0, .int .i64 0, .int .i64 0, .int .i64 0, .int .i64 0, .int .i64 0, .int .i64 0, .int .i64 0, .int .i64 0, .int .i64 0] 24 (0, 0))) := Lib.hid (HU.out.blk HZ5.out (by omega))
      have HO7 : Hid (OwnInts w7 (w.heap.size + 2) (.slice A0 l.length a0) l) := Lib.hid (OwnInts.kept HO5.out HU.out (by omega))
      have hs7 := HU.out.sz
      clear z0 z1 z2 z3 z4 z5 z6 z7 z8 z9 y0 y1 y2 y3 y4 y5 y6 y7 y8 y9
      clear q0 q1 q2 q3 q4 q5 q6 q7 q8 q9
      clear hw7 hw5 HZB HB5 HZ5 HN5 HO5 HX5
      obtain ⟨u, w8, hr8, ho8, hg8⟩ := OwnInts.appendS 25 (OwnInts.alloc HO7.out (.cells #[.int .i64 x] 3)) (m := [x]) (ints_one w7 x) (by have := HLL.out; simp; omega) (by simp; omega)
      simp only [List.length_singleton] at hr8
      have HR8 := Lib.hid hr8
      have hub : ∀ k, (Value.slice A0 l.length a0).ownBlock = some k → w.heap.size + 2 ≤ k := fun k hk => (World.ownsRow.lt HO7.out k hk).1
      have hX8 := Below.grown (HX7.out.alloc (.cells #[.int .i64 x] 3)) hg8 (by rw [World.size_alloc]; omega) (fun k hk => by have := hub k hk; omega)
      have hz8 : w8.heap[(w.heap.size + 1)]? = some (.cells #[.int .i64 0, .int .i64 0, .int .i64 0, .int .i64 0, .int .i64 0, .int .i64 0, .int .i64 0, .int .i64 0, .int .i64 0, .int .i64 0] 24 (0, 0)) := (hg8.block (w.heap.size + 1) (by rw [World.size_alloc]; omega) (fun hk => by have := hub _ hk.symm; omega)).trans (blk_alloc HZ7.out _)
      have hb8 : w8.heap[w.heap.size]? = some (.cells #[.int .i64 d0, .int .i64 d1, .int .i64 d2, .int .i64 d3, .int .i64 d4, .int .i64 d5, .int .i64 d6, .int .i64 d7, .int .i64 dh, .int .i64 dn] 24 (0, 0)) := (hg8.block w.heap.size (by rw [World.size_alloc]; omega) (fun hk => by have := hub _ hk.symm; omega)).trans (blk_alloc HB7.out _)
      have hs8 := hg8.size
      rw [World.size_alloc] at hs8
      have HEND : Hid (OwnInts w8 (w.heap.size + 2) u (l ++ [x]) ∧ w8.heap[(w.heap.size + 1)]? = some (.cells #[.int .i64 0, .int .i64 0, .int .i64 0, .int .i64 0, .int .i64 0, .int .i64 0, .int .i64 0, .int .i64 0, .int .i64 0, .int .i64 0] 24 (0, 0)) ∧ w8.heap[w.heap.size]? = some (.cells #[.int .i64 d0, .int .i64 d1, .int .i64 d2, .int .i64 d3, .int .i64 d4, .int .i64 d5, .int .i64 d6, .int .i64 d7, .int .i64 dh, .int .i64 dn] 24 (0, 0)) ∧ Ext w w8 ∧ w.heap.size + 2 ≤ w8.heap.size) := Lib.hid ⟨ho8, hz8, hb8, hX8, by omega⟩
      clear hr8 ho8 hg8 hub hX8 hz8 hb8 HU HB7 HX7 HZ7
      go_wp2_with (at_builtin; refine wpList_append_run rfl _ _ 25 rfl _ _ rfl rfl HR8.out ?_)
      go_roundw
      case rel => exact ⟨u, j + 1, d0, d1, d2, d3, d4, d5, d6, d7, dh, dn, l ++ [x], rfl, by omega, by go_num, by simp [HLL.out], HO.out, HEND.out⟩
      case measure => simp [intOf]; omega
    · obtain rfl : j = K := by omega
      have hofs := H.out.symm.trans HS.out
      rw [Nat.sub_self] at hofs
      simp only [Ri.takes, Prod.mk.injEq, Ri.mk.injEq, List.cons.injEq, and_true] at hofs
      obtain ⟨⟨⟨rfl, rfl, rfl, rfl, rfl, rfl, rfl, rfl⟩, rfl, rfl⟩, rfl⟩ := hofs
      obtain ⟨⟨z0, z1, z2, z3, z4⟩, z5, z6, z7, z8, z9⟩ := cells10 HZB.out
      obtain ⟨⟨y0, y1, y2, y3, y4⟩, y5, y6, y7, y8, y9⟩ := frozen10 HZB.out
      obtain ⟨⟨q0, q1, q2, q3, q4⟩, q5, q6, q7, q8, q9⟩ := cells10 HB0.out
      go_wp2
      have hzz := set10_at HZB.out (.int .i64 e0) (.int .i64 e1) (.int .i64 e2) (.int .i64 e3) (.int .i64 e4) (.int .i64 e5) (.int .i64 e6) (.int .i64 e7) (.int .i64 eh) (.int .i64 en)
      have HO9 := OwnInts.kept HOWN.out (upd10 (w.heap.size + 1) wr (.int .i64 e0) (.int .i64 e1) (.int .i64 e2) (.int .i64 e3) (.int .i64 e4) (.int .i64 e5) (.int .i64 e6) (.int .i64 e7) (.int .i64 eh) (.int .i64 en)) (by omega)
      obtain ⟨A9, a9, h9, h9'⟩ := HO9.ints
      simp only [Value.slice.injEq, true_and] at h9
      obtain ⟨rfl, rfl⟩ := h9
      clear z0 z1 z2 z3 z4 z5 z6 z7 z8 z9 y0 y1 y2 y3 y4 y5 y6 y7 y8 y9
      clear q0 q1 q2 q3 q4 q5 q6 q7 q8 q9
      obtain ⟨⟨t0, t1, t2, t3, t4⟩, t5, t6, t7, t8, t9⟩ := cells10 hzz
      refine bodyPost_ret (v := .tuple #[.agg #[.int .i64 e0, .int .i64 e1, .int .i64 e2, .int .i64 e3, .int .i64 e4, .int .i64 e5, .int .i64 e6, .int .i64 e7, .int .i64 eh, .int .i64 en], .slice A0 o.length a0]) (by simp [results, Try.results15, go_sem, t0, t1, t2, t3, t4, t5, t6, t7, t8, t9]) rfl ⟨_, _, rfl, ?_, ?_⟩
      · exact h9'
      · exact set10_ext HX.out (by omega) _ _ _ _ _ _ _ _ _ _

end Go.Proofs.Ytdpmogbibmgolaa
