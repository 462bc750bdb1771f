/-
  Several texts in one: Ne, Nf, Ng, Nh, Ni, Nj, Nk, Nl.
-/
import Derived.Test.YtogcfndhcphpaaaA01
import Derived.Deep.DeepCutAuto
import Derived.Maps.AppendAt
/-
  The contracts of ring.Push and ring.Pop.
-/
set_option linter.unusedVariables false
set_option linter.unusedSimpArgs false
namespace Go.Proofs.Ytogcfndhcphpaaa
open Go.RowKit

theorem rmay_eq (b0 b1 b2 b3 b4 b5 b6 b7 hd nn : Int) (m : Bool) (hm : Ri.may ⟨[b0, b1, b2, b3, b4, b5, b6, b7], hd, nn⟩ = m) (w : World) :
    Calls Try.prog 67 #[.agg #[.int .i64 b0, .int .i64 b1, .int .i64 b2, .int .i64 b3, .int .i64 b4, .int .i64 b5, .int .i64 b6, .int .i64 b7, .int .i64 hd, .int .i64 nn]] w fun e w' => e = .returned (.bool m) ∧ Ext w w' := by
  cases hi : Ri.inside ⟨[b0, b1, b2, b3, b4, b5, b6, b7], hd, nn⟩ with
  | true =>
    obtain ⟨h, n, rfl, rfl, h1, h2⟩ := Ri.inside_nat hi
    exact rmay_in b0 b1 b2 b3 b4 b5 b6 b7 h n h1 h2 m hm w
  | false =>
    have h0 : m = false := by rw [← hm]; unfold Ri.may; rw [hi]; rfl
    subst h0
    refine rmay_out b0 b1 b2 b3 b4 b5 b6 b7 hd nn w ?_
    have : ¬ ((0 ≤ hd ∧ hd < 8) ∧ 0 ≤ nn ∧ nn ≤ 8) := fun h => by rw [(Ri.inside_iff ⟨[b0, b1, b2, b3, b4, b5, b6, b7], hd, nn⟩).2 h] at hi; cases hi
    omega
def Ri.zero : Ri := ⟨[0, 0, 0, 0, 0, 0, 0, 0], 0, 0⟩
def Ri.push (r : Ri) (g : Int) : Ri × Bool := if r.may && decide (r.n ≠ 8) && decide (1 ≤ g) then (⟨r.buf.set ((r.head.toNat + r.n.toNat) % 8) g, r.head, r.n + 1⟩, true) else (Ri.zero, false)
def Ri.pop (r : Ri) : Ri × Int × Bool := if r.may then (if r.n = 0 then (r, 0, false) else (⟨r.buf.set r.head.toNat 0, (r.head + 1) % 8, r.n - 1⟩, r.buf[r.head.toNat]?.getD 0, true)) else (Ri.zero, 0, false)
theorem set10_at {v : World} {x : Nat} {c0 c1 c2 c3 c4 c5 c6 c7 c8 c9 : Value} {t : TypeId} (h : v.heap[x]? = some (.cells #[c0, c1, c2, c3, c4, c5, c6, c7, c8, c9] t (0, 0))) (d0 d1 d2 d3 d4 d5 d6 d7 d8 d9 : Value) :
    ((((((((((v.setCell ⟨x, 0, none⟩ d0).setCell ⟨x, 1, none⟩ d1).setCell ⟨x, 2, none⟩ d2).setCell ⟨x, 3, none⟩ d3).setCell ⟨x, 4, none⟩ d4).setCell ⟨x, 5, none⟩ d5).setCell ⟨x, 6, none⟩ d6).setCell ⟨x, 7, none⟩ d7).setCell ⟨x, 8, none⟩ d8).setCell ⟨x, 9, none⟩ d9).heap[x]? = some (.cells #[d0, d1, d2, d3, d4, d5, d6, d7, d8, d9] t (0, 0)) := by
  have h' := blk_set (blk_set (blk_set (blk_set (blk_set (blk_set (blk_set (blk_set (blk_set (blk_set h 0 d0) 1 d1) 2 d2) 3 d3) 4 d4) 5 d5) 6 d6) 7 d7) 8 d8) 9 d9
  simp only [List.setIfInBounds_toArray, List.set_cons_zero, List.set_cons_succ] at h'
  exact h'
theorem set10_ext {W v : World} {x : Nat} (h : Ext W v) (hx : W.heap.size ≤ x) (d0 d1 d2 d3 d4 d5 d6 d7 d8 d9 : Value) :
    Ext W ((((((((((v.setCell ⟨x, 0, none⟩ d0).setCell ⟨x, 1, none⟩ d1).setCell ⟨x, 2, none⟩ d2).setCell ⟨x, 3, none⟩ d3).setCell ⟨x, 4, none⟩ d4).setCell ⟨x, 5, none⟩ d5).setCell ⟨x, 6, none⟩ d6).setCell ⟨x, 7, none⟩ d7).setCell ⟨x, 8, none⟩ d8).setCell ⟨x, 9, none⟩ d9) :=
  (((((((((h.setCell hx _).setCell hx _).setCell hx _).setCell hx _).setCell hx _).setCell hx _).setCell hx _).setCell hx _).setCell hx _).setCell hx _
/-- The ten cells of a block. -/
theorem cells10 {v : World} {x : Nat} {c0 c1 c2 c3 c4 c5 c6 c7 c8 c9 : Value} {t : TypeId} (h : v.heap[x]? = some (.cells #[c0, c1, c2, c3, c4, c5, c6, c7, c8, c9] t (0, 0))) :
    (v.cell? ⟨x, 0, none⟩ = some c0 ∧ v.cell? ⟨x, 1, none⟩ = some c1 ∧ v.cell? ⟨x, 2, none⟩ = some c2 ∧ v.cell? ⟨x, 3, none⟩ = some c3 ∧ v.cell? ⟨x, 4, none⟩ = some c4) ∧ v.cell? ⟨x, 5, none⟩ = some c5 ∧ v.cell? ⟨x, 6, none⟩ = some c6 ∧ v.cell? ⟨x, 7, none⟩ = some c7 ∧ v.cell? ⟨x, 8, none⟩ = some c8 ∧ v.cell? ⟨x, 9, none⟩ = some c9 :=
  ⟨⟨blk_cell h 0 _ rfl, blk_cell h 1 _ rfl, blk_cell h 2 _ rfl, blk_cell h 3 _ rfl, blk_cell h 4 _ rfl⟩, blk_cell h 5 _ rfl, blk_cell h 6 _ rfl, blk_cell h 7 _ rfl, blk_cell h 8 _ rfl, blk_cell h 9 _ rfl⟩
theorem frozen10 {v : World} {x : Nat} {cs : Array Value} {t : TypeId} (h : v.heap[x]? = some (.cells cs t (0, 0))) :
    (v.frozen? ⟨x, 0, none⟩ = false ∧ v.frozen? ⟨x, 1, none⟩ = false ∧ v.frozen? ⟨x, 2, none⟩ = false ∧ v.frozen? ⟨x, 3, none⟩ = false ∧ v.frozen? ⟨x, 4, none⟩ = false) ∧ v.frozen? ⟨x, 5, none⟩ = false ∧ v.frozen? ⟨x, 6, none⟩ = false ∧ v.frozen? ⟨x, 7, none⟩ = false ∧ v.frozen? ⟨x, 8, none⟩ = false ∧ v.frozen? ⟨x, 9, none⟩ = false := by
  have k := fun i => frozen_of_row v x i _ _ h
  exact ⟨⟨k 0, k 1, k 2, k 3, k 4⟩, k 5, k 6, k 7, k 8, k 9⟩
set_option maxRecDepth 100000 in
set_option maxHeartbeats 1000000 in
theorem rpush_no (b0 b1 b2 b3 b4 b5 b6 b7 hd nn g : Int) (m : Bool) (hm : Ri.may ⟨[b0, b1, b2, b3, b4, b5, b6, b7], hd, nn⟩ = m) (h : m = false ∨ (m = true ∧ (nn = 8 ∨ (nn ≠ 8 ∧ g < 1)))) (w : World) :
    Calls Try.prog 68 #[.agg #[.int .i64 b0, .int .i64 b1, .int .i64 b2, .int .i64 b3, .int .i64 b4, .int .i64 b5, .int .i64 b6, .int .i64 b7, .int .i64 hd, .int .i64 nn], .int .i64 g] w fun e w' => e = .returned (.tuple #[.agg #[.int .i64 0, .int .i64 0, .int .i64 0, .int .i64 0, .int .i64 0, .int .i64 0, .int .i64 0, .int .i64 0, .int .i64 0, .int .i64 0], .bool false]) ∧ Ext w w' := by
  have HM := Lib.hid hm
  clear hm
  rcases h with rfl | ⟨rfl, h⟩
  · go_enter Try.func68, Try.ntmps68
    go_wp2_with fail
    refine (rmay_eq b0 b1 b2 b3 b4 b5 b6 b7 hd nn _ HM.out _).mono ?_
    rintro r w1 ⟨rfl, hx1⟩
    have HX := Lib.hid ((((Ext.refl w).alloc (.cells #[.int .i64 b0, .int .i64 b1, .int .i64 b2, .int .i64 b3, .int .i64 b4, .int .i64 b5, .int .i64 b6, .int .i64 b7, .int .i64 hd, .int .i64 nn] 38)).alloc (.cells #[.int .i64 0, .int .i64 0, .int .i64 0, .int .i64 0, .int .i64 0, .int .i64 0, .int .i64 0, .int .i64 0, .int .i64 0, .int .i64 0] 38)).trans hx1)
    have HZB : Hid (w1.heap[w.heap.size + 1]? = some (.cells #[.int .i64 0, .int .i64 0, .int .i64 0, .int .i64 0, .int .i64 0, .int .i64 0, .int .i64 0, .int .i64 0, .int .i64 0, .int .i64 0] 38 (0, 0))) := Lib.hid (hx1.blk (by have := blk_new (w.alloc (.cells #[.int .i64 b0, .int .i64 b1, .int .i64 b2, .int .i64 b3, .int .i64 b4, .int .i64 b5, .int .i64 b6, .int .i64 b7, .int .i64 hd, .int .i64 nn] 38)) (.cells #[.int .i64 0, .int .i64 0, .int .i64 0, .int .i64 0, .int .i64 0, .int .i64 0, .int .i64 0, .int .i64 0, .int .i64 0, .int .i64 0] 38); rwa [World.size_alloc] at this))
    have p9 := blk_cell (hx1.blk (blk_alloc (blk_new w (.cells #[.int .i64 b0, .int .i64 b1, .int .i64 b2, .int .i64 b3, .int .i64 b4, .int .i64 b5, .int .i64 b6, .int .i64 b7, .int .i64 hd, .int .i64 nn] 38)) (.cells #[.int .i64 0, .int .i64 0, .int .i64 0, .int .i64 0, .int .i64 0, .int .i64 0, .int .i64 0, .int .i64 0, .int .i64 0, .int .i64 0] 38))) 9 (.int .i64 nn) rfl
    clear hx1
    obtain ⟨⟨z0, z1, z2, z3, z4⟩, z5, z6, z7, z8, z9⟩ := cells10 HZB.out
    obtain ⟨⟨y0, y1, y2, y3, y4⟩, y5, y6, y7, y8, y9⟩ := frozen10 HZB.out
    go_wp2
    have hzz := set10_at HZB.out (.int .i64 0) (.int .i64 0) (.int .i64 0) (.int .i64 0) (.int .i64 0) (.int .i64 0) (.int .i64 0) (.int .i64 0) (.int .i64 0) (.int .i64 0)
    clear z0 z1 z2 z3 z4 z5 z6 z7 z8 z9 y0 y1 y2 y3 y4 y5 y6 y7 y8 y9
    obtain ⟨⟨t0, t1, t2, t3, t4⟩, t5, t6, t7, t8, t9⟩ := cells10 hzz
    refine bodyPost_ret (v := .tuple #[.agg #[.int .i64 0, .int .i64 0, .int .i64 0, .int .i64 0, .int .i64 0, .int .i64 0, .int .i64 0, .int .i64 0, .int .i64 0, .int .i64 0], .bool false]) (by simp [results, Try.results68, go_sem, t0, t1, t2, t3, t4, t5, t6, t7, t8, t9]) rfl ⟨rfl, ?_⟩
    exact set10_ext HX.out (by omega) _ _ _ _ _ _ _ _ _ _
  · rcases h with h | ⟨h, h2⟩
    · have e0 : (nn == 8) = true := by simpa using h
      clear h
      go_enter Try.func68, Try.ntmps68
      go_wp2_with fail
      refine (rmay_eq b0 b1 b2 b3 b4 b5 b6 b7 hd nn _ HM.out _).mono ?_
      rintro r w1 ⟨rfl, hx1⟩
      have HX := Lib.hid ((((Ext.refl w).alloc (.cells #[.int .i64 b0, .int .i64 b1, .int .i64 b2, .int .i64 b3, .int .i64 b4, .int .i64 b5, .int .i64 b6, .int .i64 b7, .int .i64 hd, .int .i64 nn] 38)).alloc (.cells #[.int .i64 0, .int .i64 0, .int .i64 0, .int .i64 0, .int .i64 0, .int .i64 0, .int .i64 0, .int .i64 0, .int .i64 0, .int .i64 0] 38)).trans hx1)
      have HZB : Hid (w1.heap[w.heap.size + 1]? = some (.cells #[.int .i64 0, .int .i64 0, .int .i64 0, .int .i64 0, .int .i64 0, .int .i64 0, .int .i64 0, .int .i64 0, .int .i64 0, .int .i64 0] 38 (0, 0))) := Lib.hid (hx1.blk (by have := blk_new (w.alloc (.cells #[.int .i64 b0, .int .i64 b1, .int .i64 b2, .int .i64 b3, .int .i64 b4, .int .i64 b5, .int .i64 b6, .int .i64 b7, .int .i64 hd, .int .i64 nn] 38)) (.cells #[.int .i64 0, .int .i64 0, .int .i64 0, .int .i64 0, .int .i64 0, .int .i64 0, .int .i64 0, .int .i64 0, .int .i64 0, .int .i64 0] 38); rwa [World.size_alloc] at this))
      have p9 := blk_cell (hx1.blk (blk_alloc (blk_new w (.cells #[.int .i64 b0, .int .i64 b1, .int .i64 b2, .int .i64 b3, .int .i64 b4, .int .i64 b5, .int .i64 b6, .int .i64 b7, .int .i64 hd, .int .i64 nn] 38)) (.cells #[.int .i64 0, .int .i64 0, .int .i64 0, .int .i64 0, .int .i64 0, .int .i64 0, .int .i64 0, .int .i64 0, .int .i64 0, .int .i64 0] 38))) 9 (.int .i64 nn) rfl
      clear hx1
      obtain ⟨⟨z0, z1, z2, z3, z4⟩, z5, z6, z7, z8, z9⟩ := cells10 HZB.out
      obtain ⟨⟨y0, y1, y2, y3, y4⟩, y5, y6, y7, y8, y9⟩ := frozen10 HZB.out
      go_wp2
      have hzz := set10_at HZB.out (.int .i64 0) (.int .i64 0) (.int .i64 0) (.int .i64 0) (.int .i64 0) (.int .i64 0) (.int .i64 0) (.int .i64 0) (.int .i64 0) (.int .i64 0)
      clear z0 z1 z2 z3 z4 z5 z6 z7 z8 z9 y0 y1 y2 y3 y4 y5 y6 y7 y8 y9
      obtain ⟨⟨t0, t1, t2, t3, t4⟩, t5, t6, t7, t8, t9⟩ := cells10 hzz
      refine bodyPost_ret (v := .tuple #[.agg #[.int .i64 0, .int .i64 0, .int .i64 0, .int .i64 0, .int .i64 0, .int .i64 0, .int .i64 0, .int .i64 0, .int .i64 0, .int .i64 0], .bool false]) (by simp [results, Try.results68, go_sem, t0, t1, t2, t3, t4, t5, t6, t7, t8, t9]) rfl ⟨rfl, ?_⟩
      exact set10_ext HX.out (by omega) _ _ _ _ _ _ _ _ _ _
    · have e0 : (nn == 8) = false := by simpa using h
      clear h
      go_enter Try.func68, Try.ntmps68
      go_wp2_with fail
      refine (rmay_eq b0 b1 b2 b3 b4 b5 b6 b7 hd nn _ HM.out _).mono ?_
      rintro r w1 ⟨rfl, hx1⟩
      have HX := Lib.hid ((((Ext.refl w).alloc (.cells #[.int .i64 b0, .int .i64 b1, .int .i64 b2, .int .i64 b3, .int .i64 b4, .int .i64 b5, .int .i64 b6, .int .i64 b7, .int .i64 hd, .int .i64 nn] 38)).alloc (.cells #[.int .i64 0, .int .i64 0, .int .i64 0, .int .i64 0, .int .i64 0, .int .i64 0, .int .i64 0, .int .i64 0, .int .i64 0, .int .i64 0] 38)).trans hx1)
      have HZB : Hid (w1.heap[w.heap.size + 1]? = some (.cells #[.int .i64 0, .int .i64 0, .int .i64 0, .int .i64 0, .int .i64 0, .int .i64 0, .int .i64 0, .int .i64 0, .int .i64 0, .int .i64 0] 38 (0, 0))) := Lib.hid (hx1.blk (by have := blk_new (w.alloc (.cells #[.int .i64 b0, .int .i64 b1, .int .i64 b2, .int .i64 b3, .int .i64 b4, .int .i64 b5, .int .i64 b6, .int .i64 b7, .int .i64 hd, .int .i64 nn] 38)) (.cells #[.int .i64 0, .int .i64 0, .int .i64 0, .int .i64 0, .int .i64 0, .int .i64 0, .int .i64 0, .int .i64 0, .int .i64 0, .int .i64 0] 38); rwa [World.size_alloc] at this))
      have p9 := blk_cell (hx1.blk (blk_alloc (blk_new w (.cells #[.int .i64 b0, .int .i64 b1, .int .i64 b2, .int .i64 b3, .int .i64 b4, .int .i64 b5, .int .i64 b6, .int .i64 b7, .int .i64 hd, .int .i64 nn] 38)) (.cells #[.int .i64 0, .int .i64 0, .int .i64 0, .int .i64 0, .int .i64 0, .int .i64 0, .int .i64 0, .int .i64 0, .int .i64 0, .int .i64 0] 38))) 9 (.int .i64 nn) rfl
      clear hx1
      obtain ⟨⟨z0, z1, z2, z3, z4⟩, z5, z6, z7, z8, z9⟩ := cells10 HZB.out
      obtain ⟨⟨y0, y1, y2, y3, y4⟩, y5, y6, y7, y8, y9⟩ := frozen10 HZB.out
      go_wp2
      have hzz := set10_at HZB.out (.int .i64 0) (.int .i64 0) (.int .i64 0) (.int .i64 0) (.int .i64 0) (.int .i64 0) (.int .i64 0) (.int .i64 0) (.int .i64 0) (.int .i64 0)
      clear z0 z1 z2 z3 z4 z5 z6 z7 z8 z9 y0 y1 y2 y3 y4 y5 y6 y7 y8 y9
      obtain ⟨⟨t0, t1, t2, t3, t4⟩, t5, t6, t7, t8, t9⟩ := cells10 hzz
      refine bodyPost_ret (v := .tuple #[.agg #[.int .i64 0, .int .i64 0, .int .i64 0, .int .i64 0, .int .i64 0, .int .i64 0, .int .i64 0, .int .i64 0, .int .i64 0, .int .i64 0], .bool false]) (by simp [results, Try.results68, go_sem, t0, t1, t2, t3, t4, t5, t6, t7, t8, t9]) rfl ⟨rfl, ?_⟩
      exact set10_ext HX.out (by omega) _ _ _ _ _ _ _ _ _ _
set_option maxRecDepth 100000 in
set_option maxHeartbeats 1000000 in
theorem rpush_ok (b0 b1 b2 b3 b4 b5 b6 b7 g : Int) (hd nn : Nat) (hhd : hd < 8) (hnn : nn < 8) (hm : Ri.may ⟨[b0, b1, b2, b3, b4, b5, b6, b7], hd, nn⟩ = true) (hg : 1 ≤ g) (c0 c1 c2 c3 c4 c5 c6 c7 : Int) (hc : ([b0, b1, b2, b3, b4, b5, b6, b7]).set ((hd + nn) % 8) g = [c0, c1, c2, c3, c4, c5, c6, c7]) (w : World) :
    Calls Try.prog 68 #[.agg #[.int .i64 b0, .int .i64 b1, .int .i64 b2, .int .i64 b3, .int .i64 b4, .int .i64 b5, .int .i64 b6, .int .i64 b7, .int .i64 (hd : Int), .int .i64 (nn : Int)], .int .i64 g] w fun e w' => e = .returned (.tuple #[.agg #[.int .i64 c0, .int .i64 c1, .int .i64 c2, .int .i64 c3, .int .i64 c4, .int .i64 c5, .int .i64 c6, .int .i64 c7, .int .i64 (hd : Int), .int .i64 ((nn : Int) + 1)], .bool true]) ∧ Ext w w' := by
  have HM := Lib.hid hm
  clear hm
  have e0 : ((nn : Int) == 8) = false := beq_eq_false_iff_ne.2 (by omega)
  go_enter Try.func68, Try.ntmps68
  go_wp2_with fail
  refine (rmay_eq b0 b1 b2 b3 b4 b5 b6 b7 hd nn _ HM.out _).mono ?_
  rintro r w1 ⟨rfl, hx1⟩
  have HX := Lib.hid ((((Ext.refl w).alloc (.cells #[.int .i64 b0, .int .i64 b1, .int .i64 b2, .int .i64 b3, .int .i64 b4, .int .i64 b5, .int .i64 b6, .int .i64 b7, .int .i64 (hd : Int), .int .i64 (nn : Int)] 38)).alloc (.cells #[.int .i64 0, .int .i64 0, .int .i64 0, .int .i64 0, .int .i64 0, .int .i64 0, .int .i64 0, .int .i64 0, .int .i64 0, .int .i64 0] 38)).trans hx1)
  have hb : w1.heap[w.heap.size]? = some (.cells (⟨[b0, b1, b2, b3, b4, b5, b6, b7], hd, nn⟩ : Ri).cells 38 (0, 0)) := hx1.blk (blk_alloc (blk_new w (.cells #[.int .i64 b0, .int .i64 b1, .int .i64 b2, .int .i64 b3, .int .i64 b4, .int .i64 b5, .int .i64 b6, .int .i64 b7, .int .i64 (hd : Int), .int .i64 (nn : Int)] 38)) (.cells #[.int .i64 0, .int .i64 0, .int .i64 0, .int .i64 0, .int .i64 0, .int .i64 0, .int .i64 0, .int .i64 0, .int .i64 0, .int .i64 0] 38))
  have HZ1 : Hid (w1.heap[w.heap.size + 1]? = some (.cells #[.int .i64 0, .int .i64 0, .int .i64 0, .int .i64 0, .int .i64 0, .int .i64 0, .int .i64 0, .int .i64 0, .int .i64 0, .int .i64 0] 38 (0, 0))) := Lib.hid (hx1.blk (by have := blk_new (w.alloc (.cells #[.int .i64 b0, .int .i64 b1, .int .i64 b2, .int .i64 b3, .int .i64 b4, .int .i64 b5, .int .i64 b6, .int .i64 b7, .int .i64 (hd : Int), .int .i64 (nn : Int)] 38)) (.cells #[.int .i64 0, .int .i64 0, .int .i64 0, .int .i64 0, .int .i64 0, .int .i64 0, .int .i64 0, .int .i64 0, .int .i64 0, .int .i64 0] 38); rwa [World.size_alloc] at this))
  have p8 := blk_cell hb 8 (.int .i64 (hd : Int)) rfl
  have p9 := blk_cell hb 9 (.int .i64 (nn : Int)) rfl
  have pj := blk_cell hb ((hd + nn) % 8) _ (Ri.cells_buf rfl _ (by omega))
  have yj := frozen_of_row _ _ ((hd + nn) % 8) _ _ hb
  have e1 : IntKind.i64.wrap ((hd : Int) + (nn : Int)) = ((hd + nn : Nat) : Int) := IntWalk.i64_in _ (by omega)
  have e2 : ((hd + nn : Nat) : Int).tmod 8 = (((hd + nn) % 8 : Nat) : Int) := by rw [Int.tmod_eq_emod_of_nonneg (by omega)]; omega
  have e3 : (0 : Int) ≤ (((hd + nn) % 8 : Nat) : Int) := by omega
  have e4 : (((hd + nn) % 8 : Nat) : Int) < 8 := by omega
  have e5 : IntKind.i64.wrap ((nn : Int) + 1) = (nn : Int) + 1 := IntWalk.i64_in _ (by omega)
  have HB2 : Hid ((w1.setCell ⟨w.heap.size, (hd + nn) % 8, none⟩ (.int .i64 g)).heap[w.heap.size]? = some (.cells #[.int .i64 c0, .int .i64 c1, .int .i64 c2, .int .i64 c3, .int .i64 c4, .int .i64 c5, .int .i64 c6, .int .i64 c7, .int .i64 (hd : Int), .int .i64 (nn : Int)] 38 (0, 0))) := Lib.hid (by
    have := blk_set hb ((hd + nn) % 8) (.int .i64 g)
    rw [Ri.cells_set rfl _ (by omega)] at this
    simp only [hc] at this
    exact this)
  have HZ2 : Hid ((w1.setCell ⟨w.heap.size, (hd + nn) % 8, none⟩ (.int .i64 g)).heap[w.heap.size + 1]? = some (.cells #[.int .i64 0, .int .i64 0, .int .i64 0, .int .i64 0, .int .i64 0, .int .i64 0, .int .i64 0, .int .i64 0, .int .i64 0, .int .i64 0] 38 (0, 0))) := Lib.hid (blk_set_other HZ1.out _ (by simp) _)
  have HX2 : Hid (Ext w (w1.setCell ⟨w.heap.size, (hd + nn) % 8, none⟩ (.int .i64 g))) := Lib.hid (HX.out.setCell (Nat.le_refl _) _)
  clear hx1 hb
  go_upto_region 4 with fail
  generalize hw2 : w1.setCell ⟨w.heap.size, (hd + nn) % 8, none⟩ (.int .i64 g) = w2 at *
  clear hw2 p8 p9 pj yj e1 e2 e3 e4 HX HZ1
  have q9 := blk_cell HB2.out 9 (.int .i64 (nn : Int)) rfl
  have x9 := frozen_of_row _ _ 9 _ _ HB2.out
  have HB3 : Hid ((w2.setCell ⟨w.heap.size, 9, none⟩ (.int .i64 ((nn : Int) + 1))).heap[w.heap.size]? = some (.cells #[.int .i64 c0, .int .i64 c1, .int .i64 c2, .int .i64 c3, .int .i64 c4, .int .i64 c5, .int .i64 c6, .int .i64 c7, .int .i64 (hd : Int), .int .i64 ((nn : Int) + 1)] 38 (0, 0))) := Lib.hid (blk_set HB2.out 9 (.int .i64 ((nn : Int) + 1)))
  have HZ3 : Hid ((w2.setCell ⟨w.heap.size, 9, none⟩ (.int .i64 ((nn : Int) + 1))).heap[w.heap.size + 1]? = some (.cells #[.int .i64 0, .int .i64 0, .int .i64 0, .int .i64 0, .int .i64 0, .int .i64 0, .int .i64 0, .int .i64 0, .int .i64 0, .int .i64 0] 38 (0, 0))) := Lib.hid (blk_set_other HZ2.out _ (by simp) _)
  have HX3 : Hid (Ext w (w2.setCell ⟨w.heap.size, 9, none⟩ (.int .i64 ((nn : Int) + 1)))) := Lib.hid (HX2.out.setCell (Nat.le_refl _) _)
  go_upto_region 5 with fail
  generalize hw3 : w2.setCell ⟨w.heap.size, 9, none⟩ (.int .i64 ((nn : Int) + 1)) = w3 at *
  clear hw3 q9 x9 HB2 HZ2 HX2 e5
  obtain ⟨⟨q0, q1, q2, q3, q4⟩, q5, q6, q7, q8, q9⟩ := cells10 HB3.out
  have HZB := HZ3
  obtain ⟨⟨z0, z1, z2, z3, z4⟩, z5, z6, z7, z8, z9⟩ := cells10 HZB.out
  obtain ⟨⟨y0, y1, y2, y3, y4⟩, y5, y6, y7, y8, y9⟩ := frozen10 HZB.out
  go_wp2
  have hzz := set10_at HZB.out (.int .i64 c0) (.int .i64 c1) (.int .i64 c2) (.int .i64 c3) (.int .i64 c4) (.int .i64 c5) (.int .i64 c6) (.int .i64 c7) (.int .i64 (hd : Int)) (.int .i64 ((nn : Int) + 1))
  clear z0 z1 z2 z3 z4 z5 z6 z7 z8 z9 y0 y1 y2 y3 y4 y5 y6 y7 y8 y9
  clear q0 q1 q2 q3 q4 q5 q6 q7 q8 q9
  obtain ⟨⟨t0, t1, t2, t3, t4⟩, t5, t6, t7, t8, t9⟩ := cells10 hzz
  refine bodyPost_ret (v := .tuple #[.agg #[.int .i64 c0, .int .i64 c1, .int .i64 c2, .int .i64 c3, .int .i64 c4, .int .i64 c5, .int .i64 c6, .int .i64 c7, .int .i64 (hd : Int), .int .i64 ((nn : Int) + 1)], .bool true]) (by simp [results, Try.results68, go_sem, t0, t1, t2, t3, t4, t5, t6, t7, t8, t9]) rfl ⟨rfl, ?_⟩
  exact set10_ext HX3.out (by omega) _ _ _ _ _ _ _ _ _ _
/-- What a call of Push answers. -/
theorem rpush_k (b0 b1 b2 b3 b4 b5 b6 b7 hd nn g : Int) (c0 c1 c2 c3 c4 c5 c6 c7 hd' nn' : Int) (ok : Bool) (h : Ri.push ⟨[b0, b1, b2, b3, b4, b5, b6, b7], hd, nn⟩ g = (⟨[c0, c1, c2, c3, c4, c5, c6, c7], hd', nn'⟩, ok)) (w : World) :
    Calls Try.prog 68 #[.agg #[.int .i64 b0, .int .i64 b1, .int .i64 b2, .int .i64 b3, .int .i64 b4, .int .i64 b5, .int .i64 b6, .int .i64 b7, .int .i64 hd, .int .i64 nn], .int .i64 g] w fun e w' => e = .returned (.tuple #[.agg #[.int .i64 c0, .int .i64 c1, .int .i64 c2, .int .i64 c3, .int .i64 c4, .int .i64 c5, .int .i64 c6, .int .i64 c7, .int .i64 hd', .int .i64 nn'], .bool ok]) ∧ Ext w w' := by
  unfold Ri.push at h
  split at h
  · rename_i hc
    simp only [Bool.and_eq_true, decide_eq_true_eq] at hc
    obtain ⟨⟨hm, h8⟩, hg⟩ := hc
    have hi : Ri.inside ⟨[b0, b1, b2, b3, b4, b5, b6, b7], hd, nn⟩ = true := by unfold Ri.may at hm; rw [Bool.and_eq_true] at hm; exact hm.1
    obtain ⟨a, n, rfl, rfl, h1, h2⟩ := Ri.inside_nat hi
    simp only [Prod.mk.injEq, Ri.mk.injEq, Int.toNat_natCast] at h
    obtain ⟨⟨hs, rfl, rfl⟩, rfl⟩ := h
    exact rpush_ok b0 b1 b2 b3 b4 b5 b6 b7 g a n h1 (by omega) hm hg c0 c1 c2 c3 c4 c5 c6 c7 hs w
  · rename_i hc
    simp only [Prod.mk.injEq, Ri.zero, Ri.mk.injEq, List.cons.injEq, and_true] at h
    obtain ⟨⟨⟨rfl, rfl, rfl, rfl, rfl, rfl, rfl, rfl⟩, rfl, rfl⟩, rfl⟩ := h
    refine rpush_no b0 b1 b2 b3 b4 b5 b6 b7 hd nn g _ rfl ?_ w
    cases hm : Ri.may ⟨[b0, b1, b2, b3, b4, b5, b6, b7], hd, nn⟩ with
    | false => exact .inl rfl
    | true =>
      right
      refine ⟨rfl, ?_⟩
      rw [hm] at hc
      simp at hc
      by_cases h8 : nn = 8
      · exact .inl h8
      · exact .inr ⟨h8, by have := hc h8; omega⟩

end Go.Proofs.Ytogcfndhcphpaaa
/-
  The contract of ring.Pop.
-/
set_option linter.unusedVariables false
set_option linter.unusedSimpArgs false
namespace Go.Proofs.Ytogcfndhcphpaaa
open Go.RowKit
set_option maxRecDepth 100000 in
set_option maxHeartbeats 1000000 in
theorem rpop_no (b0 b1 b2 b3 b4 b5 b6 b7 hd nn : Int) (hm : Ri.may ⟨[b0, b1, b2, b3, b4, b5, b6, b7], hd, nn⟩ = false) (w : World) :
    Calls Try.prog 114 #[.agg #[.int .i64 b0, .int .i64 b1, .int .i64 b2, .int .i64 b3, .int .i64 b4, .int .i64 b5, .int .i64 b6, .int .i64 b7, .int .i64 hd, .int .i64 nn]] w fun e w' => e = .returned (.tuple #[.agg #[.int .i64 0, .int .i64 0, .int .i64 0, .int .i64 0, .int .i64 0, .int .i64 0, .int .i64 0, .int .i64 0, .int .i64 0, .int .i64 0], .int .i64 0, .bool false]) ∧ Ext w w' := by
  have HM := Lib.hid hm
  clear hm
  go_enter Try.func114, Try.ntmps114
  go_wp2_with fail
  refine (rmay_eq b0 b1 b2 b3 b4 b5 b6 b7 hd nn _ HM.out _).mono ?_
  rintro r w1 ⟨rfl, hx1⟩
  have HX := Lib.hid ((((Ext.refl w).alloc (.cells #[.int .i64 b0, .int .i64 b1, .int .i64 b2, .int .i64 b3, .int .i64 b4, .int .i64 b5, .int .i64 b6, .int .i64 b7, .int .i64 hd, .int .i64 nn] 38)).alloc (.cells #[.int .i64 0, .int .i64 0, .int .i64 0, .int .i64 0, .int .i64 0, .int .i64 0, .int .i64 0, .int .i64 0, .int .i64 0, .int .i64 0] 38)).trans hx1)
  have HZB : Hid (w1.heap[w.heap.size + 1]? = some (.cells #[.int .i64 0, .int .i64 0, .int .i64 0, .int .i64 0, .int .i64 0, .int .i64 0, .int .i64 0, .int .i64 0, .int .i64 0, .int .i64 0] 38 (0, 0))) := Lib.hid (hx1.blk (by have := blk_new (w.alloc (.cells #[.int .i64 b0, .int .i64 b1, .int .i64 b2, .int .i64 b3, .int .i64 b4, .int .i64 b5, .int .i64 b6, .int .i64 b7, .int .i64 hd, .int .i64 nn] 38)) (.cells #[.int .i64 0, .int .i64 0, .int .i64 0, .int .i64 0, .int .i64 0, .int .i64 0, .int .i64 0, .int .i64 0, .int .i64 0, .int .i64 0] 38); rwa [World.size_alloc] at this))
  clear hx1
  obtain ⟨⟨z0, z1, z2, z3, z4⟩, z5, z6, z7, z8, z9⟩ := cells10 HZB.out
  obtain ⟨⟨y0, y1, y2, y3, y4⟩, y5, y6, y7, y8, y9⟩ := frozen10 HZB.out
  go_wp2
  have hzz := set10_at HZB.out (.int .i64 0) (.int .i64 0) (.int .i64 0) (.int .i64 0) (.int .i64 0) (.int .i64 0) (.int .i64 0) (.int .i64 0) (.int .i64 0) (.int .i64 0)
  clear z0 z1 z2 z3 z4 z5 z6 z7 z8 z9 y0 y1 y2 y3 y4 y5 y6 y7 y8 y9
  obtain ⟨⟨t0, t1, t2, t3, t4⟩, t5, t6, t7, t8, t9⟩ := cells10 hzz
  refine bodyPost_ret (v := .tuple #[.agg #[.int .i64 0, .int .i64 0, .int .i64 0, .int .i64 0, .int .i64 0, .int .i64 0, .int .i64 0, .int .i64 0, .int .i64 0, .int .i64 0], .int .i64 0, .bool false]) (by simp [results, Try.results114, go_sem, t0, t1, t2, t3, t4, t5, t6, t7, t8, t9]) rfl ⟨rfl, ?_⟩
  exact set10_ext HX.out (by omega) _ _ _ _ _ _ _ _ _ _
set_option maxRecDepth 100000 in
set_option maxHeartbeats 1000000 in
theorem rpop_none (b0 b1 b2 b3 b4 b5 b6 b7 hd nn : Int) (hm : Ri.may ⟨[b0, b1, b2, b3, b4, b5, b6, b7], hd, nn⟩ = true) (h0 : nn = 0) (w : World) :
    Calls Try.prog 114 #[.agg #[.int .i64 b0, .int .i64 b1, .int .i64 b2, .int .i64 b3, .int .i64 b4, .int .i64 b5, .int .i64 b6, .int .i64 b7, .int .i64 hd, .int .i64 nn]] w fun e w' => e = .returned (.tuple #[.agg #[.int .i64 b0, .int .i64 b1, .int .i64 b2, .int .i64 b3, .int .i64 b4, .int .i64 b5, .int .i64 b6, .int .i64 b7, .int .i64 hd, .int .i64 nn], .int .i64 0, .bool false]) ∧ Ext w w' := by
  have HM := Lib.hid hm
  have e0 : (nn == 0) = true := by simpa using h0
  clear hm h0
  go_enter Try.func114, Try.ntmps114
  go_wp2_with fail
  refine (rmay_eq b0 b1 b2 b3 b4 b5 b6 b7 hd nn _ HM.out _).mono ?_
  rintro r w1 ⟨rfl, hx1⟩
  have HX := Lib.hid ((((Ext.refl w).alloc (.cells #[.int .i64 b0, .int .i64 b1, .int .i64 b2, .int .i64 b3, .int .i64 b4, .int .i64 b5, .int .i64 b6, .int .i64 b7, .int .i64 hd, .int .i64 nn] 38)).alloc (.cells #[.int .i64 0, .int .i64 0, .int .i64 0, .int .i64 0, .int .i64 0, .int .i64 0, .int .i64 0, .int .i64 0, .int .i64 0, .int .i64 0] 38)).trans hx1)
  have HZB : Hid (w1.heap[w.heap.size + 1]? = some (.cells #[.int .i64 0, .int .i64 0, .int .i64 0, .int .i64 0, .int .i64 0, .int .i64 0, .int .i64 0, .int .i64 0, .int .i64 0, .int .i64 0] 38 (0, 0))) := Lib.hid (hx1.blk (by have := blk_new (w.alloc (.cells #[.int .i64 b0, .int .i64 b1, .int .i64 b2, .int .i64 b3, .int .i64 b4, .int .i64 b5, .int .i64 b6, .int .i64 b7, .int .i64 hd, .int .i64 nn] 38)) (.cells #[.int .i64 0, .int .i64 0, .int .i64 0, .int .i64 0, .int .i64 0, .int .i64 0, .int .i64 0, .int .i64 0, .int .i64 0, .int .i64 0] 38); rwa [World.size_alloc] at this))
  obtain ⟨⟨q0, q1, q2, q3, q4⟩, q5, q6, q7, q8, q9⟩ := cells10 (hx1.blk (blk_alloc (blk_new w (.cells #[.int .i64 b0, .int .i64 b1, .int .i64 b2, .int .i64 b3, .int .i64 b4, .int .i64 b5, .int .i64 b6, .int .i64 b7, .int .i64 hd, .int .i64 nn] 38)) (.cells #[.int .i64 0, .int .i64 0, .int .i64 0, .int .i64 0, .int .i64 0, .int .i64 0, .int .i64 0, .int .i64 0, .int .i64 0, .int .i64 0] 38)))
  clear hx1
  obtain ⟨⟨z0, z1, z2, z3, z4⟩, z5, z6, z7, z8, z9⟩ := cells10 HZB.out
  obtain ⟨⟨y0, y1, y2, y3, y4⟩, y5, y6, y7, y8, y9⟩ := frozen10 HZB.out
  go_wp2
  have hzz := set10_at HZB.out (.int .i64 b0) (.int .i64 b1) (.int .i64 b2) (.int .i64 b3) (.int .i64 b4) (.int .i64 b5) (.int .i64 b6) (.int .i64 b7) (.int .i64 hd) (.int .i64 nn)
  clear z0 z1 z2 z3 z4 z5 z6 z7 z8 z9 y0 y1 y2 y3 y4 y5 y6 y7 y8 y9
  clear q0 q1 q2 q3 q4 q5 q6 q7 q8 q9
  obtain ⟨⟨t0, t1, t2, t3, t4⟩, t5, t6, t7, t8, t9⟩ := cells10 hzz
  refine bodyPost_ret (v := .tuple #[.agg #[.int .i64 b0, .int .i64 b1, .int .i64 b2, .int .i64 b3, .int .i64 b4, .int .i64 b5, .int .i64 b6, .int .i64 b7, .int .i64 hd, .int .i64 nn], .int .i64 0, .bool false]) (by simp [results, Try.results114, go_sem, t0, t1, t2, t3, t4, t5, t6, t7, t8, t9]) rfl ⟨rfl, ?_⟩
  exact set10_ext HX.out (by omega) _ _ _ _ _ _ _ _ _ _
set_option maxRecDepth 100000 in
set_option maxHeartbeats 1000000 in
theorem rpop_ok (b0 b1 b2 b3 b4 b5 b6 b7 : Int) (hd nn : Nat) (hhd : hd < 8) (hnn : nn ≤ 8) (h0 : 0 < nn) (hm : Ri.may ⟨[b0, b1, b2, b3, b4, b5, b6, b7], hd, nn⟩ = true) (c0 c1 c2 c3 c4 c5 c6 c7 x : Int) (hc : ([b0, b1, b2, b3, b4, b5, b6, b7]).set hd 0 = [c0, c1, c2, c3, c4, c5, c6, c7]) (hxx : ([b0, b1, b2, b3, b4, b5, b6, b7])[hd]?.getD 0 = x) (w : World) :
    Calls Try.prog 114 #[.agg #[.int .i64 b0, .int .i64 b1, .int .i64 b2, .int .i64 b3, .int .i64 b4, .int .i64 b5, .int .i64 b6, .int .i64 b7, .int .i64 (hd : Int), .int .i64 (nn : Int)]] w fun e w' => e = .returned (.tuple #[.agg #[.int .i64 c0, .int .i64 c1, .int .i64 c2, .int .i64 c3, .int .i64 c4, .int .i64 c5, .int .i64 c6, .int .i64 c7, .int .i64 (((hd : Int) + 1) % 8), .int .i64 ((nn : Int) - 1)], .int .i64 x, .bool true]) ∧ Ext w w' := by
  have HM := Lib.hid hm
  clear hm
  have e0 : ((nn : Int) == 0) = false := beq_eq_false_iff_ne.2 (by omega)
  go_enter Try.func114, Try.ntmps114
  go_wp2_with fail
  refine (rmay_eq b0 b1 b2 b3 b4 b5 b6 b7 hd nn _ HM.out _).mono ?_
  rintro r w1 ⟨rfl, hx1⟩
  have HX := Lib.hid ((((Ext.refl w).alloc (.cells #[.int .i64 b0, .int .i64 b1, .int .i64 b2, .int .i64 b3, .int .i64 b4, .int .i64 b5, .int .i64 b6, .int .i64 b7, .int .i64 (hd : Int), .int .i64 (nn : Int)] 38)).alloc (.cells #[.int .i64 0, .int .i64 0, .int .i64 0, .int .i64 0, .int .i64 0, .int .i64 0, .int .i64 0, .int .i64 0, .int .i64 0, .int .i64 0] 38)).trans hx1)
  have hb : w1.heap[w.heap.size]? = some (.cells (⟨[b0, b1, b2, b3, b4, b5, b6, b7], hd, nn⟩ : Ri).cells 38 (0, 0)) := hx1.blk (blk_alloc (blk_new w (.cells #[.int .i64 b0, .int .i64 b1, .int .i64 b2, .int .i64 b3, .int .i64 b4, .int .i64 b5, .int .i64 b6, .int .i64 b7, .int .i64 (hd : Int), .int .i64 (nn : Int)] 38)) (.cells #[.int .i64 0, .int .i64 0, .int .i64 0, .int .i64 0, .int .i64 0, .int .i64 0, .int .i64 0, .int .i64 0, .int .i64 0, .int .i64 0] 38))
  have HZ1 : Hid (w1.heap[w.heap.size + 1]? = some (.cells #[.int .i64 0, .int .i64 0, .int .i64 0, .int .i64 0, .int .i64 0, .int .i64 0, .int .i64 0, .int .i64 0, .int .i64 0, .int .i64 0] 38 (0, 0))) := Lib.hid (hx1.blk (by have := blk_new (w.alloc (.cells #[.int .i64 b0, .int .i64 b1, .int .i64 b2, .int .i64 b3, .int .i64 b4, .int .i64 b5, .int .i64 b6, .int .i64 b7, .int .i64 (hd : Int), .int .i64 (nn : Int)] 38)) (.cells #[.int .i64 0, .int .i64 0, .int .i64 0, .int .i64 0, .int .i64 0, .int .i64 0, .int .i64 0, .int .i64 0, .int .i64 0, .int .i64 0] 38); rwa [World.size_alloc] at this))
  have p8 := blk_cell hb 8 (.int .i64 (hd : Int)) rfl
  have p9 := blk_cell hb 9 (.int .i64 (nn : Int)) rfl
  have pj := blk_cell hb hd _ (Ri.cells_buf rfl _ hhd)
  rw [hxx] at pj
  have yj := frozen_of_row _ _ hd _ _ hb
  have e3 : (0 : Int) ≤ (hd : Int) := by omega
  have e4 : (hd : Int) < 8 := by omega
  have e5 : IntKind.i64.wrap ((hd : Int) + 1) = (hd : Int) + 1 := IntWalk.i64_in _ (by omega)
  have e6 : ((hd : Int) + 1).tmod 8 = ((hd : Int) + 1) % 8 := Int.tmod_eq_emod_of_nonneg (by omega)
  have e7 : IntKind.i64.wrap ((nn : Int) - 1) = (nn : Int) - 1 := IntWalk.i64_in _ (by omega)
  have e8 : IntKind.i64.wrap (((hd : Int) + 1) % 8) = ((hd : Int) + 1) % 8 := IntWalk.i64_in _ (by omega)
  have HB2 : Hid ((w1.setCell ⟨w.heap.size, hd, none⟩ (.int .i64 0)).heap[w.heap.size]? = some (.cells #[.int .i64 c0, .int .i64 c1, .int .i64 c2, .int .i64 c3, .int .i64 c4, .int .i64 c5, .int .i64 c6, .int .i64 c7, .int .i64 (hd : Int), .int .i64 (nn : Int)] 38 (0, 0))) := Lib.hid (by
    have := blk_set hb hd (.int .i64 0)
    rw [Ri.cells_set rfl _ hhd] at this
    simp only [hc] at this
    exact this)
  have HZ2 : Hid ((w1.setCell ⟨w.heap.size, hd, none⟩ (.int .i64 0)).heap[w.heap.size + 1]? = some (.cells #[.int .i64 0, .int .i64 0, .int .i64 0, .int .i64 0, .int .i64 0, .int .i64 0, .int .i64 0, .int .i64 0, .int .i64 0, .int .i64 0] 38 (0, 0))) := Lib.hid (blk_set_other HZ1.out _ (by simp) _)
  have HX2 : Hid (Ext w (w1.setCell ⟨w.heap.size, hd, none⟩ (.int .i64 0))) := Lib.hid (HX.out.setCell (Nat.le_refl _) _)
  clear hx1 hb
  go_upto_region 7 with fail
  generalize hw2 : w1.setCell ⟨w.heap.size, hd, none⟩ (.int .i64 0) = w2 at *
  clear hw2 p8 p9 pj yj HX HZ1
  have q8 := blk_cell HB2.out 8 (.int .i64 (hd : Int)) rfl
  have x8 := frozen_of_row _ _ 8 _ _ HB2.out
  have HB3 : Hid ((w2.setCell ⟨w.heap.size, 8, none⟩ (.int .i64 (((hd : Int) + 1) % 8))).heap[w.heap.size]? = some (.cells #[.int .i64 c0, .int .i64 c1, .int .i64 c2, .int .i64 c3, .int .i64 c4, .int .i64 c5, .int .i64 c6, .int .i64 c7, .int .i64 (((hd : Int) + 1) % 8), .int .i64 (nn : Int)] 38 (0, 0))) := Lib.hid (blk_set HB2.out 8 (.int .i64 (((hd : Int) + 1) % 8)))
  have HZ3 : Hid ((w2.setCell ⟨w.heap.size, 8, none⟩ (.int .i64 (((hd : Int) + 1) % 8))).heap[w.heap.size + 1]? = some (.cells #[.int .i64 0, .int .i64 0, .int .i64 0, .int .i64 0, .int .i64 0, .int .i64 0, .int .i64 0, .int .i64 0, .int .i64 0, .int .i64 0] 38 (0, 0))) := Lib.hid (blk_set_other HZ2.out _ (by simp) _)
  have HX3 : Hid (Ext w (w2.setCell ⟨w.heap.size, 8, none⟩ (.int .i64 (((hd : Int) + 1) % 8)))) := Lib.hid (HX2.out.setCell (Nat.le_refl _) _)
  go_upto_region 8 with fail
  generalize hw3 : w2.setCell ⟨w.heap.size, 8, none⟩ (.int .i64 (((hd : Int) + 1) % 8)) = w3 at *
  clear hw3 q8 x8 HB2 HZ2 HX2
  have q9 := blk_cell HB3.out 9 (.int .i64 (nn : Int)) rfl
  have x9 := frozen_of_row _ _ 9 _ _ HB3.out
  have HB4 : Hid ((w3.setCell ⟨w.heap.size, 9, none⟩ (.int .i64 ((nn : Int) - 1))).heap[w.heap.size]? = some (.cells #[.int .i64 c0, .int .i64 c1, .int .i64 c2, .int .i64 c3, .int .i64 c4, .int .i64 c5, .int .i64 c6, .int .i64 c7, .int .i64 (((hd : Int) + 1) % 8), .int .i64 ((nn : Int) - 1)] 38 (0, 0))) := Lib.hid (blk_set HB3.out 9 (.int .i64 ((nn : Int) - 1)))
  have HZ4 : Hid ((w3.setCell ⟨w.heap.size, 9, none⟩ (.int .i64 ((nn : Int) - 1))).heap[w.heap.size + 1]? = some (.cells #[.int .i64 0, .int .i64 0, .int .i64 0, .int .i64 0, .int .i64 0, .int .i64 0, .int .i64 0, .int .i64 0, .int .i64 0, .int .i64 0] 38 (0, 0))) := Lib.hid (blk_set_other HZ3.out _ (by simp) _)
  have HX4 : Hid (Ext w (w3.setCell ⟨w.heap.size, 9, none⟩ (.int .i64 ((nn : Int) - 1)))) := Lib.hid (HX3.out.setCell (Nat.le_refl _) _)
  go_upto_region 9 with fail
  generalize hw4 : w3.setCell ⟨w.heap.size, 9, none⟩ (.int .i64 ((nn : Int) - 1)) = w4 at *
  clear hw4 q9 x9 HB3 HZ3 HX3 e5 e6 e7 e8
  obtain ⟨⟨q0, q1, q2, q3, q4⟩, q5, q6, q7, q8, q9⟩ := cells10 HB4.out
  have HZB := HZ4
  obtain ⟨⟨z0, z1, z2, z3, z4⟩, z5, z6, z7, z8, z9⟩ := cells10 HZB.out
  obtain ⟨⟨y0, y1, y2, y3, y4⟩, y5, y6, y7, y8, y9⟩ := frozen10 HZB.out
  go_wp2
  have hzz := set10_at HZB.out (.int .i64 c0) (.int .i64 c1) (.int .i64 c2) (.int .i64 c3) (.int .i64 c4) (.int .i64 c5) (.int .i64 c6) (.int .i64 c7) (.int .i64 (((hd : Int) + 1) % 8)) (.int .i64 ((nn : Int) - 1))
  clear z0 z1 z2 z3 z4 z5 z6 z7 z8 z9 y0 y1 y2 y3 y4 y5 y6 y7 y8 y9
  clear q0 q1 q2 q3 q4 q5 q6 q7 q8 q9
  obtain ⟨⟨t0, t1, t2, t3, t4⟩, t5, t6, t7, t8, t9⟩ := cells10 hzz
  refine bodyPost_ret (v := .tuple #[.agg #[.int .i64 c0, .int .i64 c1, .int .i64 c2, .int .i64 c3, .int .i64 c4, .int .i64 c5, .int .i64 c6, .int .i64 c7, .int .i64 (((hd : Int) + 1) % 8), .int .i64 ((nn : Int) - 1)], .int .i64 x, .bool true]) (by simp [results, Try.results114, go_sem, t0, t1, t2, t3, t4, t5, t6, t7, t8, t9]) rfl ⟨rfl, ?_⟩
  exact set10_ext HX4.out (by omega) _ _ _ _ _ _ _ _ _ _
/-- What a call of Pop answers. -/
theorem rpop_k (b0 b1 b2 b3 b4 b5 b6 b7 hd nn : Int) (c0 c1 c2 c3 c4 c5 c6 c7 hd' nn' x : Int) (ok : Bool) (h : Ri.pop ⟨[b0, b1, b2, b3, b4, b5, b6, b7], hd, nn⟩ = (⟨[c0, c1, c2, c3, c4, c5, c6, c7], hd', nn'⟩, x, ok)) (w : World) :
    Calls Try.prog 114 #[.agg #[.int .i64 b0, .int .i64 b1, .int .i64 b2, .int .i64 b3, .int .i64 b4, .int .i64 b5, .int .i64 b6, .int .i64 b7, .int .i64 hd, .int .i64 nn]] w fun e w' => e = .returned (.tuple #[.agg #[.int .i64 c0, .int .i64 c1, .int .i64 c2, .int .i64 c3, .int .i64 c4, .int .i64 c5, .int .i64 c6, .int .i64 c7, .int .i64 hd', .int .i64 nn'], .int .i64 x, .bool ok]) ∧ Ext w w' := by
  unfold Ri.pop at h
  split at h
  · rename_i hm
    have hi : Ri.inside ⟨[b0, b1, b2, b3, b4, b5, b6, b7], hd, nn⟩ = true := by have := hm; unfold Ri.may at this; rw [Bool.and_eq_true] at this; exact this.1
    obtain ⟨a, n, rfl, rfl, h1, h2⟩ := Ri.inside_nat hi
    split at h
    · rename_i h0
      simp only [Prod.mk.injEq, Ri.mk.injEq, List.cons.injEq, and_true] at h
      obtain ⟨⟨⟨rfl, rfl, rfl, rfl, rfl, rfl, rfl, rfl⟩, rfl, rfl⟩, rfl, rfl⟩ := h
      exact rpop_none b0 b1 b2 b3 b4 b5 b6 b7 a n hm h0 w
    · rename_i h0
      simp only [Prod.mk.injEq, Ri.mk.injEq, Int.toNat_natCast] at h
      obtain ⟨⟨hs, rfl, rfl⟩, hx, rfl⟩ := h
      exact rpop_ok b0 b1 b2 b3 b4 b5 b6 b7 a n h1 h2 (by simp only at h0; omega) hm c0 c1 c2 c3 c4 c5 c6 c7 x hs hx w
  · rename_i hm
    simp only [Prod.mk.injEq, Ri.zero, Ri.mk.injEq, List.cons.injEq, and_true] at h
    obtain ⟨⟨⟨rfl, rfl, rfl, rfl, rfl, rfl, rfl, rfl⟩, rfl, rfl⟩, rfl, rfl⟩ := h
    exact rpop_no b0 b1 b2 b3 b4 b5 b6 b7 hd nn (by simpa using hm) w

end Go.Proofs.Ytogcfndhcphpaaa
/-
  The contract of ring.List.
-/
set_option linter.unusedVariables false
set_option linter.unusedSimpArgs false
namespace Go.Proofs.Ytogcfndhcphpaaa
open Go.RowKit Go.Shelf
attribute [local go_sem] Oper.semAt_some

theorem Try.infoRint : (Try.prog.info? 3).map (fun i => (i.zero, i.size, i.bytes)) = some (some (.int .i64 0), 1, 8) := by kernel_rfl
theorem ring_not_row {W : World} {g : Nat} {r : Ri} (h : RingIn g r W) {base k : Nat} {v : Value} {xs : List Value} (hr : W.ownsRow base 3 1 v k xs) : some g ≠ v.ownBlock := by
  rcases hr.2 with ⟨rfl, _⟩ | ⟨g', cap, cur, rfl, _, hgb, _⟩
  · simp [Value.ownBlock]
  · intro e'
    obtain rfl : g = g' := by simpa [Value.ownBlock] using e'
    have := (show W.heap[g]? = _ from h).symm.trans hgb
    simp at this
def seconds (pre : List I8) : List Int := pre.map fun p => p.1.2
theorem seconds_snoc (pre : List I8) (x : I8) : seconds (pre ++ [x]) = seconds pre ++ [x.1.2] := by simp [seconds]
theorem seconds_len (pre : List I8) : (seconds pre).length = pre.length := by simp [seconds]
theorem Ri.list_upto {hd nn : Nat} {bs : List Int} (hm : Ri.may ⟨bs, hd, nn⟩ = true) : Ri.list ⟨bs, hd, nn⟩ = seconds (upto (Ri.pair hd bs) nn) := by
  unfold Ri.list
  rw [if_pos hm]
  simp [seconds, upto, Ri.elem, Ri.pair]
set_option maxRecDepth 100000 in
set_option maxHeartbeats 1000000 in
theorem rlist_no (b0 b1 b2 b3 b4 b5 b6 b7 hd nn : Int) (hm : Ri.may ⟨[b0, b1, b2, b3, b4, b5, b6, b7], hd, nn⟩ = false) (w : World) :
    Calls Try.prog 118 #[.agg #[.int .i64 b0, .int .i64 b1, .int .i64 b2, .int .i64 b3, .int .i64 b4, .int .i64 b5, .int .i64 b6, .int .i64 b7, .int .i64 hd, .int .i64 nn]] w fun e w' => e = .returned (.slice none 0 0) ∧ Ext w w' := by
  have HM := Lib.hid hm
  clear hm
  go_enter Try.func118, Try.ntmps118
  go_wp2_with fail
  refine (rmay_eq b0 b1 b2 b3 b4 b5 b6 b7 hd nn _ HM.out _).mono ?_
  rintro r w1 ⟨rfl, hx1⟩
  go_wp2
  go_ret
  exact ⟨rfl, ((Ext.refl w).alloc _).trans hx1⟩
set_option maxRecDepth 100000 in
set_option maxHeartbeats 2000000 in
theorem rlist_in (b0 b1 b2 b3 b4 b5 b6 b7 : Int) (hd nn : Nat) (hhd : hd < 8) (hnn : nn ≤ 8) (hm : Ri.may ⟨[b0, b1, b2, b3, b4, b5, b6, b7], hd, nn⟩ = true) (w : World) :
    Calls Try.prog 118 #[.agg #[.int .i64 b0, .int .i64 b1, .int .i64 b2, .int .i64 b3, .int .i64 b4, .int .i64 b5, .int .i64 b6, .int .i64 b7, .int .i64 (hd : Int), .int .i64 (nn : Int)]] w fun e w' => ∃ v, e = .returned v ∧ IntsAt w' v (seconds (upto (Ri.pair hd [b0, b1, b2, b3, b4, b5, b6, b7]) nn)) ∧ Ext w w' := by
  have HM := Lib.hid hm
  clear hm
  obtain ⟨i0, hi, hz0, hz1, hz2⟩ := info_parts Try.infoRint
  refine (callsIn_wide (n := 3)).1 ?_
  have h1 : 1 ≤ 3 := by omega
  refine callsIn_of_wp_marks Try.func118 rfl trivial ?_ rfl
  simp only [Try.ntmps118, List.size_toArray, List.length_cons, List.length_nil, Nat.reduceAdd, Nat.reduceSub, Array.replicate_succ, Array.replicate_zero, List.push_toArray, List.append_toArray, List.nil_append, List.cons_append]
  gi_wp2_with fail
  refine ⟨trivial, callsIn_wide.2 ((rmay_eq b0 b1 b2 b3 b4 b5 b6 b7 hd nn _ HM.out _).mono ?_)⟩
  rintro r w1 ⟨rfl, hx1⟩
  obtain ⟨⟨q0, q1, q2, q3, q4⟩, q5, q6, q7, q8, q9⟩ := cells10 (blk_alloc (hx1.blk (blk_new w (.cells #[.int .i64 b0, .int .i64 b1, .int .i64 b2, .int .i64 b3, .int .i64 b4, .int .i64 b5, .int .i64 b6, .int .i64 b7, .int .i64 (hd : Int), .int .i64 (nn : Int)] 38))) (.cells #[.slice none 0 0] 27))
  have HX1 : Hid (Ext w w1) := Lib.hid (((Ext.refl w).alloc _).trans hx1)
  clear hx1
  gi_wp2_with fail
  refine ⟨trivial, (elements_in Fence.wide (3 - 1) trivial rfl _ _ _ _ _ _ _ _ _ _ _).mono ?_⟩
  rintro e w' ⟨rfl, rfl⟩
  clear q0 q1 q2 q3 q4 q5 q6 q7 q8 q9
  gi_wp2_with fail
  have bO := (Boxed.new w1 27 (.slice none 0 0)).alloc (.cells #[.int .i64 b0, .int .i64 b1, .int .i64 b2, .int .i64 b3, .int .i64 b4, .int .i64 b5, .int .i64 b6, .int .i64 b7, .int .i64 (hd : Int), .int .i64 (nn : Int)] 38)
  have hA3 : RingIn (w1.heap.size + 1) ⟨[b0, b1, b2, b3, b4, b5, b6, b7], hd, nn⟩ ((w1.alloc (.cells #[.slice none 0 0] 27)).alloc (.cells #[.int .i64 b0, .int .i64 b1, .int .i64 b2, .int .i64 b3, .int .i64 b4, .int .i64 b5, .int .i64 b6, .int .i64 b7, .int .i64 (hd : Int), .int .i64 (nn : Int)] 38)) := by
    have := blk_new (w1.alloc (.cells #[.slice none 0 0] 27)) (.cells #[.int .i64 b0, .int .i64 b1, .int .i64 b2, .int .i64 b3, .int .i64 b4, .int .i64 b5, .int .i64 b6, .int .i64 b7, .int .i64 (hd : Int), .int .i64 (nn : Int)] 38)
    rwa [World.size_alloc] at this
  have hX0 : Ext w ((w1.alloc (.cells #[.slice none 0 0] 27)).alloc (.cells #[.int .i64 b0, .int .i64 b1, .int .i64 b2, .int .i64 b3, .int .i64 b4, .int .i64 b5, .int .i64 b6, .int .i64 b7, .int .i64 (hd : Int), .int .i64 (nn : Int)] 38)) := (HX1.out.alloc _).alloc _
  have hS3 : ((w1.alloc (.cells #[.slice none 0 0] 27)).alloc (.cells #[.int .i64 b0, .int .i64 b1, .int .i64 b2, .int .i64 b3, .int .i64 b4, .int .i64 b5, .int .i64 b6, .int .i64 b7, .int .i64 (hd : Int), .int .i64 (nn : Int)] 38)).heap.size = w1.heap.size + 2 := by simp [World.size_alloc]
  have hsz := HX1.out.size
  generalize hW3 : (w1.alloc (.cells #[.slice none 0 0] 27)).alloc (.cells #[.int .i64 b0, .int .i64 b1, .int .i64 b2, .int .i64 b3, .int .i64 b4, .int .i64 b5, .int .i64 b6, .int .i64 b7, .int .i64 (hd : Int), .int .i64 (nn : Int)] 38) = W3 at *
  clear hW3
  apply wpIn_rangeFunc_ownG rfl h1 (gf := 126) (lb := #[.pointer (some ⟨w1.heap.size + 1, 0, none⟩)]) rfl trivial (enters_of Try.func126 (by kernel_rfl) rfl)
    (elements_stops Fence.wide (3 - 1) trivial rfl (by omega) (w1.heap.size + 1) hd nn [b0, b1, b2, b3, b4, b5, b6, b7] rfl hhd hnn W3 (by omega) hA3) (keepsAt_t (w1.heap.size + 1)) (keepsAt_b (by omega)) (Below.refl _ _) (fun _ => rfl)
    (fun pre W => ((∃ v, Boxed W w1.heap.size 27 v ∧ W.ownsRow w.heap.size 3 1 v (seconds pre).length (intsV (seconds pre)) ∧ True) ∧ RingIn (w1.heap.size + 1) ⟨[b0, b1, b2, b3, b4, b5, b6, b7], hd, nn⟩ W) ∧ Ext w W)
    (fun _ _ _ => False)
    (OwnFrom.and (OwnFrom.and (Own.from (holdsRow_own w.heap.size w1.heap.size 27 3 1 (fun pre => (seconds pre).length) (fun pre => intsV (seconds pre)) (fun _ _ => True)) _) (Own.from (fun s A B row hs hg hr => blk_own (w1.heap.size + 1) (fun (_ : Unit) => .cells (⟨[b0, b1, b2, b3, b4, b5, b6, b7], hd, nn⟩ : Ri).cells 38 (0, 0)) (fun _ => rfl) () A B row hs hg hr) _)) (ownFrom_below (Nat.le_refl _) (by omega)))
    (fun _ _ _ _ _ hs _ _ => hs)
    ⟨⟨⟨_, bO, World.ownsRow_nil _ _ _ _, trivial⟩, hA3⟩, hX0⟩ _ ?assign ?body ?done ?stop
  case assign =>
    intro l x W K hK
    gi_wp2
    exact hK
  case body =>
    rintro l pre ⟨⟨x1, x2⟩, hx0, hx8⟩ W ⟨⟨⟨v, hv, hrow, _⟩, hA⟩, hB⟩ hlt
    have hc := hv.cell
    have hpl := seconds_len pre
    have hne := ring_not_row hA hrow
    gi_wp2_with (gi_at_builtin; refine wpListIn_append_own _ rfl _ _ 27 rfl w.heap.size 3 i0 (.int .i64 0) 1 8 Try.underlying27 hi hz0 hz1 hz2 rfl (by decide) _ _ _ rfl (hrow.alloc _) ⟨W.heap.size, 0, none⟩ 1 1 [.int .i64 x2] rfl rfl (cell_one_new _ _ _) (by simp [Value.oneCell']) (by unfold maxLen; omega) (by omega) (by have := hB.size; simp; omega) ?_; intro v' w2 hown' hgrow _; obtain ⟨g', cap', rfl⟩ := ownsRow_succ hown'; obtain ⟨hv1, hv2, hr2, hk2, hb2⟩ := hv.appended (by decide) hrow hB.size hsz hown' hgrow; have hc1 := hv1.cell; have hf1 := hv1.frozen)
    have hA2 : RingIn (w1.heap.size + 1) ⟨[b0, b1, b2, b3, b4, b5, b6, b7], hd, nn⟩ w2 := (hgrow.block (w1.heap.size + 1) (by have := blk_lt hA; simp; omega) hne).trans (blk_alloc hA _)
    have hA3' := blk_set_other hA2 ⟨w1.heap.size, 0, none⟩ (by simp only; omega) (.slice (some ⟨g', 0, none⟩) ((seconds pre).length + 1) cap')
    (try simp only [hpl] at hA3')
    (try simp only [hpl] at hv2)
    (try simp only [hpl] at hr2)
    (try simp only [hpl] at hk2)
    (try simp only [hpl] at hb2)
    refine ⟨hk2.from _, fun o ho => ?_, ⟨⟨_, hv2, ?_⟩, hA3'⟩, Below.trans (show Below w.heap.size w W from hB) hb2⟩
    · rw [show W.heap[w1.heap.size + 1]? = _ from hA] at ho
      cases ho
      exact hA3'
    · rw [seconds_snoc]
      simpa [intsV, hpl] using hr2
  case done =>
    rintro D ys W hD rfl ⟨⟨⟨v, hv, hrow, _⟩, hA⟩, hB⟩ hK
    have hc := hv.cell
    gi_wp2
    refine ⟨by simp, .inl ⟨_, _, rfl, run_takeDeferred hK, ?_⟩⟩
    obtain ⟨A', c', h1', h2'⟩ := OwnInts.ints (ownsRow_putObj hrow (.deferred none) hK rfl)
    refine ⟨_, results_tmp rfl _ _ _, v, rfl, by rw [h1']; exact h2', Below.trans (show Below w.heap.size w W from hB) (belowK_b (w := w) (Nat.le_refl _) W D _ _ (by omega) hK rfl rfl)⟩
  case stop =>
    rintro D c pre W _ _ h _
    exact h.elim
theorem rlist_k (b0 b1 b2 b3 b4 b5 b6 b7 hd nn : Int) (l : List Int) (h : Ri.list ⟨[b0, b1, b2, b3, b4, b5, b6, b7], hd, nn⟩ = l) (w : World) :
    Calls Try.prog 118 #[.agg #[.int .i64 b0, .int .i64 b1, .int .i64 b2, .int .i64 b3, .int .i64 b4, .int .i64 b5, .int .i64 b6, .int .i64 b7, .int .i64 hd, .int .i64 nn]] w fun e w' => ∃ v, e = .returned v ∧ IntsAt w' v l ∧ Ext w w' := by
  subst h
  cases hm : Ri.may ⟨[b0, b1, b2, b3, b4, b5, b6, b7], hd, nn⟩ with
  | false =>
    refine (rlist_no b0 b1 b2 b3 b4 b5 b6 b7 hd nn hm w).mono ?_
    rintro e w' ⟨rfl, hx⟩
    refine ⟨_, rfl, ?_, hx⟩
    unfold Ri.list
    rw [hm]
    exact ⟨none, 0, rfl, fun h => by simp at h⟩
  | true =>
    have hi : Ri.inside ⟨[b0, b1, b2, b3, b4, b5, b6, b7], hd, nn⟩ = true := by have := hm; unfold Ri.may at this; rw [Bool.and_eq_true] at this; exact this.1
    obtain ⟨a, n, rfl, rfl, h1, h2⟩ := Ri.inside_nat hi
    rw [Ri.list_upto hm]
    exact rlist_in b0 b1 b2 b3 b4 b5 b6 b7 a n h1 h2 hm w

end Go.Proofs.Ytogcfndhcphpaaa
/-
  The contract of ring.Of.
-/
set_option linter.unusedVariables false
set_option linter.unusedSimpArgs false
namespace Go.Proofs.Ytogcfndhcphpaaa
open Go.RowKit
theorem Ri.push_len {r : Ri} {g : Int} (h : r.buf.length = 8) : (r.push g).1.buf.length = 8 := by
  unfold Ri.push; split
  · simp [h]
  · rfl
theorem Ri.pop_len {r : Ri} (h : r.buf.length = 8) : r.pop.1.buf.length = 8 := by
  unfold Ri.pop; split
  · split
    · exact h
    · simp [h]
  · rfl
end Go.Proofs.Ytogcfndhcphpaaa
/-
  The contract of ring.Half.
-/
set_option linter.unusedVariables false
set_option linter.unusedSimpArgs false
namespace Go.Proofs.Ytogcfndhcphpaaa
open Go.RowKit
def Ri.takes : Nat → Ri → List Int → Ri × List Int
  | 0, r, o => (r, o)
  | k + 1, r, o => Ri.takes k r.pop.1 (o ++ [r.pop.2.1])
def Ri.half (r : Ri) : Ri × List Int := if r.may then Ri.takes ((r.n.toNat + 1) / 2) r [] else (Ri.zero, [])
set_option maxRecDepth 100000 in
set_option maxHeartbeats 1000000 in
theorem rhalf_no (b0 b1 b2 b3 b4 b5 b6 b7 hd nn : Int) (hm : Ri.may ⟨[b0, b1, b2, b3, b4, b5, b6, b7], hd, nn⟩ = false) (w : World) :
    Calls Try.prog 69 #[.agg #[.int .i64 b0, .int .i64 b1, .int .i64 b2, .int .i64 b3, .int .i64 b4, .int .i64 b5, .int .i64 b6, .int .i64 b7, .int .i64 hd, .int .i64 nn]] w fun e w' => e = .returned (.tuple #[.agg #[.int .i64 0, .int .i64 0, .int .i64 0, .int .i64 0, .int .i64 0, .int .i64 0, .int .i64 0, .int .i64 0, .int .i64 0, .int .i64 0], .slice none 0 0]) ∧ Ext w w' := by
  have HM := Lib.hid hm
  clear hm
  go_enter Try.func69, Try.ntmps69
  go_wp2_with fail
  refine (rmay_eq b0 b1 b2 b3 b4 b5 b6 b7 hd nn _ HM.out _).mono ?_
  rintro r w1 ⟨rfl, hx1⟩
  have HX := Lib.hid ((((Ext.refl w).alloc (.cells #[.int .i64 b0, .int .i64 b1, .int .i64 b2, .int .i64 b3, .int .i64 b4, .int .i64 b5, .int .i64 b6, .int .i64 b7, .int .i64 hd, .int .i64 nn] 38)).alloc (.cells #[.int .i64 0, .int .i64 0, .int .i64 0, .int .i64 0, .int .i64 0, .int .i64 0, .int .i64 0, .int .i64 0, .int .i64 0, .int .i64 0] 38)).trans hx1)
  have HZB : Hid (w1.heap[w.heap.size + 1]? = some (.cells #[.int .i64 0, .int .i64 0, .int .i64 0, .int .i64 0, .int .i64 0, .int .i64 0, .int .i64 0, .int .i64 0, .int .i64 0, .int .i64 0] 38 (0, 0))) := Lib.hid (hx1.blk (by have := blk_new (w.alloc (.cells #[.int .i64 b0, .int .i64 b1, .int .i64 b2, .int .i64 b3, .int .i64 b4, .int .i64 b5, .int .i64 b6, .int .i64 b7, .int .i64 hd, .int .i64 nn] 38)) (.cells #[.int .i64 0, .int .i64 0, .int .i64 0, .int .i64 0, .int .i64 0, .int .i64 0, .int .i64 0, .int .i64 0, .int .i64 0, .int .i64 0] 38); rwa [World.size_alloc] at this))
  clear hx1
  obtain ⟨⟨z0, z1, z2, z3, z4⟩, z5, z6, z7, z8, z9⟩ := cells10 HZB.out
  obtain ⟨⟨y0, y1, y2, y3, y4⟩, y5, y6, y7, y8, y9⟩ := frozen10 HZB.out
  go_wp2
  have hzz := set10_at HZB.out (.int .i64 0) (.int .i64 0) (.int .i64 0) (.int .i64 0) (.int .i64 0) (.int .i64 0) (.int .i64 0) (.int .i64 0) (.int .i64 0) (.int .i64 0)
  clear z0 z1 z2 z3 z4 z5 z6 z7 z8 z9 y0 y1 y2 y3 y4 y5 y6 y7 y8 y9
  obtain ⟨⟨t0, t1, t2, t3, t4⟩, t5, t6, t7, t8, t9⟩ := cells10 hzz
  refine bodyPost_ret (v := .tuple #[.agg #[.int .i64 0, .int .i64 0, .int .i64 0, .int .i64 0, .int .i64 0, .int .i64 0, .int .i64 0, .int .i64 0, .int .i64 0, .int .i64 0], .slice none 0 0]) (by simp [results, Try.results69, go_sem, t0, t1, t2, t3, t4, t5, t6, t7, t8, t9]) rfl ⟨rfl, ?_⟩
  exact set10_ext HX.out (by omega) _ _ _ _ _ _ _ _ _ _
theorem upd10 (g : Nat) (w5 : World) (d0 d1 d2 d3 d4 d5 d6 d7 d8 d9 : Value) : Upd g w5 ((((((((((w5.setCell ⟨g, 0, none⟩ d0).setCell ⟨g, 1, none⟩ d1).setCell ⟨g, 2, none⟩ d2).setCell ⟨g, 3, none⟩ d3).setCell ⟨g, 4, none⟩ d4).setCell ⟨g, 5, none⟩ d5).setCell ⟨g, 6, none⟩ d6).setCell ⟨g, 7, none⟩ d7).setCell ⟨g, 8, none⟩ d8).setCell ⟨g, 9, none⟩ d9) :=
  ((((((((((Upd.refl g w5).set 0 d0).set 1 d1).set 2 d2).set 3 d3).set 4 d4).set 5 d5).set 6 d6).set 7 d7).set 8 d8).set 9 d9
end Go.Proofs.Ytogcfndhcphpaaa
/-
  Layer 9's own helper 'fixed': it returns true.
-/
set_option linter.unusedVariables false
set_option linter.unusedSimpArgs false
namespace Go.Proofs.Ytogcfndhcphpaaa
open Go.RowKit
theorem ints_lit (w : World) (xs : List Int) : IntsAt (w.alloc (.cells (bufCells xs) 3)) (.slice (some ⟨w.heap.size, 0, none⟩) xs.length xs.length) xs :=
  ⟨_, xs.length, rfl, fun _ => ⟨w.heap.size, 0, rfl, by simp, fun j x hj => by
    have hlt : j < xs.length := (List.getElem?_eq_some_iff.1 hj).1
    have hx : xs[j] = x := (List.getElem?_eq_some_iff.1 hj).2
    have := blk_cell (blk_new w (.cells (bufCells xs) 3)) j _ (bufCells_at hlt)
    rw [hx] at this
    simpa using this⟩⟩
theorem Ri.F2 : Ri.half ⟨[1, 2, 3, 0, 0, 0, 0, 0], 0, 3⟩ = (⟨[0, 0, 3, 0, 0, 0, 0, 0], 2, 1⟩, [1, 2]) := by kernel_rfl
end Go.Proofs.Ytogcfndhcphpaaa
/-
  The walk of the statement RingRound.
-/
set_option linter.unusedVariables false
set_option linter.unusedSimpArgs false
namespace Go.Proofs.Ytogcfndhcphpaaa
open Go.RowKit
theorem rints_self' (v u : Value) (xs : List Int) (w : World) (h : IntsAt w v xs) (k : IntsAt w u xs) (hn : xs.length ≤ 9223372036854775807 := by simp) :
    Calls Try.prog 30 #[v, u] w fun e w' => e = .returned (.bool true) ∧ Ext w w' := rints_eq v u xs xs true (decide_eq_true rfl) w h k hn
def Ri.one (g : Int) (a : Nat) : List Int := [0, 0, 0, 0, 0, 0, 0, 0].set a g
theorem Ri.round {g : Int} (hg : 1 ≤ g) (a : Nat) (ha : a < 8) :
    Ri.push ⟨Ri.one g a, a, 1⟩ g = (⟨(Ri.one g a).set ((a + 1) % 8) g, a, 2⟩, true) ∧ Ri.pop ⟨(Ri.one g a).set ((a + 1) % 8) g, a, 2⟩ = (⟨Ri.one g ((a + 1) % 8), ((a + 1) % 8 : Nat), 1⟩, g, true) ∧ Ri.list ⟨Ri.one g a, a, 1⟩ = [g] := by
  have h0 : 0 < g := by omega
  have h1 : decide (0 < g) = true := decide_eq_true h0
  have h2 : decide (1 ≤ g) = true := decide_eq_true hg
  rcases a with _ | _ | _ | _ | _ | _ | _ | _ | a
  all_goals first
    | omega
    | (refine ⟨?_, ?_, ?_⟩ <;> simp [Ri.push, Ri.pop, Ri.list, Ri.may, Ri.inside, Ri.okAt, Ri.one, Ri.elem, List.range_succ, h0, hg])
end Go.Proofs.Ytogcfndhcphpaaa
/-
  Rings as queues: plain mathematics.
-/
set_option linter.unusedVariables false
set_option linter.unusedSimpArgs false
namespace Go.Proofs.Ytogcfndhcphpaaa
open Go.RowKit
theorem Ri.may_nat {hd nn : Nat} (h : hd < 8) (hn : nn ≤ 8) {bs : List Int} :
    Ri.may ⟨bs, hd, nn⟩ = true ↔ ∀ j < 8, if (j + 8 - hd) % 8 < nn then 0 < bs[j]?.getD 0 else bs[j]?.getD 0 = 0 := by
  have hi : Ri.inside ⟨bs, hd, nn⟩ = true := (Ri.inside_iff _).2 (by simp only; omega)
  unfold Ri.may
  rw [hi, Bool.true_and, List.all_eq_true]
  simp only [List.mem_range, Ri.okAt, Int.toNat_natCast]
  constructor
  · intro k j hj
    have := k j hj
    split
    · rename_i hc; rw [if_pos hc] at this; exact of_decide_eq_true this
    · rename_i hc; rw [if_neg hc] at this; exact of_decide_eq_true this
  · intro k j hj
    have := k j hj
    split
    · rename_i hc; rw [if_pos hc] at this; exact decide_eq_true this
    · rename_i hc; rw [if_neg hc] at this; exact decide_eq_true this
/-- A ring with its ten numbers. -/
theorem Ri.open8 {r : Ri} (h : r.buf.length = 8) : ∃ b0 b1 b2 b3 b4 b5 b6 b7 hd n, r = ⟨[b0, b1, b2, b3, b4, b5, b6, b7], hd, n⟩ := by
  obtain ⟨bs, hd, n⟩ := r
  obtain ⟨b0, b1, b2, b3, b4, b5, b6, b7, rfl⟩ := list8 h
  exact ⟨b0, b1, b2, b3, b4, b5, b6, b7, hd, n, rfl⟩

end Go.Proofs.Ytogcfndhcphpaaa
