/-
  The contracts of ring.Push and ring.Pop.
-/
import Derived.Test.YtdpmogbibmgolaaNd
import Derived.Deep.DeepCutAuto
set_option linter.unusedVariables false
set_option linter.unusedSimpArgs false
namespace Go.Proofs.Ytdpmogbibmgolaa
open Go.RowKit

theorem rmay_eq (b0 b1 b2 b3 b4 b5 b6 b7 hd nn : Int) (m : Bool) (hm : Ri.may ⟨[b0, b1, b2, b3, b4, b5, b6, b7], hd, nn⟩ = m) (w : World) :
    Calls Try.prog 12 #[.agg #[.int .i64 b0, .int .i64 b1, .int .i64 b2, .int .i64 b3, .int .i64 b4, .int .i64 b5, .int .i64 b6, .int .i64 b7, .int .i64 hd, .int .i64 nn]] w fun e w' => e = .returned (.bool m) ∧ Ext w w' := by
  cases hi : Ri.inside ⟨[b0, b1, b2, b3, b4, b5, b6, b7], hd, nn⟩ with
  | true =>
    obtain ⟨h, n, rfl, rfl, h1, h2⟩ := Ri.inside_nat hi
    exact rmay_in b0 b1 b2 b3 b4 b5 b6 b7 h n h1 h2 m hm w
  | false =>
    have h0 : m = false := by rw [← hm]; unfold Ri.may; rw [hi]; rfl
    subst h0
    refine rmay_out b0 b1 b2 b3 b4 b5 b6 b7 hd nn w ?_
    have : ¬ ((0 ≤ hd ∧ hd < 8) ∧ 0 ≤ nn ∧ nn ≤ 8) := fun h => by rw [(Ri.inside_iff ⟨[b0, b1, b2, b3, b4, b5, b6, b7], hd, nn⟩).2 h] at hi; cases hi
    omega
def Ri.zero : Ri := ⟨[0, 0, 0, 0, 0, 0, 0, 0], 0, 0⟩
def Ri.push (r : Ri) (g : Int) : Ri × Bool := if r.may && decide (r.n ≠ 8) && decide (1 ≤ g) then (⟨r.buf.set ((r.head.toNat + r.n.toNat) % 8) g, r.head, r.n + 1⟩, true) else (Ri.zero, false)
def Ri.pop (r : Ri) : Ri × Int × Bool := if r.may then (if r.n = 0 then (r, 0, false) else (⟨r.buf.set r.head.toNat 0, (r.head + 1) % 8, r.n - 1⟩, r.buf[r.head.toNat]?.getD 0, true)) else (Ri.zero, 0, false)
theorem set10_at {v : World} {x : Nat} {c0 c1 c2 c3 c4 c5 c6 c7 c8 c9 : Value} {t : TypeId} (h : v.heap[x]? = some (.cells #[c0, c1, c2, c3, c4, c5, c6, c7, c8, c9] t (0, 0))) (d0 d1 d2 d3 d4 d5 d6 d7 d8 d9 : Value) :
    ((((((((((v.setCell ⟨x, 0, none⟩ d0).setCell ⟨x, 1, none⟩ d1).setCell ⟨x, 2, none⟩ d2).setCell ⟨x, 3, none⟩ d3).setCell ⟨x, 4, none⟩ d4).setCell ⟨x, 5, none⟩ d5).setCell ⟨x, 6, none⟩ d6).setCell ⟨x, 7, none⟩ d7).setCell ⟨x, 8, none⟩ d8).setCell ⟨x, 9, none⟩ d9).heap[x]? = some (.cells #[d0, d1, d2, d3, d4, d5, d6, d7, d8, d9] t (0, 0)) := by
  have h' := blk_set (blk_set (blk_set (blk_set (blk_set (blk_set (blk_set (blk_set (blk_set (blk_set h 0 d0) 1 d1) 2 d2) 3 d3) 4 d4) 5 d5) 6 d6) 7 d7) 8 d8) 9 d9
  simp only [List.setIfInBounds_toArray, List.set_cons_zero, List.set_cons_succ] at h'
  exact h'
theorem set10_ext {W v : World} {x : Nat} (h : Ext W v) (hx : W.heap.size ≤ x) (d0 d1 d2 d3 d4 d5 d6 d7 d8 d9 : Value) :
    Ext W ((((((((((v.setCell ⟨x, 0, none⟩ d0).setCell ⟨x, 1, none⟩ d1).setCell ⟨x, 2, none⟩ d2).setCell ⟨x, 3, none⟩ d3).setCell ⟨x, 4, none⟩ d4).setCell ⟨x, 5, none⟩ d5).setCell ⟨x, 6, none⟩ d6).setCell ⟨x, 7, none⟩ d7).setCell ⟨x, 8, none⟩ d8).setCell ⟨x, 9, none⟩ d9) :=
  (((((((((h.setCell hx _).setCell hx _).setCell hx _).setCell hx _).setCell hx _).setCell hx _).setCell hx _).setCell hx _).setCell hx _).setCell hx _
/-- The ten cells of a block. -/
theorem cells10 {v : World} {x : Nat} {c0 c1 c2 c3 c4 c5 c6 c7 c8 c9 : Value} {t : TypeId} (h : v.heap[x]? = some (.cells #[c0, c1, c2, c3, c4, c5, c6, c7, c8, c9] t (0, 0))) :
    (v.cell? ⟨x, 0, none⟩ = some c0 ∧ v.cell? ⟨x, 1, none⟩ = some c1 ∧ v.cell? ⟨x, 2, none⟩ = some c2 ∧ v.cell? ⟨x, 3, none⟩ = some c3 ∧ v.cell? ⟨x, 4, none⟩ = some c4) ∧ v.cell? ⟨x, 5, none⟩ = some c5 ∧ v.cell? ⟨x, 6, none⟩ = some c6 ∧ v.cell? ⟨x, 7, none⟩ = some c7 ∧ v.cell? ⟨x, 8, none⟩ = some c8 ∧ v.cell? ⟨x, 9, none⟩ = some c9 :=
  ⟨⟨blk_cell h 0 _ rfl, blk_cell h 1 _ rfl, blk_cell h 2 _ rfl, blk_cell h 3 _ rfl, blk_cell h 4 _ rfl⟩, blk_cell h 5 _ rfl, blk_cell h 6 _ rfl, blk_cell h 7 _ rfl, blk_cell h 8 _ rfl, blk_cell h 9 _ rfl⟩
theorem frozen10 {v : World} {x : Nat} {cs : Array Value} {t : TypeId} (h : v.heap[x]? = some (.cells cs t (0, 0))) :
    (v.frozen? ⟨x, 0, none⟩ = false ∧ v.frozen? ⟨x, 1, none⟩ = false ∧ v.frozen? ⟨x, 2, none⟩ = false ∧ v.frozen? ⟨x, 3, none⟩ = false ∧ v.frozen? ⟨x, 4, none⟩ = false) ∧ v.frozen? ⟨x, 5, none⟩ = false ∧ v.frozen? ⟨x, 6, none⟩ = false ∧ v.frozen? ⟨x, 7, none⟩ = false ∧ v.frozen? ⟨x, 8, none⟩ = false ∧ v.frozen? ⟨x, 9, none⟩ = false := by
  have k := fun i => frozen_of_row v x i _ _ h
  exact ⟨⟨k 0, k 1, k 2, k 3, k 4⟩, k 5, k 6, k 7, k 8, k 9⟩
set_option maxRecDepth 100000 in
set_option maxHeartbeats 1000000 in
theorem rpush_no (b0 b1 b2 b3 b4 b5 b6 b7 hd nn g : Int) (m : Bool) (hm : Ri.may ⟨[b0, b1, b2, b3, b4, b5, b6, b7], hd, nn⟩ = m) (h : m = false ∨ (m = true ∧ (nn = 8 ∨ (nn ≠ 8 ∧ g < 1)))) (w : World) :
    Calls Try.prog 10 #[.agg #[.int .i64 b0, .int .i64 b1, .int .i64 b2, .int .i64 b3, .int .i64 b4, .int .i64 b5, .int .i64 b6, .int .i64 b7, .int .i64 hd, .int .i64 nn], .int .i64 g] w fun e w' => e = .returned (.tuple #[.agg #[.int .i64 0, .int .i64 0, .int .i64 0, .int .i64 0, .int .i64 0, .int .i64 0, .int .i64 0, .int .i64 0, .int .i64 0, .int .i64 0], .bool false]) ∧ Ext w w' := by
  have HM := Lib.hid hm
  clear hm
  rcases h with rfl | ⟨rfl, h⟩
  · go_enter Try.func10, Try.ntmps10
    go_wp2_with fail
    refine (rmay_eq b0 b1 b2 b3 b4 b5 b6 b7 hd nn _ HM.out _).mono ?_
    rintro r w1 ⟨rfl, hx1⟩
    have HX := Lib.hid ((((Ext.refl w).alloc (.cells #[.int .i64 b0, .int .i64 b1, .int .i64 b2, .int .i64 b3, .int .i64 b4, .int .i64 b5, .int .i64 b6, .int .i64 b7, .int .i64 hd, .int .i64 nn] 24)).alloc (.cells #[.int .i64 0, .int .i64 0, .int .i64 0, .int .i64 0, .int .i64 0, .int .i64 0, .int .i64 0, .int .i64 0, .int .i64 0, .int .i64 0] 24)).trans hx1)
    have HZB : Hid (w1.heap[w.heap.size + 1]? = some (.cells #[.int .i64 0, .int .i64 0, .int .i64 0, .int .i64 0, .int .i64 0, .int .i64 0, .int .i64 0, .int .i64 0, .int .i64 0, .int .i64 0] 24 (0, 0))) := Lib.hid (hx1.blk (by have := blk_new (w.alloc (.cells #[.int .i64 b0, .int .i64 b1, .int .i64 b2, .int .i64 b3, .int .i64 b4, .int .i64 b5, .int .i64 b6, .int .i64 b7, .int .i64 hd, .int .i64 nn] 24)) (.cells #[.int .i64 0, .int .i64 0, .int .i64 0, .int .i64 0, .int .i64 0, .int .i64 0, .int .i64 0, .int .i64 0, .int .i64 0, .int .i64 0] 24); rwa [World.size_alloc] at this))
    have p9 := blk_cell (hx1.blk (blk_alloc (blk_new w (.cells #[.int .i64 b0, .int .i64 b1, .int .i64 b2, .int .i64 b3, .int .i64 b4, .int .i64 b5, .int .i64 b6, .int .i64 b7, .int .i64 hd, .int .i64 nn] 24)) (.cells #[.int .i64 0, .int .i64 0, .int .i64 0, .int .i64 0, .int .i64 0, .int .i64 0, .int .i64 0, .int .i64 0, .int .i64 0, .int .i64 0] 24))) 9 (.int .i64 nn) rfl
    clear hx1
    obtain ⟨⟨z0, z1, z2, z3, z4⟩, z5, z6, z7, z8, z9⟩ := cells10 HZB.out
    obtain ⟨⟨y0, y1, y2, y3, y4⟩, y5, y6, y7, y8, y9⟩ := frozen10 HZB.out
    go_wp2
    have hzz := set10_at HZB.out (.int .i64 0) (.int .i64 0) (.int .i64 0) (.int .i64 0) (.int .i64 0) (.int .i64 0) (.int .i64 0) (.int .i64 0) (.int .i64 0) (.int .i64 0)
    clear z0 z1 z2 z3 z4 z5 z6 z7 z8 z9 y0 y1 y2 y3 y4 y5 y6 y7 y8 y9
    obtain ⟨⟨t0, t1, t2, t3, t4⟩, t5, t6, t7, t8, t9⟩ := cells10 hzz
    refine bodyPost_ret (v := .tuple #[.agg #[.int .i64 0, .int .i64 0, .int .i64 0, .int .i64 0, .int .i64 0, .int .i64 0, .int .i64 0, .int .i64 0, .int .i64 0, .int .i64 0], .bool false]) (by simp [results, Try.results10, go_sem, t0, t1, t2, t3, t4, t5, t6, t7, t8, t9]) rfl ⟨rfl, ?_⟩
    exact set10_ext HX.out (by omega) _ _ _ _ _ _ _ _ _ _
  · rcases h with h | ⟨h, h2⟩
    · have e0 : (nn == 8) = true := by simpa using h
      clear h
      go_enter Try.func10, Try.ntmps10
      go_wp2_with fail
      refine (rmay_eq b0 b1 b2 b3 b4 b5 b6 b7 hd nn _ HM.out _).mono ?_
      rintro r w1 ⟨rfl, hx1⟩
      have HX := Lib.hid ((((Ext.refl w).alloc (.cells #[.int .i64 b0, .int .i64 b1, .int .i64 b2, .int .i64 b3, .int .i64 b4, .int .i64 b5, .int .i64 b6, .int .i64 b7, .int .i64 hd, .int .i64 nn] 24)).alloc (.cells #[.int .i64 0, .int .i64 0, .int .i64 0, .int .i64 0, .int .i64 0, .int .i64 0, .int .i64 0, .int .i64 0, .int .i64 0, .int .i64 0] 24)).trans hx1)
      have HZB : Hid (w1.heap[w.heap.size + 1]? = some (.cells #[.int .i64 0, .int .i64 0, .int .i64 0, .int .i64 0, .int .i64 0, .int .i64 0, .int .i64 0, .int .i64 0, .int .i64 0, .int .i64 0] 24 (0, 0))) := Lib.hid (hx1.blk (by have := blk_new (w.alloc (.cells #[.int .i64 b0, .int .i64 b1, .int .i64 b2, .int .i64 b3, .int .i64 b4, .int .i64 b5, .int .i64 b6, .int .i64 b7, .int .i64 hd, .int .i64 nn] 24)) (.cells #[.int .i64 0, .int .i64 0, .int .i64 0, .int .i64 0, .int .i64 0, .int .i64 0, .int .i64 0, .int .i64 0, .int .i64 0, .int .i64 0] 24); rwa [World.size_alloc] at this))
      have p9 := blk_cell (hx1.blk (blk_alloc (blk_new w (.cells #[.int .i64 b0, .int .i64 b1, .int .i64 b2, .int .i64 b3, .int .i64 b4, .int .i64 b5, .int .i64 b6, .int .i64 b7, .int .i64 hd, .int .i64 nn] 24)) (.cells #[.int .i64 0, .int .i64 0, .int .i64 0, .int .i64 0, .int .i64 0, .int .i64 0, .int .i64 0, .int .i64 0, .int .i64 0, .int .i64 0] 24))) 9 (.int .i64 nn) rfl
      clear hx1
      obtain ⟨⟨z0, z1, z2, z3, z4⟩, z5, z6, z7, z8, z9⟩ := cells10 HZB.out
      obtain ⟨⟨y0, y1, y2, y3, y4⟩, y5, y6, y7, y8, y9⟩ := frozen10 HZB.out
      go_wp2
      have hzz := set10_at HZB.out (.int .i64 0) (.int .i64 0) (.int .i64 0) (.int .i64 0) (.int .i64 0) (.int .i64 0) (.int .i64 0) (.int .i64 0) (.int .i64 0) (.int .i64 0)
      clear z0 z1 z2 z3 z4 z5 z6 z7 z8 z9 y0 y1 y2 y3 y4 y5 y6 y7 y8 y9
      obtain ⟨⟨t0, t1, t2, t3, t4⟩, t5, t6, t7, t8, t9⟩ := cells10 hzz
      refine bodyPost_ret (v := .tuple #[.agg #[.int .i64 0, .int .i64 0, .int .i64 0, .int .i64 0, .int .i64 0, .int .i64 0, .int .i64 0, .int .i64 0, .int .i64 0, .int .i64 0], .bool false]) (by simp [results, Try.results10, go_sem, t0, t1, t2, t3, t4, t5, t6, t7, t8, t9]) rfl ⟨rfl, ?_⟩
      exact set10_ext HX.out (by omega) _ _ _ _ _ _ _ _ _ _
    · have e0 : (nn == 8) = false := by simpa using h
      clear h
      go_enter Try.func10, Try.ntmps10
      go_wp2_with fail
      refine (rmay_eq b0 b1 b2 b3 b4 b5 b6 b7 hd nn _ HM.out _).mono ?_
      rintro r w1 ⟨rfl, hx1⟩
      have HX := Lib.hid ((((Ext.refl w).alloc (.cells #[.int .i64 b0, .int .i64 b1, .int .i64 b2, .int .i64 b3, .int .i64 b4, .int .i64 b5, .int .i64 b6, .int .i64 b7, .int .i64 hd, .int .i64 nn] 24)).alloc (.cells #[.int .i64 0, .int .i64 0, .int .i64 0, .int .i64 0, .int .i64 0, .int .i64 0, .int .i64 0, .int .i64 0, .int .i64 0, .int .i64 0] 24)).trans hx1)
      have HZB : Hid (w1.heap[w.heap.size + 1]? = some (.cells #[.int .i64 0, .int .i64 0, .int .i64 0, .int .i64 0, .int .i64 0, .int .i64 0, .int .i64 0, .int .i64 0, .int .i64 0, .int .i64 0] 24 (0, 0))) := Lib.hid (hx1.blk (by have := blk_new (w.alloc (.cells #[.int .i64 b0, .int .i64 b1, .int .i64 b2, .int .i64 b3, .int .i64 b4, .int .i64 b5, .int .i64 b6, .int .i64 b7, .int .i64 hd, .int .i64 nn] 24)) (.cells #[.int .i64 0, .int .i64 0, .int .i64 0, .int .i64 0, .int .i64 0, .int .i64 0, .int .i64 0, .int .i64 0, .int .i64 0, .int .i64 0] 24); rwa [World.size_alloc] at this))
      have p9 := blk_cell (hx1.blk (blk_alloc (blk_new w (.cells #[.int .i64 b0, .int .i64 b1, .int .i64 b2, .int .i64 b3, .int .i64 b4, .int .i64 b5, .int .i64 b6, .int .i64 b7, .int .i64 hd, .int .i64 nn] 24)) (.cells #[.int .i64 0, .int .i64 0, .int .i64 0, .int .i64 0, .int .i64 0, .int .i64 0, .int .i64 0, .int .i64 0, .int .i64 0, .int .i64 0] 24))) 9 (.int .i64 nn) rfl
      clear hx1
      obtain ⟨⟨z0, z1, z2, z3, z4⟩, z5, z6, z7, z8, z9⟩ := cells10 HZB.out
      obtain ⟨⟨y0, y1, y2, y3, y4⟩, y5, y6, y7, y8, y9⟩ := frozen10 HZB.out
      go_wp2
      have hzz := set10_at HZB.out (.int .i64 0) (.int .i64 0) (.int .i64 0) (.int .i64 0) (.int .i64 0) (.int .i64 0) (.int .i64 0) (.int .i64 0) (.int .i64 0) (.int .i64 0)
      clear z0 z1 z2 z3 z4 z5 z6 z7 z8 z9 y0 y1 y2 y3 y4 y5 y6 y7 y8 y9
      obtain ⟨⟨t0, t1, t2, t3, t4⟩, t5, t6, t7, t8, t9⟩ := cells10 hzz
      refine bodyPost_ret (v := .tuple #[.agg #[.int .i64 0, .int .i64 0, .int .i64 0, .int .i64 0, .int .i64 0, .int .i64 0, .int .i64 0, .int .i64 0, .int .i64 0, .int .i64 0], .bool false]) (by simp [results, Try.results10, go_sem, t0, t1, t2, t3, t4, t5, t6, t7, t8, t9]) rfl ⟨rfl, ?_⟩
      exact set10_ext HX.out (by omega) _ _ _ _ _ _ _ _ _ _
set_option maxRecDepth 100000 in
set_option maxHeartbeats 1000000 in
theorem rpush_ok (b0 b1 b2 b3 b4 b5 b6 b7 g : Int) (hd nn : Nat) (hhd : hd < 8) (hnn : nn < 8) (hm : Ri.may ⟨[b0, b1, b2, b3, b4, b5, b6, b7], hd, nn⟩ = true) (hg : 1 ≤ g) (c0 c1 c2 c3 c4 c5 c6 c7 : Int) (hc : ([b0, b1, b2, b3, b4, b5, b6, b7]).set ((hd + nn) % 8) g = [c0, c1, c2, c3, c4, c5, c6, c7]) (w : World) :
    Calls Try.prog 10 #[.agg #[.int .i64 b0, .int .i64 b1, .int .i64 b2, .int .i64 b3, .int .i64 b4, .int .i64 b5, .int .i64 b6, .int .i64 b7, .int .i64 (hd : Int), .int .i64 (nn : Int)], .int .i64 g] w fun e w' => e = .returned (.tuple #[.agg #[.int .i64 c0, .int .i64 c1, .int .i64 c2, .int .i64 c3, .int .i64 c4, .int .i64 c5, .int .i64 c6, .int .i64 c7, .int .i64 (hd : Int), .int .i64 ((nn : Int) + 1)], .bool true]) ∧ Ext w w' := by
  have HM := Lib.hid hm
  clear hm
  have e0 : ((nn : Int) == 8) = false := beq_eq_false_iff_ne.2 (by omega)
  go_enter Try.func10, Try.ntmps10
  go_wp2_with fail
  refine (rmay_eq b0 b1 b2 b3 b4 b5 b6 b7 hd nn _ HM.out _).mono ?_
  rintro r w1 ⟨rfl, hx1⟩
  have HX := Lib.hid ((((Ext.refl w).alloc (.cells #[.int .i64 b0, .int .i64 b1, .int .i64 b2, .int .i64 b3, .int .i64 b4, .int .i64 b5, .int .i64 b6, .int .i64 b7, .int .i64 (hd : Int), .int .i64 (nn : Int)] 24)).alloc (.cells #[.int .i64 0, .int .i64 0, .int .i64 0, .int .i64 0, .int .i64 0, .int .i64 0, .int .i64 0, .int .i64 0, .int .i64 0, .int .i64 0] 24)).trans hx1)
  have hb : w1.heap[w.heap.size]? = some (.cells (⟨[b0, b1, b2, b3, b4, b5, b6, b7], hd, nn⟩ : Ri).cells 24 (0, 0)) := hx1.blk (blk_alloc (blk_new w (.cells #[.int .i64 b0, .int .i64 b1, .int .i64 b2, .int .i64 b3, .int .i64 b4, .int .i64 b5, .int .i64 b6, .int .i64 b7, .int .i64 (hd : Int), .int .i64 (nn : Int)] 24)) (.cells #[.int .i64 0, .int .i64 0, .int .i64 0, .int .i64 0, .int .i64 0, .int .i64 0, .int .i64 0, .int .i64 0, .int .i64 0, .int .i64 0] 24))
  have HZ1 : Hid (w1.heap[w.heap.size + 1]? = some (.cells #[.int .i64 0, .int .i64 0, .int .i64 0, .int .i64 0, .int .i64 0, .int .i64 0, .int .i64 0, .int .i64 0, .int .i64 0, .int .i64 0] 24 (0, 0))) := Lib.hid (hx1.blk (by have := blk_new (w.alloc (.cells #[.int .i64 b0, .int .i64 b1, .int .i64 b2, .int .i64 b3, .int .i64 b4, .int .i64 b5, .int .i64 b6, .int .i64 b7, .int .i64 (hd : Int), .int .i64 (nn : Int)] 24)) (.cells #[.int .i64 0, .int .i64 0, .int .i64 0, .int .i64 0, .int .i64 0, .int .i64 0, .int .i64 0, .int .i64 0, .int .i64 0, .int .i64 0] 24); rwa [World.size_alloc] at this))
  have p8 := blk_cell hb 8 (.int .i64 (hd : Int)) rfl
  have p9 := blk_cell hb 9 (.int .i64 (nn : Int)) rfl
  have pj := blk_cell hb ((hd + nn) % 8) _ (Ri.cells_buf rfl _ (by omega))
  have yj := frozen_of_row _ _ ((hd + nn) % 8) _ _ hb
  have e1 : IntKind.i64.wrap ((hd : Int) + (nn : Int)) = ((hd + nn : Nat) : Int) := IntWalk.i64_in _ (by omega)
  have e2 : ((hd + nn : Nat) : Int).tmod 8 = (((hd + nn) % 8 : Nat) : Int) := by rw [Int.tmod_eq_emod_of_nonneg (by omega)]; omega
  have e3 : (0 : Int) ≤ (((hd + nn) % 8 : Nat) : Int) := by omega
  have e4 : (((hd + nn) % 8 : Nat) : Int) < 8 := by omega
  have e5 : IntKind.i64.wrap ((nn : Int) + 1) = (nn : Int) + 1 := IntWalk.i64_in _ (by omega)
  have HB2 : Hid ((w1.setCell ⟨w.heap.size, (hd + nn) % 8, none⟩ (.int .i64 g)).heap[w.heap.size]? = some (.cells #[.int .i64 c0, .int .i64 c1, .int .i64 c2, .int .i64 c3, .int .i64 c4, .int .i64 c5, .int .i64 c6, .int .i64 c7, .int .i64 (hd : Int), .int .i64 (nn : Int)] 24 (0, 0))) := Lib.hid (by
    have := blk_set hb ((hd + nn) % 8) (.int .i64 g)
    rw [Ri.cells_set rfl _ (by omega)] at this
    simp only [hc] at this
    exact this)
  have HZ2 : Hid ((w1.setCell ⟨w.heap.size, (hd + nn) % 8, none⟩ (.int .i64 g)).heap[w.heap.size + 1]? = some (.cells #[.int .i64 0, .int .i64 0, .int .i64 0, .int .i64 0, .int .i64 0, .int .i64 0, .int .i64 0, .int .i64 0, .int .i64 0, .int .i64 0] 24 (0, 0))) := Lib.hid (blk_set_other HZ1.out _ (by simp) _)
  have HX2 : Hid (Ext w (w1.setCell ⟨w.heap.size, (hd + nn) % 8, none⟩ (.int .i64 g))) := Lib.hid (HX.out.setCell (Nat.le_refl _) _)
  clear hx1 hb
  go_upto_region 4 with fail
  generalize hw2 : w1.setCell ⟨w.heap.size, (hd + nn) % 8, none⟩ (.int .i64 g) = w2 at *
  clear hw2 p8 p9 pj yj e1 e2 e3 e4 HX HZ1
  have q9 := blk_cell HB2.out 9 (.int .i64 (nn : Int)) rfl
  have x9 := frozen_of_row _ _ 9 _ _ HB2.out
  have HB3 : Hid ((w2.setCell ⟨w.heap.size, 9, none⟩ (.int .i64 ((nn : Int) + 1))).heap[w.heap.size]? = some (.cells #[.int .i64 c0, .int .i64 c1, .int .i64 c2, .int .i64 c3, .int .i64 c4, .int .i64 c5, .int .i64 c6, .int .i64 c7, .int .i64 (hd : Int), .int .i64 ((nn : Int) + 1)] 24 (0, 0))) := Lib.hid (blk_set HB2.out 9 (.int .i64 ((nn : Int) + 1)))
  have HZ3 : Hid ((w2.setCell ⟨w.heap.size, 9, none⟩ (.int .i64 ((nn : Int) + 1))).heap[w.heap.size + 1]? = some (.cells #[.int .i64 0, .int .i64 0, .int .i64 0, .int .i64 0, .int .i64 0, .int .i64 0, .int .i64 0, .int .i64 0, .int .i64 0, .int .i64 0] 24 (0, 0))) := Lib.hid (blk_set_other HZ2.out _ (by simp) _)
  have HX3 : Hid (Ext w (w2.setCell ⟨w.heap.size, 9, none⟩ (.int .i64 ((nn : Int) + 1)))) := Lib.hid (HX2.out.setCell (Nat.le_refl _) _)
  go_upto_region 5 with fail
  generalize hw3 : w2.setCell ⟨w.heap.size, 9, none⟩ (.int .i64 ((nn : Int) + 1)) = w3 at *
  clear hw3 q9 x9 HB2 HZ2 HX2 e5
  obtain ⟨⟨q0, q1, q2, q3, q4⟩, q5, q6, q7, q8, q9⟩ := cells10 HB3.out
  have HZB := HZ3
  obtain ⟨⟨z0, z1, z2, z3, z4⟩, z5, z6, z7, z8, z9⟩ := cells10 HZB.out
  obtain ⟨⟨y0, y1, y2, y3, y4⟩, y5, y6, y7, y8, y9⟩ := frozen10 HZB.out
  go_wp2
  have hzz := set10_at HZB.out (.int .i64 c0) (.int .i64 c1) (.int .i64 c2) (.int .i64 c3) (.int .i64 c4) (.int .i64 c5) (.int .i64 c6) (.int .i64 c7) (.int .i64 (hd : Int)) (.int .i64 ((nn : Int) + 1))
  clear z0 z1 z2 z3 z4 z5 z6 z7 z8 z9 y0 y1 y2 y3 y4 y5 y6 y7 y8 y9
  clear q0 q1 q2 q3 q4 q5 q6 q7 q8 q9
  obtain ⟨⟨t0, t1, t2, t3, t4⟩, t5, t6, t7, t8, t9⟩ := cells10 hzz
  refine bodyPost_ret (v := .tuple #[.agg #[.int .i64 c0, .int .i64 c1, .int .i64 c2, .int .i64 c3, .int .i64 c4, .int .i64 c5, .int .i64 c6, .int .i64 c7, .int .i64 (hd : Int), .int .i64 ((nn : Int) + 1)], .bool true]) (by simp [results, Try.results10, go_sem, t0, t1, t2, t3, t4, t5, t6, t7, t8, t9]) rfl ⟨rfl, ?_⟩
  exact set10_ext HX3.out (by omega) _ _ _ _ _ _ _ _ _ _
/-- What a call of Push answers. -/
theorem rpush_k (b0 b1 b2 b3 b4 b5 b6 b7 hd nn g : Int) (c0 c1 c2 c3 c4 c5 c6 c7 hd' nn' : Int) (ok : Bool) (h : Ri.push ⟨[b0, b1, b2, b3, b4, b5, b6, b7], hd, nn⟩ g = (⟨[c0, c1, c2, c3, c4, c5, c6, c7], hd', nn'⟩, ok)) (w : World) :
    Calls Try.prog 10 #[.agg #[.int .i64 b0, .int .i64 b1, .int .i64 b2, .int .i64 b3, .int .i64 b4, .int .i64 b5, .int .i64 b6, .int .i64 b7, .int .i64 hd, .int .i64 nn], .int .i64 g] w fun e w' => e = .returned (.tuple #[.agg #[.int .i64 c0, .int .i64 c1, .int .i64 c2, .int .i64 c3, .int .i64 c4, .int .i64 c5, .int .i64 c6, .int .i64 c7, .int .i64 hd', .int .i64 nn'], .bool ok]) ∧ Ext w w' := by
  unfold Ri.push at h
  split at h
  · rename_i hc
    simp only [Bool.and_eq_true, decide_eq_true_eq] at hc
    obtain ⟨⟨hm, h8⟩, hg⟩ := hc
    have hi : Ri.inside ⟨[b0, b1, b2, b3, b4, b5, b6, b7], hd, nn⟩ = true := by unfold Ri.may at hm; rw [Bool.and_eq_true] at hm; exact hm.1
    obtain ⟨a, n, rfl, rfl, h1, h2⟩ := Ri.inside_nat hi
    simp only [Prod.mk.injEq, Ri.mk.injEq, Int.toNat_natCast] at h
    obtain ⟨⟨hs, rfl, rfl⟩, rfl⟩ := h
    exact rpush_ok b0 b1 b2 b3 b4 b5 b6 b7 g a n h1 (by omega) hm hg c0 c1 c2 c3 c4 c5 c6 c7 hs w
  · rename_i hc
    simp only [Prod.mk.injEq, Ri.zero, Ri.mk.injEq, List.cons.injEq, and_true] at h
    obtain ⟨⟨⟨rfl, rfl, rfl, rfl, rfl, rfl, rfl, rfl⟩, rfl, rfl⟩, rfl⟩ := h
    refine rpush_no b0 b1 b2 b3 b4 b5 b6 b7 hd nn g _ rfl ?_ w
    cases hm : Ri.may ⟨[b0, b1, b2, b3, b4, b5, b6, b7], hd, nn⟩ with
    | false => exact .inl rfl
    | true =>
      right
      refine ⟨rfl, ?_⟩
      rw [hm] at hc
      simp at hc
      by_cases h8 : nn = 8
      · exact .inl h8
      · exact .inr ⟨h8, by have := hc h8; omega⟩

end Go.Proofs.Ytdpmogbibmgolaa
