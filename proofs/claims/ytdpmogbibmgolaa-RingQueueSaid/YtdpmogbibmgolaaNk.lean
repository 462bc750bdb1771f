/-
  The walk of the statement RingRound.
-/
import Derived.Test.YtdpmogbibmgolaaNj
set_option linter.unusedVariables false
set_option linter.unusedSimpArgs false
namespace Go.Proofs.Ytdpmogbibmgolaa
open Go.RowKit
theorem rints_self' (v u : Value) (xs : List Int) (w : World) (h : IntsAt w v xs) (k : IntsAt w u xs) (hn : xs.length ≤ 9223372036854775807 := by simp) :
    Calls Try.prog 13 #[v, u] w fun e w' => e = .returned (.bool true) ∧ Ext w w' := rints_eq v u xs xs true (decide_eq_true rfl) w h k hn
def Ri.one (g : Int) (a : Nat) : List Int := [0, 0, 0, 0, 0, 0, 0, 0].set a g
theorem Ri.round {g : Int} (hg : 1 ≤ g) (a : Nat) (ha : a < 8) :
    Ri.push ⟨Ri.one g a, a, 1⟩ g = (⟨(Ri.one g a).set ((a + 1) % 8) g, a, 2⟩, true) ∧ Ri.pop ⟨(Ri.one g a).set ((a + 1) % 8) g, a, 2⟩ = (⟨Ri.one g ((a + 1) % 8), ((a + 1) % 8 : Nat), 1⟩, g, true) ∧ Ri.list ⟨Ri.one g a, a, 1⟩ = [g] := by
  have h0 : 0 < g := by omega
  have h1 : decide (0 < g) = true := decide_eq_true h0
  have h2 : decide (1 ≤ g) = true := decide_eq_true hg
  rcases a with _ | _ | _ | _ | _ | _ | _ | _ | a
  all_goals first
    | omega
    | (refine ⟨?_, ?_, ?_⟩ <;> simp [Ri.push, Ri.pop, Ri.list, Ri.may, Ri.inside, Ri.okAt, Ri.one, Ri.elem, List.range_succ, h0, hg])
theorem Ri.of_one {g : Int} (hg : 1 ≤ g) : Ri.ofs Ri.zero [g] = (⟨Ri.one g 0, 0, 1⟩, true) := by
  have h0 : 0 < g := by omega
  simp [Ri.ofs, Ri.push, Ri.zero, Ri.may, Ri.inside, Ri.okAt, Ri.one, List.range_succ, hg]
theorem Ri.one_len (g : Int) (a : Nat) : (Ri.one g a).length = 8 := by simp [Ri.one]
set_option maxRecDepth 100000 in
set_option maxHeartbeats 1000000 in
theorem rround_out (n g : Int) (w : World) (h : n < 0 ∨ (0 ≤ n ∧ (100 < n ∨ (n ≤ 100 ∧ g < 1)))) :
    Calls Try.prog 6 #[.int .i64 n, .int .i64 g] w fun e w' => e = .returned (.bool true) ∧ Ext w w' := by
  rcases h with h | ⟨h0, h | ⟨h1, h⟩⟩
  all_goals
    go_enter Try.func6, Try.ntmps6
    go_wp2_with fail
    refine (rgfixed_yes _).mono ?_
    rintro r w1 ⟨rfl, hx1⟩
    go_wp2_with fail
    refine (rgfixed_yes _).mono ?_
    rintro r w2 ⟨rfl, hx2⟩
    go_wp2
    go_ret
    exact ⟨rfl, hx1.trans hx2⟩
set_option maxRecDepth 100000 in
set_option maxHeartbeats 2000000 in
theorem rround_in (N : Nat) (g : Int) (hN : N ≤ 100) (hg : 1 ≤ g) (w : World) :
    Calls Try.prog 6 #[.int .i64 (N : Int), .int .i64 g] w fun e w' => e = .returned (.bool true) ∧ Ext w w' := by
  have HOF := Ri.of_one hg
  obtain ⟨o0, o1, o2, o3, o4, o5, o6, o7, ho⟩ := list8 (Ri.one_len g 0)
  rw [ho] at HOF
  have HO := Lib.hid HOF
  have HHO := Lib.hid ho
  clear HOF ho
  have i0 : (0 : Int) ≤ (N : Int) := by omega
  have i1 : (N : Int) ≤ 100 := by omega
  go_enter Try.func6, Try.ntmps6
  go_wp2_with fail
  refine (rgfixed_yes _).mono ?_
  rintro r w1 ⟨rfl, hx1⟩
  have HI := Lib.hid (ints_lit w1 [g])
  go_wp2_with fail
  refine (rof_k _ [g] o0 o1 o2 o3 o4 o5 o6 o7 0 1 true HO.out _ HI.out (by simp)).mono ?_
  rintro r w2 ⟨rfl, hx2⟩
  have HX2 := Lib.hid (hx1.trans (((Ext.refl w1).alloc _).trans hx2))
  have hsz : w.heap.size ≤ w2.heap.size := HX2.out.size
  clear hx1 hx2 i1
  go_wp2
  go_loopw [7] (fun iv wr => ∃ (j : Nat) (a c0 c1 c2 c3 c4 c5 c6 c7 : Int), a = ((j % 8 : Nat) : Int) ∧ j ≤ N ∧ iv = .int .i64 j ∧ Ri.one g (j % 8) = [c0, c1, c2, c3, c4, c5, c6, c7] ∧ wr.heap[w2.heap.size]? = some (.cells #[.int .i64 c0, .int .i64 c1, .int .i64 c2, .int .i64 c3, .int .i64 c4, .int .i64 c5, .int .i64 c6, .int .i64 c7, .int .i64 a, .int .i64 1] 24 (0, 0)) ∧ Ext w wr) (fun iv _ => N - (intOf iv).toNat)
  case atStart => exact ⟨0, 0, o0, o1, o2, o3, o4, o5, o6, o7, rfl, by omega, rfl, HHO.out, blk_new _ _, HX2.out.alloc _⟩
  case round =>
    obtain ⟨j, a, c0, c1, c2, c3, c4, c5, c6, c7, ha, hj, rfl, hc, hb, hx⟩ := hrel
    have HB := Lib.hid hb
    have HX := Lib.hid hx
    have HC := Lib.hid hc
    obtain ⟨r1, r2, r3⟩ := Ri.round hg (j % 8) (by omega)
    rw [hc, ← ha] at r1 r2 r3
    have HAQ := Lib.hid ha
    clear ha
    clear hb hx hc
    by_cases hlt : j < N
    · obtain ⟨d0, d1, d2, d3, d4, d5, d6, d7, hd⟩ := list8 (l := ([c0, c1, c2, c3, c4, c5, c6, c7]).set ((j % 8 + 1) % 8) g) (by simp)
      obtain ⟨f0, f1, f2, f3, f4, f5, f6, f7, hf⟩ := list8 (Ri.one_len g ((j % 8 + 1) % 8))
      rw [hd] at r1 r2
      rw [hf] at r2
      have hq : (j % 8 + 1) % 8 = (j + 1) % 8 := by omega
      rw [hq] at hf r2
      obtain ⟨bq, hbq⟩ : ∃ b : Int, (((j + 1) % 8 : Nat) : Int) = b := ⟨_, rfl⟩
      rw [hbq] at r2
      have HBQ := Lib.hid hbq
      clear hbq
      have R1 := Lib.hid r1
      have R2 := Lib.hid r2
      have HF := Lib.hid hf
      clear r1 r2 r3 hd hf hq
      obtain ⟨⟨q0, q1, q2, q3, q4⟩, q5, q6, q7, q8, q9⟩ := cells10 HB.out
      go_wp2_with fail
      refine (rpush_k c0 c1 c2 c3 c4 c5 c6 c7 _ 1 g d0 d1 d2 d3 d4 d5 d6 d7 _ 2 true R1.out _).mono ?_
      rintro r w3 ⟨rfl, hx3⟩
      clear q0 q1 q2 q3 q4 q5 q6 q7 q8 q9
      have HB3 := Lib.hid (blk_alloc (hx3.blk HB.out) (.cells #[.int .i64 d0, .int .i64 d1, .int .i64 d2, .int .i64 d3, .int .i64 d4, .int .i64 d5, .int .i64 d6, .int .i64 d7, .int .i64 a, .int .i64 2] 24))
      have HN3 := Lib.hid (blk_new w3 (.cells #[.int .i64 d0, .int .i64 d1, .int .i64 d2, .int .i64 d3, .int .i64 d4, .int .i64 d5, .int .i64 d6, .int .i64 d7, .int .i64 a, .int .i64 2] 24))
      have HX3 := Lib.hid ((HX.out.trans hx3).alloc (.cells #[.int .i64 d0, .int .i64 d1, .int .i64 d2, .int .i64 d3, .int .i64 d4, .int .i64 d5, .int .i64 d6, .int .i64 d7, .int .i64 a, .int .i64 2] 24))
      clear hx3 HB HX
      obtain ⟨⟨q0, q1, q2, q3, q4⟩, q5, q6, q7, q8, q9⟩ := cells10 HN3.out
      go_wp2_with fail
      refine (rpop_k d0 d1 d2 d3 d4 d5 d6 d7 _ 2 f0 f1 f2 f3 f4 f5 f6 f7 _ 1 g true R2.out _).mono ?_
      rintro r w4 ⟨rfl, hx4⟩
      clear q0 q1 q2 q3 q4 q5 q6 q7 q8 q9
      have HB4 := Lib.hid (blk_alloc (hx4.blk HB3.out) (.cells #[.int .i64 f0, .int .i64 f1, .int .i64 f2, .int .i64 f3, .int .i64 f4, .int .i64 f5, .int .i64 f6, .int .i64 f7, .int .i64 bq, .int .i64 1] 24))
      have HN4 := Lib.hid (blk_new w4 (.cells #[.int .i64 f0, .int .i64 f1, .int .i64 f2, .int .i64 f3, .int .i64 f4, .int .i64 f5, .int .i64 f6, .int .i64 f7, .int .i64 bq, .int .i64 1] 24))
      have HX4 := Lib.hid ((HX3.out.trans hx4).alloc (.cells #[.int .i64 f0, .int .i64 f1, .int .i64 f2, .int .i64 f3, .int .i64 f4, .int .i64 f5, .int .i64 f6, .int .i64 f7, .int .i64 bq, .int .i64 1] 24))
      clear hx4 HB3 HN3 HX3
      have hgg : (g != g) = false := by simp
      obtain ⟨⟨q0, q1, q2, q3, q4⟩, q5, q6, q7, q8, q9⟩ := cells10 HN4.out
      have HZB := HB4
      obtain ⟨⟨z0, z1, z2, z3, z4⟩, z5, z6, z7, z8, z9⟩ := cells10 HZB.out
      obtain ⟨⟨y0, y1, y2, y3, y4⟩, y5, y6, y7, y8, y9⟩ := frozen10 HZB.out
      go_wp2
      go_roundw
      case rel => exact ⟨j + 1, bq, f0, f1, f2, f3, f4, f5, f6, f7, HBQ.out.symm, by omega, by go_num, HF.out, set10_at HB4.out _ _ _ _ _ _ _ _ _ _, set10_ext HX4.out hsz _ _ _ _ _ _ _ _ _ _⟩
      case measure => simp [intOf]; omega
    · obtain rfl : j = N := by omega
      have R3 := Lib.hid r3
      clear r1 r2 r3
      have e1 : ((j : Int)).tmod 8 = a := by have := HAQ.out; rw [Int.tmod_eq_emod_of_nonneg (by omega)]; omega
      have e2 : IntKind.i64.wrap a = a := IntWalk.i64_in _ (by have := HAQ.out; omega)
      obtain ⟨⟨q0, q1, q2, q3, q4⟩, q5, q6, q7, q8, q9⟩ := cells10 HB.out
      go_wp2_with fail
      refine (rlist_k c0 c1 c2 c3 c4 c5 c6 c7 _ 1 [g] R3.out _).mono ?_
      rintro r w3 ⟨v3, rfl, hi3, hx3⟩
      clear q0 q1 q2 q3 q4 q5 q6 q7 q8 q9
      have HI3 := Lib.hid (hi3.ext ((Ext.refl w3).alloc (.cells #[.int .i64 g] 3)))
      have HI4 : Hid (IntsAt (w3.alloc (.cells #[.int .i64 g] 3)) (.slice (some ⟨w3.heap.size, 0, none⟩) 1 1) [g]) := Lib.hid (ints_one w3 g)
      clear hi3
      go_wp2_with fail
      refine (rints_self' _ _ [g] _ HI3.out HI4.out).mono ?_
      rintro r w4 ⟨rfl, hx4⟩
      go_wp2
      go_ret
      exact ⟨by simp, HX.out.trans (hx3.trans (((Ext.refl w3).alloc _).trans hx4))⟩
theorem walk_RingRound (n g : Int) (w : World) (_ : (Lit.int .i64 n).wf = true) (_ : (Lit.int .i64 g).wf = true) :
    Calls Try.prog 6 #[.int .i64 n, .int .i64 g] w fun e w' => e = .returned (.bool true) ∧ Ext w w' := by
  by_cases h : n < 0 ∨ (0 ≤ n ∧ (100 < n ∨ (n ≤ 100 ∧ g < 1)))
  · exact rround_out n g w h
  · obtain ⟨N, rfl⟩ : ∃ N : Nat, n = N := ⟨n.toNat, by omega⟩
    exact rround_in N g (by omega) (by omega) w

end Go.Proofs.Ytdpmogbibmgolaa
