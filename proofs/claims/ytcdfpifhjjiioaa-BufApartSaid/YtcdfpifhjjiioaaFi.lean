/-
  The walk of the statement BufFull.
-/
import Derived.Test.YtcdfpifhjjiioaaFh
set_option linter.unusedVariables false
set_option linter.unusedSimpArgs false
namespace Go.Proofs.Ytcdfpifhjjiioaa
open Go.RowKit

theorem Bu.seal_two (m ba la : Int) (bo : ByteArray) (g : Int) : Bu.seal ⟨m, ba, la, bo⟩ g = (⟨0, 0, 0, ⟨#[]⟩⟩, ⟨0, 0, 0, ⟨#[]⟩⟩, false) ∨ ∃ s, Bu.seal ⟨m, ba, la, bo⟩ g = (⟨g, s, ba, bo⟩, ⟨m, 0, 0, ⟨#[]⟩⟩, true) := by
  unfold Bu.seal
  split
  · exact .inl rfl
  · split
    · exact .inr ⟨_, rfl⟩
    · exact .inl rfl
theorem C4'.of {x : Nat} {g st ba : Int} {bo : ByteArray} {wx v : World} (h : wx.heap[x]? = some (.cells #[.int .i64 g, .int .i64 st, .int .i64 ba, .string bo] 23 (0, 0))) (hv : Ext wx v) : C4' x g st ba bo v :=
  ⟨blk_cell (hv.blk h) 0 _ rfl, blk_cell (hv.blk h) 1 _ rfl, blk_cell (hv.blk h) 2 _ rfl, blk_cell (hv.blk h) 3 _ rfl⟩
set_option maxRecDepth 100000 in
set_option maxHeartbeats 1000000 in
theorem ufull_out (m ba la : Int) (bo : ByteArray) (g : Int) (w : World) (hbo : bo.size ≤ maxLen) (h1 : 3000 < bo.size) :
    Calls Try.prog 6 #[.agg #[.int .i64 m, .int .i64 ba, .int .i64 la, .string bo], .int .i64 g] w fun e w' => e = .returned (.bool true) ∧ Ext w w' := by
  unfold maxLen at hbo
  have HA : Hid (∀ v, Ext (w.alloc (.cells #[.int .i64 m, .int .i64 ba, .int .i64 la, .string bo] 23)) v → C4' w.heap.size m ba la bo v) := Lib.hid fun v hv => C4'.of (blk_new w _) hv
  go_enter Try.func6, Try.ntmps6
  go_wp2_with fail
  refine (ufixed_yes _).mono ?_
  rintro r w1 ⟨rfl, hx1⟩
  obtain ⟨a0, a1, a2, a3⟩ := HA.out _ hx1
  go_wp2_with fail
  refine (ufixed_yes _).mono ?_
  rintro r w2 ⟨rfl, hx2⟩
  go_wp2
  go_ret
  exact ⟨rfl, ((Ext.refl w).alloc _).trans (hx1.trans hx2)⟩
set_option maxRecDepth 100000 in
set_option maxHeartbeats 1000000 in
theorem ufull_no (m ba la : Int) (bo : ByteArray) (g : Int) (w : World) (h1 : bo.size ≤ 3000) (hs : Bu.seal ⟨m, ba, la, bo⟩ g = (⟨0, 0, 0, ⟨#[]⟩⟩, ⟨0, 0, 0, ⟨#[]⟩⟩, false)) :
    Calls Try.prog 6 #[.agg #[.int .i64 m, .int .i64 ba, .int .i64 la, .string bo], .int .i64 g] w fun e w' => e = .returned (.bool true) ∧ Ext w w' := by
  have HS := Lib.hid hs
  clear hs
  have hf1 : decide ((bo.size : Int) + 1 ≤ (bo.size : Int)) = false := by simp; omega
  have hf2 : decide ((bo.size : Int) ≤ (bo.size : Int)) = true := by simp
  have HF1 := Lib.hid hf1
  have HF2 := Lib.hid hf2
  clear hf1 hf2
  have HA : Hid (∀ v, Ext (w.alloc (.cells #[.int .i64 m, .int .i64 ba, .int .i64 la, .string bo] 23)) v → C4' w.heap.size m ba la bo v) := Lib.hid fun v hv => C4'.of (blk_new w _) hv
  go_enter Try.func6, Try.ntmps6
  go_wp2_with fail
  refine (ufixed_yes _).mono ?_
  rintro r w1 ⟨rfl, hx1⟩
  have HX1 := Lib.hid hx1
  clear hx1
  obtain ⟨a0, a1, a2, a3⟩ := HA.out _ HX1.out
  go_wp2_with fail
  refine (bseal_k m ba la bo g _ _ _ _ _ _ _ _ _ HS.out _).mono ?_
  rintro r w2 ⟨rfl, hx2⟩
  have HX2 := Lib.hid ((HX1.out.trans hx2).alloc (.cells #[.int .i64 0, .int .i64 0, .int .i64 0, .string ⟨#[]⟩] 35) |>.alloc (.cells #[.int .i64 0, .int .i64 0, .int .i64 0, .string ⟨#[]⟩] 23))
  clear a0 a1 a2 a3 hx2
  obtain ⟨a0, a1, a2, a3⟩ := HA.out _ HX2.out
  go_wp2_with fail
  refine (bfull_eq m ba la bo _ false HF1.out _).mono ?_
  rintro r w3 ⟨rfl, hx3⟩
  have HX3 := Lib.hid (HX2.out.trans hx3)
  clear a0 a1 a2 a3 hx3
  obtain ⟨a0, a1, a2, a3⟩ := HA.out _ HX3.out
  go_wp2_with fail
  refine (bfull_eq m ba la bo _ true HF2.out _).mono ?_
  rintro r w4 ⟨rfl, hx4⟩
  go_wp2
  go_ret
  exact ⟨rfl, ((Ext.refl w).alloc _).trans (HX3.out.trans hx4)⟩
set_option maxRecDepth 100000 in
set_option maxHeartbeats 1000000 in
theorem ufull_ok (m ba la : Int) (bo : ByteArray) (g s : Int) (w : World) (h1 : bo.size ≤ 3000) (hs : Bu.seal ⟨m, ba, la, bo⟩ g = (⟨g, s, ba, bo⟩, ⟨m, 0, 0, ⟨#[]⟩⟩, true)) :
    Calls Try.prog 6 #[.agg #[.int .i64 m, .int .i64 ba, .int .i64 la, .string bo], .int .i64 g] w fun e w' => e = .returned (.bool true) ∧ Ext w w' := by
  have HS := Lib.hid hs
  clear hs
  have hf1 : decide ((bo.size : Int) + 1 ≤ (bo.size : Int)) = false := by simp; omega
  have hf2 : decide ((bo.size : Int) ≤ (bo.size : Int)) = true := by simp
  have HF1 := Lib.hid hf1
  have HF2 := Lib.hid hf2
  clear hf1 hf2
  have HA : Hid (∀ v, Ext (w.alloc (.cells #[.int .i64 m, .int .i64 ba, .int .i64 la, .string bo] 23)) v → C4' w.heap.size m ba la bo v) := Lib.hid fun v hv => C4'.of (blk_new w _) hv
  go_enter Try.func6, Try.ntmps6
  go_wp2_with fail
  refine (ufixed_yes _).mono ?_
  rintro r w1 ⟨rfl, hx1⟩
  have HX1 := Lib.hid hx1
  clear hx1
  obtain ⟨a0, a1, a2, a3⟩ := HA.out _ HX1.out
  go_wp2_with fail
  refine (bseal_k m ba la bo g _ _ _ _ _ _ _ _ _ HS.out _).mono ?_
  rintro r w2 ⟨rfl, hx2⟩
  have HX2 := Lib.hid ((HX1.out.trans hx2).alloc (.cells #[.int .i64 g, .int .i64 s, .int .i64 ba, .string bo] 35) |>.alloc (.cells #[.int .i64 m, .int .i64 0, .int .i64 0, .string ⟨#[]⟩] 23))
  clear a0 a1 a2 a3 hx2
  obtain ⟨a0, a1, a2, a3⟩ := HA.out _ HX2.out
  go_wp2_with fail
  refine (bfull_eq m ba la bo _ false HF1.out _).mono ?_
  rintro r w3 ⟨rfl, hx3⟩
  have HX3 := Lib.hid (HX2.out.trans hx3)
  have HC3 := Lib.hid hx3
  clear a0 a1 a2 a3 hx3
  obtain ⟨a0, a1, a2, a3⟩ := HA.out _ HX3.out
  go_wp2_with fail
  refine (bfull_eq m ba la bo _ true HF2.out _).mono ?_
  rintro r w4 ⟨rfl, hx4⟩
  have HX4 := Lib.hid (HX3.out.trans hx4)
  have HC4 : Hid (Ext ((w2.alloc (.cells #[.int .i64 g, .int .i64 s, .int .i64 ba, .string bo] 35)).alloc (.cells #[.int .i64 m, .int .i64 0, .int .i64 0, .string ⟨#[]⟩] 23)) w4) := Lib.hid (HC3.out.trans hx4)
  have HD4 : Hid (Ext (w2.alloc (.cells #[.int .i64 g, .int .i64 s, .int .i64 ba, .string bo] 35)) w4) := Lib.hid (((Ext.refl _).alloc _).trans HC4.out)
  clear a0 a1 a2 a3 hx4
  have c0 := Ext.box HC4.out 0 (.int .i64 m) rfl
  have c1 := Ext.box HC4.out 1 (.int .i64 0) rfl
  have c2 := Ext.box HC4.out 2 (.int .i64 0) rfl
  have c3 := Ext.box HC4.out 3 (.string ⟨#[]⟩) rfl
  rw [World.size_alloc] at c0 c1 c2 c3
  go_wp2_with fail
  refine (bfull_eq m 0 0 _ 1 false rfl _).mono ?_
  rintro r w5 ⟨rfl, hx5⟩
  clear c0 c1 c2 c3
  obtain ⟨a0, a1, a2, a3⟩ := HA.out _ (HX4.out.trans hx5)
  have x0 := Ext.box (HD4.out.trans hx5) 0 (.int .i64 g) rfl
  have x1 := Ext.box (HD4.out.trans hx5) 1 (.int .i64 s) rfl
  have x2 := Ext.box (HD4.out.trans hx5) 2 (.int .i64 ba) rfl
  have x3 := Ext.box (HD4.out.trans hx5) 3 (.string bo) rfl
  go_wp2
  go_ret
  exact ⟨by simp, ((Ext.refl w).alloc _).trans (HX4.out.trans hx5)⟩
theorem walk_BufFull (b : Bt) (g : Int) (w : World) (hb : BtIn b) (_ : (Lit.int .i64 g).wf = true) :
    Calls Try.prog 6 #[b.val, .int .i64 g] w fun e w' => e = .returned (.bool true) ∧ Ext w w' := by
  obtain ⟨m, ba, la, bo⟩ := b
  by_cases h1 : bo.size ≤ 3000
  · rcases Bu.seal_two m ba la bo g with hs | ⟨s, hs⟩
    · exact ufull_no m ba la bo g w h1 hs
    · exact ufull_ok m ba la bo g s w h1 hs
  · exact ufull_out m ba la bo g w hb.1 (by omega)

end Go.Proofs.Ytcdfpifhjjiioaa
