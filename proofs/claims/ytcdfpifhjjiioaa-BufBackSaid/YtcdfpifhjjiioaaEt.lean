/-
  The contract of the document's Decode, of events: where something is wrong ahead of the arguments.
-/
import Derived.Test.YtcdfpifhjjiioaaEo
set_option linter.unusedVariables false
set_option linter.unusedSimpArgs false
namespace Go.Proofs.Ytcdfpifhjjiioaa
open Go.RowKit

theorem rtake_ok (s : ByteArray) (a : Int) (p n k q : Nat) (w : World) (ha : a = (p : Int)) (hp : p ≤ s.size) (hs : s.size ≤ maxLen) (h : Va.take (s.data.toList.drop p) = (n, k, 0)) (hq : p + k = q) :
    Calls Try.prog 43 #[.string s, .int .i64 a] w fun e w' => e = .returned (.tuple #[.int .i64 n, .int .i64 q, .int .i64 0]) ∧ Ext w w' := by
  subst ha hq
  refine (rtake_all s p w hs).mono fun e w' ⟨he, hx⟩ => ⟨?_, hx⟩
  have hn : ¬ ((p : Int) < 0 ∨ (s.size : Int) < p) := by omega
  rw [he]
  unfold Va.tx Va.ty Va.tz
  rw [if_neg hn, if_neg hn, if_neg hn, Int.toNat_natCast, h]
  rfl
theorem rtake_err (s : ByteArray) (a : Int) (p c : Nat) (w : World) (ha : a = (p : Int)) (hp : p ≤ s.size) (hs : s.size ≤ maxLen) (h : Va.take (s.data.toList.drop p) = (0, 0, c)) (hc : c ≠ 0) :
    Calls Try.prog 43 #[.string s, .int .i64 a] w fun e w' => e = .returned (.tuple #[.int .i64 0, .int .i64 0, .int .i64 c]) ∧ Ext w w' := by
  subst ha
  refine (rtake_all s p w hs).mono fun e w' ⟨he, hx⟩ => ⟨?_, hx⟩
  have hn : ¬ ((p : Int) < 0 ∨ (s.size : Int) < p) := by omega
  rw [he]
  unfold Va.tx Va.ty Va.tz
  rw [if_neg hn, if_neg hn, if_neg hn, Int.toNat_natCast, h]
  simp only [if_neg hc]
  rfl
/-- Both blocks of the answer hold nothing. -/
def Two (w v : World) : Prop := v.heap[w.heap.size]? = some ((.cells #[.int .i64 0, .int .i64 0, .slice none 0 0, .string ⟨#[]⟩] 28)) ∧ v.heap[w.heap.size + 1]? = some ((.cells #[.int .i64 0, .int .i64 0, .slice none 0 0, .string ⟨#[]⟩] 28)) ∧ Ext w v
theorem two_new (w : World) : Two w ((w.alloc ((.cells #[.int .i64 0, .int .i64 0, .slice none 0 0, .string ⟨#[]⟩] 28))).alloc ((.cells #[.int .i64 0, .int .i64 0, .slice none 0 0, .string ⟨#[]⟩] 28))) :=
  ⟨blk_alloc (blk_new w _) _, by have := blk_new (w.alloc ((.cells #[.int .i64 0, .int .i64 0, .slice none 0 0, .string ⟨#[]⟩] 28))) ((.cells #[.int .i64 0, .int .i64 0, .slice none 0 0, .string ⟨#[]⟩] 28)); rwa [World.size_alloc] at this, ((Ext.refl w).alloc _).alloc _⟩
theorem Two.ext {w v v' : World} (h : Two w v) (hx : Ext v v') : Two w v' := ⟨hx.blk h.1, hx.blk h.2.1, h.2.2.trans hx⟩
theorem Two.set {w v : World} (h : Two w v) {p : Addr} (hp : w.heap.size + 2 ≤ p.block) (u : Value) : Two w (v.setCell p u) :=
  ⟨blk_set_other h.1 _ (by omega) _, blk_set_other h.2.1 _ (by omega) _, h.2.2.setCell (by omega) _⟩
theorem Two.sz {w v : World} (h : Two w v) : w.heap.size + 2 ≤ v.heap.size := by have := blk_lt h.2.1; omega
set_option maxRecDepth 100000 in
set_option maxHeartbeats 1000000 in
theorem rdec_out (s : ByteArray) (a : Int) (w : World) (h : a < 0 ∨ (s.size : Int) < a) :
    Calls Try.prog 25 #[.string s, .int .i64 a] w (DecPost (Ev.zero, 0, 1) w) := by
  have HTW := Lib.hid (two_new w)
  have z0 := blk_cell HTW.out.1 0 (.int .i64 0) rfl
  have z1 := blk_cell HTW.out.1 1 (.int .i64 0) rfl
  have z2 := blk_cell HTW.out.1 2 (.slice none 0 0) rfl
  have z3 := blk_cell HTW.out.1 3 (.string ⟨#[]⟩) rfl
  have y0 := frozen_of_row _ _ 0 _ _ HTW.out.1
  have y1 := frozen_of_row _ _ 1 _ _ HTW.out.1
  have y2 := frozen_of_row _ _ 2 _ _ HTW.out.1
  have y3 := frozen_of_row _ _ 3 _ _ HTW.out.1
  have x0 := blk_cell HTW.out.2.1 0 (.int .i64 0) rfl
  have x1 := blk_cell HTW.out.2.1 1 (.int .i64 0) rfl
  have x2 := blk_cell HTW.out.2.1 2 (.slice none 0 0) rfl
  have x3 := blk_cell HTW.out.2.1 3 (.string ⟨#[]⟩) rfl
  rcases (by omega : a < 0 ∨ (0 ≤ a ∧ (s.size : Int) < a)) with h0 | ⟨h0, h1⟩
  all_goals
    clear h
    go_enter Try.func25, Try.ntmps25
    go_wp2
    clear z0 z1 z2 z3 y0 y1 y2 y3 x0 x1 x2 x3
    have t0 := blk_cell HTW.out.1 0 (.int .i64 0) rfl
    have t1 := blk_cell HTW.out.1 1 (.int .i64 0) rfl
    have t2 := blk_cell HTW.out.1 2 (.slice none 0 0) rfl
    have t3 := blk_cell HTW.out.1 3 (.string ⟨#[]⟩) rfl
    refine bodyPost_ret (v := .tuple #[(.agg #[.int .i64 0, .int .i64 0, .slice none 0 0, .string ⟨#[]⟩]), .int .i64 0, .int .i64 1]) (by simp [results, Try.results25, go_sem, t0, t1, t2, t3]) rfl ⟨_, rfl, evAt_zero _, ?_⟩
    first | exact HTW.out.2.2 | exact Ext.set4 HTW.out.2.2 _ _ _ _
set_option maxRecDepth 100000 in
set_option maxHeartbeats 1000000 in
theorem rdec_short (s : ByteArray) (w : World) (hs : s.size ≤ maxLen) :
    Calls Try.prog 25 #[.string s, .int .i64 (s.size : Int)] w (DecPost (Ev.zero, 0, 10) w) := by
  unfold maxLen at hs
  have HTW := Lib.hid (two_new w)
  have z0 := blk_cell HTW.out.1 0 (.int .i64 0) rfl
  have z1 := blk_cell HTW.out.1 1 (.int .i64 0) rfl
  have z2 := blk_cell HTW.out.1 2 (.slice none 0 0) rfl
  have z3 := blk_cell HTW.out.1 3 (.string ⟨#[]⟩) rfl
  have y0 := frozen_of_row _ _ 0 _ _ HTW.out.1
  have y1 := frozen_of_row _ _ 1 _ _ HTW.out.1
  have y2 := frozen_of_row _ _ 2 _ _ HTW.out.1
  have y3 := frozen_of_row _ _ 3 _ _ HTW.out.1
  have x0 := blk_cell HTW.out.2.1 0 (.int .i64 0) rfl
  have x1 := blk_cell HTW.out.2.1 1 (.int .i64 0) rfl
  have x2 := blk_cell HTW.out.2.1 2 (.slice none 0 0) rfl
  have x3 := blk_cell HTW.out.2.1 3 (.string ⟨#[]⟩) rfl
  have hd0 : decide ((s.size : Int) < 0) = false := by simp
  go_enter Try.func25, Try.ntmps25
  go_wp2
  clear z0 z1 z2 z3 y0 y1 y2 y3 x0 x1 x2 x3
  have t0 := blk_cell HTW.out.1 0 (.int .i64 0) rfl
  have t1 := blk_cell HTW.out.1 1 (.int .i64 0) rfl
  have t2 := blk_cell HTW.out.1 2 (.slice none 0 0) rfl
  have t3 := blk_cell HTW.out.1 3 (.string ⟨#[]⟩) rfl
  refine bodyPost_ret (v := .tuple #[(.agg #[.int .i64 0, .int .i64 0, .slice none 0 0, .string ⟨#[]⟩]), .int .i64 0, .int .i64 10]) (by simp [results, Try.results25, go_sem, t0, t1, t2, t3]) rfl ⟨_, rfl, evAt_zero _, ?_⟩
  first | exact HTW.out.2.2 | exact Ext.set4 HTW.out.2.2 _ _ _ _
set_option maxRecDepth 100000 in
set_option maxHeartbeats 1000000 in
theorem rdec_kind (s : ByteArray) (a : Nat) (w : World) (hs : s.size ≤ maxLen) (h : a < s.size) (hk : Ki.known (s[a].toNat : Int) = false) (hx : Ki.exp (s[a].toNat : Int) = false) :
    Calls Try.prog 25 #[.string s, .int .i64 a] w (DecPost (Ev.zero, 0, 30) w) := by
  have HK := Lib.hid hk
  have HX := Lib.hid hx
  clear hk hx
  unfold maxLen at hs
  have hd0 : decide ((a : Int) < 0) = false := by simp
  have hd2 : ((a : Int) == (s.size : Int)) = false := by simp; omega
  have hb : (s[a].toNat : Int) ≤ 255 := by have := s[a].toNat_lt; omega
  have HTW := Lib.hid ((two_new w).ext ((Ext.refl _).alloc (.cells #[.int .i64 (s[a].toNat : Int), .int .i64 0, .slice none 0 0, .string ⟨#[]⟩] 28)))
  have z0 := blk_cell HTW.out.1 0 (.int .i64 0) rfl
  have z1 := blk_cell HTW.out.1 1 (.int .i64 0) rfl
  have z2 := blk_cell HTW.out.1 2 (.slice none 0 0) rfl
  have z3 := blk_cell HTW.out.1 3 (.string ⟨#[]⟩) rfl
  have y0 := frozen_of_row _ _ 0 _ _ HTW.out.1
  have y1 := frozen_of_row _ _ 1 _ _ HTW.out.1
  have y2 := frozen_of_row _ _ 2 _ _ HTW.out.1
  have y3 := frozen_of_row _ _ 3 _ _ HTW.out.1
  have x0 := blk_cell HTW.out.2.1 0 (.int .i64 0) rfl
  have x1 := blk_cell HTW.out.2.1 1 (.int .i64 0) rfl
  have x2 := blk_cell HTW.out.2.1 2 (.slice none 0 0) rfl
  have x3 := blk_cell HTW.out.2.1 3 (.string ⟨#[]⟩) rfl
  go_enter Try.func25, Try.ntmps25
  go_wp2_with fail
  refine (rknown_eq _ false HK.out _).mono ?_
  rintro r w1 ⟨rfl, rfl⟩
  go_wp2_with fail
  refine (rexp_eq _ false HX.out _).mono ?_
  rintro r w1 ⟨rfl, rfl⟩
  go_wp2
  clear z0 z1 z2 z3 y0 y1 y2 y3 x0 x1 x2 x3
  have t0 := blk_cell HTW.out.1 0 (.int .i64 0) rfl
  have t1 := blk_cell HTW.out.1 1 (.int .i64 0) rfl
  have t2 := blk_cell HTW.out.1 2 (.slice none 0 0) rfl
  have t3 := blk_cell HTW.out.1 3 (.string ⟨#[]⟩) rfl
  refine bodyPost_ret (v := .tuple #[(.agg #[.int .i64 0, .int .i64 0, .slice none 0 0, .string ⟨#[]⟩]), .int .i64 0, .int .i64 30]) (by simp [results, Try.results25, go_sem, t0, t1, t2, t3]) rfl ⟨_, rfl, evAt_zero _, ?_⟩
  first | exact HTW.out.2.2 | exact Ext.set4 HTW.out.2.2 _ _ _ _

end Go.Proofs.Ytcdfpifhjjiioaa
