/-
  The contract of event.rest: what it reads behind an event's kind.
-/
import Derived.Test.YtlbhpgieehallaaEc
import Derived.Test.YtlbhpgieehallaaOi
set_option linter.unusedVariables false
set_option linter.unusedSimpArgs false
namespace Go.Proofs.Ytlbhpgieehallaa
open Go.RowKit

/-- So many numbers, read one behind the other: which, and where the reader is. -/
def Wi.loop (s : ByteArray) (a e : Int) : Nat → List Int × Int × Int
  | 0 => ([], a, e)
  | n + 1 => ((Wi.loop s a e n).1 ++ [(Wi.num s (Wi.loop s a e n).2.1 (Wi.loop s a e n).2.2).1], (Wi.num s (Wi.loop s a e n).2.1 (Wi.loop s a e n).2.2).2)
theorem Wi.loop_len (s : ByteArray) (a e : Int) : ∀ n, (Wi.loop s a e n).1.length = n
  | 0 => rfl
  | n + 1 => by simp [Wi.loop, Wi.loop_len s a e n]
/-- What is read behind a kind: an event, and where the reader is. -/
def Ev.rest (s : ByteArray) (k a : Int) : Ev × Int × Int :=
  if Ki.exp k then (⟨k, (Wi.num s a 0).1, [], (Wi.text s (Wi.num s a 0).2.1 (Wi.num s a 0).2.2).1⟩, (Wi.text s (Wi.num s a 0).2.1 (Wi.num s a 0).2.2).2)
  else (⟨k, (Wi.num s a 0).1, (Wi.loop s (Wi.num s a 0).2.1 (Wi.num s a 0).2.2 (Ki.args k).length).1, ⟨#[]⟩⟩, (Wi.loop s (Wi.num s a 0).2.1 (Wi.num s a 0).2.2 (Ki.args k).length).2)

/-- A value that reads as an event, its numbers in blocks from B on. -/
def EvNew (B : Nat) (w : World) (v : Value) (e : Ev) : Prop :=
  ∃ A c, v = .agg #[.int .i64 e.kind, .int .i64 e.dt, .slice A e.args.length c, .string e.text] ∧ IntsAt w (.slice A e.args.length c) e.args ∧ ∀ b o, 0 < e.args.length → A = some ⟨b, o, none⟩ → B ≤ b
def RestPost (g : Nat) (s : ByteArray) (k a : Int) (w : World) (r : Ending) (w' : World) : Prop :=
  ∃ v, r = .returned v ∧ EvNew w.heap.size w' v (Ev.rest s k a).1 ∧ RD w' g s (Ev.rest s k a).2.1 (Ev.rest s k a).2.2 ∧ Upd g w w'
theorem args_len0 (k : Int) (h : Ki.args k = []) (w : World) : Calls Try.prog 57 #[.int .i64 k] w fun e w' => ∃ A c, e = .returned (.slice A 0 c) ∧ Ext w w' :=
  (args_any k w).mono fun _ _ ⟨v, he, A, c, hv, _, _, hx, _⟩ => by
    rw [h] at hv
    exact ⟨A, c, by rw [he, hv]; rfl, hx⟩
set_option maxRecDepth 100000 in
set_option maxHeartbeats 1000000 in
theorem rest_exp (g : Nat) (s : ByteArray) (k a : Int) (w : World) (h : RD w g s a 0) (hs : s.size ≤ maxLen) (hx : Ki.exp k = true) :
    Calls Try.prog 52 #[.pointer (some ⟨g, 0, none⟩), .int .i64 k] w (RestPost g s k a w) := by
  have HA : Hid (Ki.args k = []) := Lib.hid (Ki.args_exp hx)
  have HX := Lib.hid hx
  have HV : Hid (Ev.rest s k a = (⟨k, (Wi.num s a 0).1, [], (Wi.text s (Wi.num s a 0).2.1 (Wi.num s a 0).2.2).1⟩, (Wi.text s (Wi.num s a 0).2.1 (Wi.num s a 0).2.2).2)) := Lib.hid (by unfold Ev.rest; rw [if_pos hx])
  have hg := h.lt
  have HR := Lib.hid (h.ext ((Ext.refl w).alloc (.cells #[.int .i64 0, .int .i64 0, .slice none 0 0, .string ⟨#[]⟩] 41)))
  clear h hx
  go_enter Try.func52, Try.ntmps52
  go_wp2_with fail
  refine (num_any g s a 0 _ HR.out hs).mono ?_
  rintro r w1 ⟨rfl, hr1, hu1⟩
  generalize Wi.num s a 0 = q1 at *
  have HU1 := Lib.hid hu1
  have HR1 := Lib.hid (hr1.ext ((Ext.refl w1).alloc (.cells #[.int .i64 k, .int .i64 q1.1, .slice none 0 0, .string ⟨#[]⟩] 41)))
  have hz1 := hu1.size
  rw [World.size_alloc] at hz1
  clear hr1 hu1
  go_wp2_with fail
  refine (exp_eq k true HX.out _).mono ?_
  rintro r w2 ⟨rfl, rfl⟩
  go_wp2_with fail
  refine (text_any g s q1.2.1 q1.2.2 _ HR1.out hs).mono ?_
  rintro r w2 ⟨rfl, hr2, hu2⟩
  have hb2 : w2.heap[w1.heap.size]? = some (.cells #[.int .i64 k, .int .i64 q1.1, .slice none 0 0, .string ⟨#[]⟩] 41 (0, 0)) := hu2.blk (blk_new w1 _) (by omega)
  have d3 := blk_cell hb2 3 (.string ⟨#[]⟩) rfl
  have f3 := frozen_of_row w2 w1.heap.size 3 _ _ hb2
  have HB2 := Lib.hid hb2
  generalize Wi.text s q1.2.1 q1.2.2 = q2 at *
  have HU2 := Lib.hid hu2
  have HR2 := Lib.hid hr2
  clear hr2 hu2 hb2
  have HB3 : Hid ((w2.setCell ⟨w1.heap.size, 3, none⟩ (.string q2.1)).heap[w1.heap.size]? = some (.cells #[.int .i64 k, .int .i64 q1.1, .slice none 0 0, .string q2.1] 41 (0, 0))) := Lib.hid (blk_set HB2.out 3 _)
  have HZ3 : Hid ((w2.setCell ⟨w1.heap.size, 3, none⟩ (.string q2.1)).heap[w.heap.size]? = some ((.cells #[.int .i64 0, .int .i64 0, .slice none 0 0, .string ⟨#[]⟩] 41))) := Lib.hid (blk_set_other (HU2.out.blk (blk_alloc (HU1.out.blk (blk_new w _) (by omega)) _) (by omega)) _ (by simp; omega) _)
  have HR3 : Hid (RD (w2.setCell ⟨w1.heap.size, 3, none⟩ (.string q2.1)) g s q2.2.1 q2.2.2) := Lib.hid (blk_set_other HR2.out _ (by simp; omega) _)
  have HU3 : Hid (Upd g w (w2.setCell ⟨w1.heap.size, 3, none⟩ (.string q2.1))) := Lib.hid (Upd.newset (((Upd.ext ((Ext.refl w).alloc _)).trans HU1.out).trans ((Upd.ext ((Ext.refl w1).alloc _)).trans HU2.out)) (by simp; omega) _)
  go_wp2_with fail
  refine (args_len0 k HA.out _).mono ?_
  rintro r w3 ⟨A, c, rfl, hx3⟩
  clear d3 f3 HB2 HR2 HU2 HR1 HU1
  have hb3 := hx3.blk HB3.out
  have hz3 := hx3.blk HZ3.out
  have e0 := blk_cell hb3 0 (.int .i64 k) rfl
  have e1 := blk_cell hb3 1 (.int .i64 q1.1) rfl
  have e2 := blk_cell hb3 2 (.slice none 0 0) rfl
  have e3 := blk_cell hb3 3 (.string q2.1) rfl
  have z0 := blk_cell hz3 0 (.int .i64 0) rfl
  have z1 := blk_cell hz3 1 (.int .i64 0) rfl
  have z2 := blk_cell hz3 2 (.slice none 0 0) rfl
  have z3 := blk_cell hz3 3 (.string ⟨#[]⟩) rfl
  have y0 := frozen_of_row w3 w.heap.size 0 _ _ hz3
  have y1 := frozen_of_row w3 w.heap.size 1 _ _ hz3
  have y2 := frozen_of_row w3 w.heap.size 2 _ _ hz3
  have y3 := frozen_of_row w3 w.heap.size 3 _ _ hz3
  have HU := Lib.hid (HU3.out.trans (Upd.ext hx3))
  have HR := Lib.hid (RD.ext HR3.out hx3)
  have HZ := Lib.hid hz3
  clear hb3 hz3 HB3 HZ3 HU3 HR3 hx3
  go_wp2
  go_loop [18] (fun i => i = .int .i64 0) (fun i => 0)
  case atStart => rfl
  case round =>
    subst hrel
    go_wp2
    clear z0 z1 z2 z3 y0 y1 y2 y3 e0 e1 e2 e3
    have hzz := blk_set (blk_set (blk_set (blk_set HZ.out 0 (.int .i64 k)) 1 (.int .i64 q1.1)) 2 (.slice none 0 0)) 3 (.string q2.1)
    have t0 := blk_cell hzz 0 (.int .i64 k) rfl
    have t1 := blk_cell hzz 1 (.int .i64 q1.1) rfl
    have t2 := blk_cell hzz 2 (.slice none 0 0) rfl
    have t3 := blk_cell hzz 3 (.string q2.1) rfl
    refine bodyPost_ret (v := .agg #[.int .i64 k, .int .i64 q1.1, .slice none 0 0, .string q2.1]) (by simp [results, Try.results52, go_sem, t0, t1, t2, t3]) rfl ⟨_, rfl, ?_, ?_, ?_⟩
    · rw [HV.out]
      exact ⟨none, 0, rfl, ⟨none, 0, rfl, fun h => by simp at h⟩, fun b o h => by simp at h⟩
    · rw [HV.out]
      exact blk_set_other (blk_set_other (blk_set_other (blk_set_other HR.out _ (by simp; omega) _) _ (by simp; omega) _) _ (by simp; omega) _) _ (by simp; omega) _
    · exact (((HU.out.newset (by simp) _).newset (by simp) _).newset (by simp) _).newset (by simp) _

end Go.Proofs.Ytlbhpgieehallaa
