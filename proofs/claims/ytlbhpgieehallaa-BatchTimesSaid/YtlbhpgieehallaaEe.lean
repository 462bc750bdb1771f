/-
  The contract of event.rest, of kinds that are known: a number for each argument.
-/
import Derived.Test.YtlbhpgieehallaaEd
set_option linter.unusedVariables false
set_option linter.unusedSimpArgs false
namespace Go.Proofs.Ytlbhpgieehallaa
open Go.RowKit

theorem args_len (k : Int) (w : World) : Calls Try.prog 57 #[.int .i64 k] w fun e w' => ∃ A c, e = .returned (.slice A (Ki.args k).length c) ∧ Ext w w' :=
  (args_any k w).mono fun _ _ ⟨v, he, A, c, hv, _, _, hx, _⟩ => ⟨A, c, by rw [he, hv], hx⟩
/-- What holds at each round's head. -/
def RestAt (g : Nat) (s : ByteArray) (k d : Int) (a e : Int) (w : World) (ge : Nat) (sl : Value) (j : Nat) (wr : World) : Prop :=
  wr.heap[ge]? = some (.cells #[.int .i64 k, .int .i64 d, sl, .string ⟨#[]⟩] 41 (0, 0)) ∧ OwnInts wr (ge + 1) sl (Wi.loop s a e j).1 ∧ RD wr g s (Wi.loop s a e j).2.1 (Wi.loop s a e j).2.2 ∧ Upd g w wr ∧ wr.heap[w.heap.size]? = some ((.cells #[.int .i64 0, .int .i64 0, .slice none 0 0, .string ⟨#[]⟩] 41)) ∧ ge + 1 ≤ wr.heap.size

def RT3 (g : Nat) (s : ByteArray) (q3 : Int × Int × Int) (wr : World) (u : Value) (v : World) : Prop := u = .int .i64 q3.1 ∧ RD v g s q3.2.1 q3.2.2 ∧ Upd g wr v
def RT4 (g : Nat) (s : ByteArray) (q3 : Int × Int × Int) (wr : World) (u : Value) (v : World) : Prop := ∃ w3, (RD w3 g s q3.2.1 q3.2.2 ∧ Upd g wr w3) ∧ v = w3.alloc (.cells #[.int .i64 q3.1] 3) ∧ u = .slice (some ⟨w3.heap.size, 0, none⟩) 1 1
def RT5 (g : Nat) (s : ByteArray) (k d : Int) (l : List Int) (q3 : Int × Int × Int) (w : World) (ge : Nat) (sl : Value) (u : Value) (v : World) : Prop :=
  OwnInts v (ge + 1) u (l ++ [q3.1]) ∧ RD v g s q3.2.1 q3.2.2 ∧ Upd g w v ∧ v.heap[ge]? = some (.cells #[.int .i64 k, .int .i64 d, sl, .string ⟨#[]⟩] 41 (0, 0)) ∧ v.heap[w.heap.size]? = some ((.cells #[.int .i64 0, .int .i64 0, .slice none 0 0, .string ⟨#[]⟩] 41)) ∧ ge + 1 ≤ v.heap.size
def RT7 (g : Nat) (s : ByteArray) (k d a e : Int) (w : World) (ge : Nat) (j : Nat) (_ : Value) (v : World) : Prop := ∃ sl', RestAt g s k d a e w ge sl' (j + 1) v
set_option maxRecDepth 100000 in
set_option maxHeartbeats 1000000 in
theorem rest_known (g : Nat) (s : ByteArray) (k a : Int) (w : World) (h : RD w g s a 0) (hs : s.size ≤ maxLen) (hx : Ki.exp k = false) :
    Calls Try.prog 52 #[.pointer (some ⟨g, 0, none⟩), .int .i64 k] w (RestPost g s k a w) := by
  have HX := Lib.hid hx
  have HV : Hid (Ev.rest s k a = (⟨k, (Wi.num s a 0).1, (Wi.loop s (Wi.num s a 0).2.1 (Wi.num s a 0).2.2 (Ki.args k).length).1, ⟨#[]⟩⟩, (Wi.loop s (Wi.num s a 0).2.1 (Wi.num s a 0).2.2 (Ki.args k).length).2)) := Lib.hid (by unfold Ev.rest; rw [if_neg (by simp [hx])])
  have hg := h.lt
  have HR := Lib.hid (h.ext ((Ext.refl w).alloc (.cells #[.int .i64 0, .int .i64 0, .slice none 0 0, .string ⟨#[]⟩] 41)))
  have hn3 := Ki.args_le k
  clear h hx
  obtain ⟨i0, hi, hz0, hz1, hz2⟩ := info_parts Try.infoInt
  have I0 := Lib.hid hi
  have I1 := Lib.hid hz0
  have I2 := Lib.hid hz1
  have I3 := Lib.hid hz2
  clear hi hz0 hz1 hz2
  go_enter Try.func52, Try.ntmps52
  go_wp2_with fail
  refine (num_any g s a 0 _ HR.out hs).mono ?_
  rintro r w1 ⟨rfl, hr1, hu1⟩
  generalize Wi.num s a 0 = q1 at *
  have HU1 := Lib.hid hu1
  have HR1 := Lib.hid (hr1.ext ((Ext.refl w1).alloc (.cells #[.int .i64 k, .int .i64 q1.1, .slice none 0 0, .string ⟨#[]⟩] 41)))
  have hz1 := hu1.size
  rw [World.size_alloc] at hz1
  clear hr1 hu1
  go_wp2_with fail
  refine (exp_eq k false HX.out _).mono ?_
  rintro r w2 ⟨rfl, rfl⟩
  go_wp2_with fail
  refine (args_len k _).mono ?_
  rintro r w2 ⟨A, c, rfl, hx2⟩
  have HB2 : Hid (w2.heap[w1.heap.size]? = some (.cells #[.int .i64 k, .int .i64 q1.1, .slice none 0 0, .string ⟨#[]⟩] 41 (0, 0))) := Lib.hid (hx2.blk (blk_new w1 _))
  have HZ2 : Hid (w2.heap[w.heap.size]? = some ((.cells #[.int .i64 0, .int .i64 0, .slice none 0 0, .string ⟨#[]⟩] 41))) := Lib.hid (hx2.blk (blk_alloc (HU1.out.blk (blk_new w _) (by omega)) _))
  have HR2 := Lib.hid (HR1.out.ext hx2)
  have HU2 : Hid (Upd g w w2) := Lib.hid (((Upd.ext ((Ext.refl w).alloc _)).trans HU1.out).trans (Upd.ext (((Ext.refl w1).alloc _).trans hx2)))
  have hz2 := hx2.size
  rw [World.size_alloc] at hz2
  clear HR1 HU1 HR hx2
  generalize w1.heap.size = ge at *
  clear w1
  generalize (Ki.args k).length = n at *
  go_wp2
  go_loopw [18] (fun i wr => ∃ (j : Nat) (sl : Value), j ≤ n ∧ i = .int .i64 j ∧ RestAt g s k q1.1 q1.2.1 q1.2.2 w ge sl j wr) (fun i _ => n - (intOf i).toNat)
  case atStart => exact ⟨0, _, by omega, rfl, HB2.out, OwnInts.nil _ _, HR2.out, HU2.out, HZ2.out, hz2⟩
  case round =>
    obtain ⟨j, sl, hj, rfl, hra⟩ := hrel
    have HRA := Lib.hid hra
    clear hra HB2 HZ2 HR2 HU2 w2 hz2
    by_cases hlt : j < n
    · go_wp2
      have HL : Hid ((Wi.loop s q1.2.1 q1.2.2 (j + 1)) = ((Wi.loop s q1.2.1 q1.2.2 j).1 ++ [(Wi.num s (Wi.loop s q1.2.1 q1.2.2 j).2.1 (Wi.loop s q1.2.1 q1.2.2 j).2.2).1], (Wi.num s (Wi.loop s q1.2.1 q1.2.2 j).2.1 (Wi.loop s q1.2.1 q1.2.2 j).2.2).2)) := Lib.hid rfl
      have HLL : Hid ((Wi.loop s q1.2.1 q1.2.2 j).1.length = j) := Lib.hid (Wi.loop_len _ _ _ _)
      have HRA' := HRA
      unfold RestAt at HRA'
      generalize hq2 : Wi.loop s q1.2.1 q1.2.2 j = q2 at *
      generalize hq3 : Wi.num s q2.2.1 q2.2.2 = q3 at *
      have HQ2 := Lib.hid hq2
      have HQ3 := Lib.hid hq3
      clear hq2 hq3
      have HU : (∀ v, (fun v => v = wr.drew) v → (fun v : World => v.heap[ge]? = some (.cells #[.int .i64 k, .int .i64 q1.1, sl, .string ⟨#[]⟩] 41 (0, 0))) v) ∧ ∀ p ∈ ([(3, RT3 g s q3 wr), (4, RT4 g s q3 wr), (5, RT5 g s k q1.1 q2.1 q3 w ge sl), (7, RT7 g s k q1.1 q1.2.1 q1.2.2 w ge j)] : List (Nat × (Value → World → Prop))), p.1 = 7 ∨ ∀ u v, p.2 u v → (fun v : World => v.heap[ge]? = some (.cells #[.int .i64 k, .int .i64 q1.1, sl, .string ⟨#[]⟩] 41 (0, 0))) v := by
        obtain ⟨b1, b2, b3, b4, b5, b6⟩ := HRA'.out
        refine ⟨fun v hv => by subst hv; exact b1, fun p hp => ?_⟩
        simp only [List.mem_cons, List.not_mem_nil, or_false] at hp
        rcases hp with rfl | rfl | rfl | rfl
        · exact .inr fun u v h => h.2.2.blk b1 (by omega)
        · refine .inr fun u v h => ?_
          obtain ⟨w3, h3, rfl, _⟩ := h
          exact blk_alloc (h3.2.blk b1 (by omega)) _
        · exact .inr fun u v h => h.2.2.2.1
        · exact .inl rfl
      refine region_ph (fun v => v = wr.drew) [(3, RT3 g s q3 wr), (4, RT4 g s q3 wr), (5, RT5 g s k q1.1 q2.1 q3 w ge sl), (7, RT7 g s k q1.1 q1.2.1 q1.2.2 w ge j)] (by kernel_rfl) rfl ?_
      have K2 : ∀ v : World, v.heap[ge]? = some (.cells #[.int .i64 k, .int .i64 q1.1, sl, .string ⟨#[]⟩] 41 (0, 0)) → v.cell? ⟨ge, 2, none⟩ = some sl := fun v hv => blk_cell hv 2 sl rfl
      refine ph_take2 _ HU (i := 0) (v := ?_) rfl (by kernel_rfl) (by kernel_rfl) (by kernel_rfl) (by kernel_rfl) (by kernel_rfl) (by kernel_rfl) (fun _ _ _ h => h) (Still.yes (by kernel_rfl) fun w hS => ?_) ?_
      rotate_left 1
      · skip
        go_simp
        refine gives_mk ?_ rfl
        with_reducible rfl
      refine ph_take2 _ HU (i := 1) (v := ?_) rfl (by kernel_rfl) (by kernel_rfl) (by kernel_rfl) (by kernel_rfl) (by kernel_rfl) (by kernel_rfl) (fun _ _ _ h => h) (Still.yes (by kernel_rfl) fun w hS => ?_) ?_
      rotate_left 1
      · skip
        go_simp
        refine gives_mk ?_ rfl
        with_reducible rfl
      refine ph_take2 _ HU (i := 2) (v := ?_) rfl (by kernel_rfl) (by kernel_rfl) (by kernel_rfl) (by kernel_rfl) (by kernel_rfl) (by kernel_rfl) (fun _ _ _ h => h) (Still.yes (by kernel_rfl) fun w hS => ?_) ?_
      rotate_left 1
      · skip
        go_simp
        refine gives_mk ?_ rfl
        with_reducible rfl
      refine ph_call (by kernel_rfl) rfl (by kernel_rfl) (fun _ => by go_simp; try exact ⟨rfl, rfl⟩) (fun v hv => by
        subst hv
        refine (num_any g s q2.2.1 q2.2.2 _ (RD.drew HRA'.out.2.2.1) hs).mono ?_
        rintro r v' ⟨rfl, h1, h2⟩
        rw [HQ3.out] at h1 ⊢
        exact ⟨_, rfl, rfl, h1, (Upd.refl g wr).drew.trans h2⟩) ?_
      rintro v ⟨v3, rfl, _⟩
      refine ph_value (by kernel_rfl) rfl (by kernel_rfl) (fun v hv => ?_) ?_
      · go_simp
        exact ⟨_, _, ⟨rfl, rfl⟩, v, hv.2, rfl, rfl⟩
      rintro u ⟨v4, w3, _, _, rfl⟩
      refine ph_oper (by kernel_rfl) rfl (by kernel_rfl) (fun v hv K hK => ?_) ?_
      · obtain ⟨b1, b2, b3, b4, b5, b6⟩ := HRA'.out
        obtain ⟨w3', ⟨h1, h2⟩, rfl, h3⟩ := hv
        have h4 : w3'.heap.size = w3.heap.size := by simp at h3; omega
        have hz := h2.size
        refine wp_append_own _ (.tmp 21) (.tmp 24) 29 rfl (ge + 1) 3 i0 (.int .i64 0) 1 8 Try.underlying29 I0.out I1.out I2.out I3.out rfl (by decide) sl q2.1.length (intsV q2.1) (by rfl) ((b2.kept h2 (by omega)).alloc _) ⟨w3.heap.size, 0, none⟩ 1 1 [.int .i64 q3.1] (by rfl) rfl (by rw [← h4]; exact one_new _ _ _) (by simp [Value.oneCell']) (by have := HLL.out; unfold maxLen; omega) (by have := HLL.out; omega) (by simp; omega) fun v' w' hown' hgrow _ => hK v' w' ?_
        have hne : ∀ r, sl.ownBlock = some r → ge + 1 ≤ r := fun r hr => (World.ownsRow.lt b2 r hr).1
        have keep : ∀ b o, b ≤ ge → (w3'.alloc (.cells #[.int .i64 q3.1] 3)).heap[b]? = some o → w'.heap[b]? = some o := fun b o hb ho => (hgrow.block b (blk_lt ho) (fun e => by have := hne b e.symm; omega)).trans ho
        refine ⟨?_, keep _ _ (by omega) (blk_alloc h1 _), ?_, keep _ _ (by omega) (blk_alloc (h2.blk b1 (by omega)) _), keep _ _ (by omega) (blk_alloc (h2.blk b5 (by omega)) _), ?_⟩
        · unfold OwnInts; rw [intsV_snoc, List.length_append]; exact hown'
        · exact ((b4.trans h2).trans (Upd.ext ((Ext.refl _).alloc _))).more' hgrow (fun r hr => by have := hne r hr; omega)
        · have := hgrow.size; simp at this; omega
      rintro sl' ⟨v5, h5, _⟩
      obtain ⟨A', c', rfl⟩ := h5.form
      replace HU := hU_next (hU_next (hU_next HU (.int .i64 q3.1)) (.slice (some ⟨w3.heap.size, 0, none⟩) 1 1)) (.slice A' (q2.1 ++ [q3.1]).length c')
      refine ph_take2 _ HU (i := 6) (v := ?_) rfl (by kernel_rfl) (by kernel_rfl) (by kernel_rfl) (by kernel_rfl) (by kernel_rfl) (by kernel_rfl) (fun _ _ _ h => h) (Still.yes (by kernel_rfl) fun w hS => ?_) ?_
      rotate_left 1
      · skip
        go_simp
        refine gives_mk ?_ rfl
        with_reducible rfl
      refine ph_skip (by kernel_rfl) rfl (by kernel_rfl) (fun v hv => ?_) ?_
      · obtain ⟨h1, h2, h3, h4, h5, h6⟩ := hv
        have c2 := blk_cell h4 2 sl rfl
        have f2 := frozen_of_row v ge 2 _ _ h4
        have HS1 := Lib.hid h1
        have HS4 := Lib.hid h4
        go_simp
        refine ⟨.slice A' (q2.1.length + 1) c', blk_set HS4.out 2 _, ?_, ?_, h3.newset (by simp; omega) _, blk_set_other h5 _ (by simp; omega) _, by simp [World.setCell]; omega⟩
        · rw [HL.out]
          have hh := HS1.out
          rw [List.length_append, List.length_singleton] at hh
          exact hh.kept (g := ge) (setCell_row (World.grownBy.refl v _) 2 _) (by omega)
        · rw [HL.out]
          exact blk_set_other h2 _ (by simp; omega) _
      refine ph_done ?_ ?_ _
      · kernel_rfl
      rintro w2 ⟨sl2, hw2⟩
      have HW := Lib.hid hw2
      clear K2 HU hw2
      go_simp
      go_wp2
      go_roundw
      case rel => exact ⟨j + 1, sl2, by omega, by go_num, HW.out⟩
      case measure => simp [intOf]; omega
    · obtain rfl : j = n := by omega
      obtain ⟨b1, b2, b3, b4, b5, b6⟩ := HRA.out
      obtain ⟨A', c', hsl, hI⟩ := b2.ints
      subst hsl
      have e0 := blk_cell b1 0 (.int .i64 k) rfl
      have e1 := blk_cell b1 1 (.int .i64 q1.1) rfl
      have e2 := blk_cell b1 2 (.slice A' (Wi.loop s q1.2.1 q1.2.2 j).1.length c') rfl
      have e3 := blk_cell b1 3 (.string ⟨#[]⟩) rfl
      have z0 := blk_cell b5 0 (.int .i64 0) rfl
      have z1 := blk_cell b5 1 (.int .i64 0) rfl
      have z2 := blk_cell b5 2 (.slice none 0 0) rfl
      have z3 := blk_cell b5 3 (.string ⟨#[]⟩) rfl
      have y0 := frozen_of_row wr w.heap.size 0 _ _ b5
      have y1 := frozen_of_row wr w.heap.size 1 _ _ b5
      have y2 := frozen_of_row wr w.heap.size 2 _ _ b5
      have y3 := frozen_of_row wr w.heap.size 3 _ _ b5
      have HI := Lib.hid hI
      clear b1 b2 b3 b4 b5 b6 hI
      go_wp2
      clear z0 z1 z2 z3 y0 y1 y2 y3 e0 e1 e2 e3
      obtain ⟨b1, b2, b3, b4, b5, b6⟩ := HRA.out
      have hzz := blk_set (blk_set (blk_set (blk_set b5 0 (.int .i64 k)) 1 (.int .i64 q1.1)) 2 (.slice A' (Wi.loop s q1.2.1 q1.2.2 j).1.length c')) 3 (.string ⟨#[]⟩)
      have t0 := blk_cell hzz 0 (.int .i64 k) rfl
      have t1 := blk_cell hzz 1 (.int .i64 q1.1) rfl
      have t2 := blk_cell hzz 2 (.slice A' (Wi.loop s q1.2.1 q1.2.2 j).1.length c') rfl
      have t3 := blk_cell hzz 3 (.string ⟨#[]⟩) rfl
      refine bodyPost_ret (v := .agg #[.int .i64 k, .int .i64 q1.1, .slice A' (Wi.loop s q1.2.1 q1.2.2 j).1.length c', .string ⟨#[]⟩]) (by simp [results, Try.results52, go_sem, t0, t1, t2, t3]) rfl ⟨_, rfl, ?_, ?_, ?_⟩
      · rw [HV.out]
        have hI := (b2.kept (g := w.heap.size) (setCell_row (setCell_row (setCell_row (setCell_row (World.grownBy.refl wr _) 0 (.int .i64 k)) 1 (.int .i64 q1.1)) 2 (.slice A' (Wi.loop s q1.2.1 q1.2.2 j).1.length c')) 3 (.string ⟨#[]⟩)) (by omega)).ints
        obtain ⟨A2, c2, he, hi⟩ := hI
        rw [← he] at hi
        exact ⟨A', c', rfl, hi, fun b o _ hA => by have := b2.far hA; omega⟩
      · rw [HV.out]
        exact blk_set_other (blk_set_other (blk_set_other (blk_set_other b3 _ (by simp; omega) _) _ (by simp; omega) _) _ (by simp; omega) _) _ (by simp; omega) _
      · exact (((b4.newset (by simp) _).newset (by simp) _).newset (by simp) _).newset (by simp) _

end Go.Proofs.Ytlbhpgieehallaa
