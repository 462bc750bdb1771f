/-
  What the events read out of a body are like; the contract of the document's All; the walk of the statement BatchTells.
-/
import Derived.Test.YtlbhpgieehallaaBi
import Derived.Test.YtlbhpgieehallaaBg
import Derived.Test.YtlbhpgieehallaaBh
import Derived.Test.YtlbhpgieehallaaLb
set_option linter.unusedVariables false
set_option linter.unusedSimpArgs false
namespace Go.Proofs.Ytlbhpgieehallaa
open Go.RowKit

theorem Ev.text_le {e : Ev} (h : e.may = true) : e.text.size ≤ e.encL.length := by
  by_cases hx : Ki.exp e.kind = true
  · have ht : e.tailL = Va.put e.text.size ++ e.text.data.toList := by unfold Ev.tailL; rw [if_pos hx]
    unfold Ev.encL
    rw [ht]
    simp
    omega
  · have := (Ev.may_no h hx).2.2.2
    rw [this]; exact Nat.zero_le _
theorem Ev.args_le {e : Ev} (h : e.may = true) : e.args.length ≤ 3 := by
  by_cases hx : Ki.exp e.kind = true
  · rw [Ev.may_exp h hx]; exact Nat.zero_le _
  · rw [(Ev.may_no h hx).2.1]; exact Ki.args_le _
theorem Bt.run_small (s : ByteArray) : ∀ f now a, (Bt.run s f now a).1.length ≤ f ∧ (Bt.run s f now a).2.1.length = (Bt.run s f now a).1.length ∧ ∀ e ∈ (Bt.run s f now a).1, e.may = true ∧ e.args.length ≤ 3 ∧ e.text.size ≤ s.size
  | 0, _, _ => ⟨Nat.le_refl _, rfl, fun e he => by simp [Bt.run] at he⟩
  | f + 1, now, a => by
    have hsz : s.data.toList.length = s.size := by simp
    unfold Bt.run
    by_cases h1 : s.size ≤ a
    · rw [if_pos h1]; exact ⟨Nat.zero_le _, rfl, fun e he => by simp at he⟩
    · rw [if_neg h1]
      by_cases h2 : (Ev.dec (s.data.toList.drop a)).2.2 = 0
      · rw [if_pos h2]
        rcases hd : Ev.dec (s.data.toList.drop a) with ⟨e', k, c⟩
        rw [hd] at h2
        simp only at h2 ⊢
        subst h2
        obtain ⟨hm, _, hk, r, hL⟩ := Ev.dec_ok hd
        have hle : e'.encL.length ≤ s.size := by
          have := congrArg List.length hL
          rw [List.length_drop, List.length_append, hsz] at this
          omega
        by_cases h3 : Ev.ok (now + e'.dt) = true
        · rw [if_pos h3]
          obtain ⟨i1, i2, i3⟩ := Bt.run_small s f (now + e'.dt) (a + k)
          unfold Bt.comb
          split
          · refine ⟨by simp; omega, by simp [i2], fun e he => ?_⟩
            simp only [List.cons_append, List.nil_append, List.mem_cons] at he
            rcases he with rfl | he
            · exact ⟨hm, Ev.args_le hm, Nat.le_trans (Ev.text_le hm) hle⟩
            · exact i3 e he
          · exact ⟨Nat.zero_le _, rfl, fun e he => by simp at he⟩
        · rw [if_neg h3]; exact ⟨Nat.zero_le _, rfl, fun e he => by simp at he⟩
      · rw [if_neg h2]; exact ⟨Nat.zero_le _, rfl, fun e he => by simp at he⟩
theorem Bt.events_small {g st ba : Int} {bo : ByteArray} {l : List Ev} {ts : List Int} {p q : Nat} (h : Bt.events ⟨g, st, ba, bo⟩ = (l, ts, p, q)) : l.length ≤ bo.size + 1 ∧ ts.length = l.length ∧ ∀ e ∈ l, e.may = true ∧ e.args.length ≤ 3 ∧ e.text.size ≤ bo.size := by
  unfold Bt.events at h
  split at h
  · have := Bt.run_small bo (bo.size + 1) ba 0
    simp only at h this
    rw [h] at this
    exact this
  · simp only [Prod.mk.injEq] at h
    obtain ⟨rfl, rfl, _⟩ := h
    exact ⟨Nat.zero_le _, rfl, fun e he => by simp at he⟩
set_option maxRecDepth 100000 in
set_option maxHeartbeats 1000000 in
theorem rall_same (v u : Value) (l : List Ev) (w : World) (h : EvsAt w v l) (h2 : EvsAt w u l) (hz : ∀ e ∈ l, e.args.length ≤ 1000) (hl : l.length ≤ 9223372036854775807) :
    Calls Try.prog 17 #[v, u] w fun r w' => r = .returned (.bool true) ∧ Ext w w' := by
  obtain ⟨A, c, rfl, hA⟩ := h
  obtain ⟨A2, c2, rfl, hA2⟩ := h2
  have HA := Lib.hid hA
  have HA2 := Lib.hid hA2
  have HZ := Lib.hid hz
  clear hA hA2 hz
  go_enter Try.func17, Try.ntmps17
  go_wp2
  go_loopw [5] (fun i wr => ∃ j : Nat, j ≤ l.length ∧ i = .int .i64 j ∧ Ext w wr) (fun i _ => l.length - (intOf i).toNat)
  case atStart => exact ⟨0, by omega, rfl, Ext.refl _⟩
  case round =>
    obtain ⟨j, hj, rfl, hx⟩ := hrel
    have HX := Lib.hid hx
    clear hx
    by_cases hlt : j < l.length
    · have HZJ := Lib.hid (HZ.out l[j] (List.getElem_mem hlt))
      obtain ⟨b, o, rfl, hb, hc⟩ := HA.out (by omega)
      have HEL : Hid (EvCell w b (o + j * 4) l[j]) := Lib.hid (hc j _ (List.getElem?_eq_getElem hlt))
      obtain ⟨b2, o2, rfl, hb2, hc2⟩ := HA2.out (by omega)
      have HEL2 : Hid (EvCell w b2 (o2 + j * 4) l[j]) := Lib.hid (hc2 j _ (List.getElem?_eq_getElem hlt))
      clear hc hc2
      generalize l[j] = e at *
      obtain ⟨k', d', xs', t'⟩ := e
      obtain ⟨A', c', e0, e1, e2, e3, hi⟩ := HEL.out.ext HX.out hb
      obtain ⟨A3, c3, f0, f1, f2, f3, hi2⟩ := HEL2.out.ext HX.out hb2
      have hbr : b < wr.heap.size := Nat.lt_of_lt_of_le hb HX.out.size
      have hbr2 : b2 < wr.heap.size := Nat.lt_of_lt_of_le hb2 HX.out.size
      have E0 := Lib.hid e0
      have E1 := Lib.hid e1
      have E2 := Lib.hid e2
      have E3 := Lib.hid e3
      have F0 := Lib.hid f0
      have F1 := Lib.hid f1
      have F2 := Lib.hid f2
      have F3 := Lib.hid f3
      have HI := Lib.hid hi
      have HI2 := Lib.hid hi2
      clear e0 e1 e2 e3 f0 f1 f2 f3 hi hi2
      go_wp2
      refine region_all (fun v => Ext wr v) (by kernel_rfl) (Ext.refl _).drew ?_
      have m0 : ∀ v, Ext wr v → v.cell? ⟨b, o + j * 4, none⟩ = some (.int .i64 k') := fun v hv => by rw [Below.cell hv hbr]; exact E0.out
      have m1 : ∀ v, Ext wr v → v.cell? ⟨b, o + j * 4 + 1, none⟩ = some (.int .i64 d') := fun v hv => by rw [Below.cell hv hbr]; exact E1.out
      have m2 : ∀ v, Ext wr v → v.cell? ⟨b, o + j * 4 + 2, none⟩ = some (.slice A' xs'.length c') := fun v hv => by rw [Below.cell hv hbr]; exact E2.out
      have m3 : ∀ v, Ext wr v → v.cell? ⟨b, o + j * 4 + 3, none⟩ = some (.string t') := fun v hv => by rw [Below.cell hv hbr]; exact E3.out
      have n0 : ∀ v, Ext wr v → v.cell? ⟨b2, o2 + j * 4, none⟩ = some (.int .i64 k') := fun v hv => by rw [Below.cell hv hbr2]; exact F0.out
      have n1 : ∀ v, Ext wr v → v.cell? ⟨b2, o2 + j * 4 + 1, none⟩ = some (.int .i64 d') := fun v hv => by rw [Below.cell hv hbr2]; exact F1.out
      have n2 : ∀ v, Ext wr v → v.cell? ⟨b2, o2 + j * 4 + 2, none⟩ = some (.slice A3 xs'.length c3) := fun v hv => by rw [Below.cell hv hbr2]; exact F2.out
      have n3 : ∀ v, Ext wr v → v.cell? ⟨b2, o2 + j * 4 + 3, none⟩ = some (.string t') := fun v hv => by rw [Below.cell hv hbr2]; exact F3.out
      have i0 : (0 : Int) ≤ (j : Int) := by omega
      have i1 : (j : Int) < (l.length : Int) := by omega
      refine all_take (i := 0) (v := ?_) rfl (by kernel_rfl) (by kernel_rfl) (by kernel_rfl) (fun _ _ _ h => h) (Tame.yes (by kernel_rfl) fun w hS => ?_) ?_
      rotate_left 1
      · skip
        go_simp
        refine gives_mk ?_ hS
        with_reducible rfl
      refine all_take (i := 1) (v := ?_) rfl (by kernel_rfl) (by kernel_rfl) (by kernel_rfl) (fun _ _ _ h => h) (Tame.yes (by kernel_rfl) fun w hS => ?_) ?_
      rotate_left 1
      · skip
        go_simp
        refine gives_mk ?_ hS
        with_reducible rfl
      refine all_take (i := 2) (v := ?_) rfl (by kernel_rfl) (by kernel_rfl) (by kernel_rfl) (fun _ _ _ h => h) (Tame.yes (by kernel_rfl) fun w hS => ?_) ?_
      rotate_left 1
      · skip
        go_simp
        refine gives_mk ?_ hS
        with_reducible rfl
      refine all_take (i := 3) (v := ?_) rfl (by kernel_rfl) (by kernel_rfl) (by kernel_rfl) (fun _ _ _ h => h) (Tame.yes (by kernel_rfl) fun w hS => ?_) ?_
      rotate_left 1
      · skip
        go_simp
        refine gives_mk ?_ hS
        with_reducible rfl
      refine all_take (i := 4) (v := ?_) rfl (by kernel_rfl) (by kernel_rfl) (by kernel_rfl) (fun _ _ _ h => h) (Tame.yes (by kernel_rfl) fun w hS => ?_) ?_
      rotate_left 1
      · skip
        go_simp
        refine gives_mk ?_ hS
        with_reducible rfl
      refine all_take (i := 5) (v := ?_) rfl (by kernel_rfl) (by kernel_rfl) (by kernel_rfl) (fun _ _ _ h => h) (Tame.yes (by kernel_rfl) fun w hS => ?_) ?_
      rotate_left 1
      · skip
        go_simp
        refine gives_mk ?_ hS
        with_reducible rfl
      refine all_take (i := 6) (v := ?_) rfl (by kernel_rfl) (by kernel_rfl) (by kernel_rfl) (fun _ _ _ h => h) (Tame.yes (by kernel_rfl) fun w hS => ?_) ?_
      rotate_left 1
      · skip
        go_simp
        refine gives_mk ?_ hS
        with_reducible rfl
      refine all_take (i := 7) (v := ?_) rfl (by kernel_rfl) (by kernel_rfl) (by kernel_rfl) (fun _ _ _ h => h) (Tame.yes (by kernel_rfl) fun w hS => ?_) ?_
      rotate_left 1
      · skip
        go_simp
        refine gives_mk ?_ hS
        with_reducible rfl
      refine all_take (i := 8) (v := .bool true) rfl (by kernel_rfl) (by kernel_rfl) (by kernel_rfl) (fun _ _ _ h => h) (Tame.yes (by kernel_rfl) fun w hS => ?_) ?_
      · go_simp
        refine gives_call ((same_k k' d' xs' t' k' d' xs' t' true ((Ev.sameB_iff _ _).2 rfl) _ _ _ _ _ (HI.out.ext hS) (HI2.out.ext hS) (by have := HZJ.out; omega)).mono ?_)
        exact fun r w2 ⟨he, hx⟩ => ⟨he, hS.trans hx⟩
      refine all_take (i := 9) (v := ?_) rfl (by kernel_rfl) (by kernel_rfl) (by kernel_rfl) (fun _ _ _ h => h) (Tame.yes (by kernel_rfl) fun w hS => ?_) ?_
      rotate_left 1
      · skip
        go_simp
        refine gives_mk ?_ hS
        with_reducible rfl
      refine all_done ?_ ?_ _
      · kernel_rfl
      intro w5 hw5
      have HX5 : Hid (Ext w w5) := Lib.hid (HX.out.trans hw5)
      clear m0 m1 m2 m3 n0 n1 n2 n3 i0 i1 hw5
      go_simp
      go_wp2
      go_roundw
      case rel => exact ⟨j + 1, by omega, by go_num, HX5.out⟩
      case measure => simp [intOf]; omega
    · obtain rfl : j = l.length := by omega
      go_wp2
      go_ret
      exact ⟨rfl, HX.out⟩
theorem rbdecode_eq (s s' : ByteArray) (hss : s = s') (a : Int) (g st ba : Int) (bo : ByteArray) (p q : Int) (h : Bt.decP s' a = (⟨g, st, ba, bo⟩, p, q)) (w : World) (hs : s'.size ≤ maxLen) :
    Calls Try.prog 10 #[.string s, .int .i64 a] w fun r w' => r = .returned (.tuple #[.agg #[.int .i64 g, .int .i64 st, .int .i64 ba, .string bo], .int .i64 p, .int .i64 q]) ∧ Ext w w' := by
  subst hss
  have := rbdecode_any s a w hs
  rw [h] at this
  exact this
theorem rbevents_eq (g st ba : Int) (bo : ByteArray) (l : List Ev) (ts : List Int) (p q : Nat) (h : Bt.events ⟨g, st, ba, bo⟩ = (l, ts, p, q)) (w : World) :
    Calls Try.prog 12 #[.agg #[.int .i64 g, .int .i64 st, .int .i64 ba, .string bo]] w fun r w' => ∃ A c A' c', r = .returned (.tuple #[.slice A l.length c, .slice A' ts.length c', .int .i64 (p : Int), .int .i64 (q : Int)]) ∧ EvsAt w' (.slice A l.length c) l ∧ IntsAt w' (.slice A' ts.length c') ts ∧ Ext w w' := by
  refine (rbevents_any g st ba bo w).mono ?_
  rw [h]
  rintro r w' ⟨ev, tv, rfl, hev, htv, hx, _⟩
  have h1 := hev
  have h2 := htv
  obtain ⟨A, c, rfl, _⟩ := h1
  obtain ⟨A', c', rfl, _⟩ := h2
  exact ⟨A, c, A', c', rfl, hev, htv, hx⟩
set_option maxRecDepth 100000 in
set_option maxHeartbeats 4000000 in
theorem btells_in (g st ba : Int) (bo s : ByteArray) (a : Int) (w : World) (hbo : bo.size ≤ 3000) (hs : s.size ≤ 5000) :
    Calls Try.prog 3 #[.agg #[.int .i64 g, .int .i64 st, .int .i64 ba, .string bo], .string s, .int .i64 a] w fun e w' => e = .returned (.bool true) ∧ Ext w w' := by
  rcases hp : Bt.decP s a with ⟨⟨gx, sx, bx, tx⟩, p, q⟩
  rcases he : Bt.events ⟨g, st, ba, bo⟩ with ⟨l, ts, pe, qe⟩
  have HP := Lib.hid hp
  have HE := Lib.hid he
  have hll := (Bt.events_small he).1
  have hsm := (Bt.events_small he).2.2
  have HSM : Hid (∀ e ∈ l, e.args.length ≤ 1000) := Lib.hid fun e he => by have := (hsm e he).2.1; omega
  have HTL : Hid (ts.length = l.length) := Lib.hid (Bt.events_small he).2.1
  obtain ⟨mb, hm⟩ : ∃ b, Bt.may ⟨g, st, ba, bo⟩ = b := ⟨_, rfl⟩
  obtain ⟨en, hen⟩ : ∃ b, Bt.enc ⟨g, st, ba, bo⟩ = b := ⟨_, rfl⟩
  have HM := Lib.hid hm
  have HEN := Lib.hid hen
  have HA : Hid (∀ v, Ext (w.alloc (.cells #[.int .i64 g, .int .i64 st, .int .i64 ba, .string bo] 23)) v → C4 w.heap.size g st ba bo v) := Lib.hid fun v hv => C4.of (blk_new w _) hv
  clear hp he hsm hm hen
  go_enter Try.func3, Try.ntmps3
  go_wp2_with fail
  refine (bdecode_eq s s rfl a gx sx bx tx p q HP.out _ (by unfold maxLen; omega)).mono ?_
  rintro r w1 ⟨rfl, hx1⟩
  have HX1 := Lib.hid hx1
  clear hx1
  go_wp2_with fail
  refine (rbdecode_eq s s rfl a gx sx bx tx p q HP.out _ (by unfold maxLen; omega)).mono ?_
  rintro r w2 ⟨rfl, hx2⟩
  have HD1 := Lib.hid (hx2.alloc (.cells #[.int .i64 gx, .int .i64 sx, .int .i64 bx, .string tx] 23))
  have HX2 : Hid (Ext (w.alloc (.cells #[.int .i64 g, .int .i64 st, .int .i64 ba, .string bo] 23)) (w2.alloc (.cells #[.int .i64 gx, .int .i64 sx, .int .i64 bx, .string tx] 23))) := Lib.hid ((HX1.out.alloc _).trans HD1.out)
  clear hx2
  obtain ⟨a0, a1, a2, a3⟩ := HA.out _ HX2.out
  go_wp2_with fail
  refine (bevents_eq g st ba bo l ts pe qe HE.out _).mono ?_
  rintro r w3 ⟨A, c, A', c', rfl, hev, htv, hx3⟩
  have HX3 := Lib.hid hx3
  have HEV := Lib.hid hev
  have HTV := Lib.hid htv
  clear a0 a1 a2 a3 hev htv hx3
  obtain ⟨a0, a1, a2, a3⟩ := HA.out _ (HX2.out.trans HX3.out)
  go_wp2_with fail
  refine (rbevents_eq g st ba bo l ts pe qe HE.out _).mono ?_
  rintro r w4 ⟨A2, c2, A2', c2', rfl, hev, htv, hx4⟩
  have HX4 := Lib.hid hx4
  have HEV2 := Lib.hid hev
  have HTV2 := Lib.hid htv
  clear a0 a1 a2 a3 hev htv hx4
  go_wp2
  refine region_all (fun v => Ext w4 v) (by kernel_rfl) (Ext.refl _).drew ?_
  have HC2 : Hid (Ext (w2.alloc (.cells #[.int .i64 gx, .int .i64 sx, .int .i64 bx, .string tx] 23)) w4) := Lib.hid (HX3.out.trans HX4.out)
  have HC1 : Hid (Ext (w1.alloc (.cells #[.int .i64 gx, .int .i64 sx, .int .i64 bx, .string tx] 23)) w4) := Lib.hid (HD1.out.trans HC2.out)
  have HC0 : Hid (Ext (w.alloc (.cells #[.int .i64 g, .int .i64 st, .int .i64 ba, .string bo] 23)) w4) := Lib.hid (HX2.out.trans HC2.out)
  have a0 : ∀ v, Ext w4 v → v.cell? ⟨w.heap.size, 0, none⟩ = some (.int .i64 g) := fun v hv => (HA.out v (HC0.out.trans hv)).1
  have a1 : ∀ v, Ext w4 v → v.cell? ⟨w.heap.size, 1, none⟩ = some (.int .i64 st) := fun v hv => (HA.out v (HC0.out.trans hv)).2.1
  have a2 : ∀ v, Ext w4 v → v.cell? ⟨w.heap.size, 2, none⟩ = some (.int .i64 ba) := fun v hv => (HA.out v (HC0.out.trans hv)).2.2.1
  have a3 : ∀ v, Ext w4 v → v.cell? ⟨w.heap.size, 3, none⟩ = some (.string bo) := fun v hv => (HA.out v (HC0.out.trans hv)).2.2.2
  have x0 : ∀ v, Ext w4 v → v.cell? ⟨w1.heap.size, 0, none⟩ = some (.int .i64 gx) := fun v hv => Ext.box (HC1.out.trans hv) 0 _ rfl
  have x1 : ∀ v, Ext w4 v → v.cell? ⟨w1.heap.size, 1, none⟩ = some (.int .i64 sx) := fun v hv => Ext.box (HC1.out.trans hv) 1 _ rfl
  have x2 : ∀ v, Ext w4 v → v.cell? ⟨w1.heap.size, 2, none⟩ = some (.int .i64 bx) := fun v hv => Ext.box (HC1.out.trans hv) 2 _ rfl
  have x3 : ∀ v, Ext w4 v → v.cell? ⟨w1.heap.size, 3, none⟩ = some (.string tx) := fun v hv => Ext.box (HC1.out.trans hv) 3 _ rfl
  have y0 : ∀ v, Ext w4 v → v.cell? ⟨w2.heap.size, 0, none⟩ = some (.int .i64 gx) := fun v hv => Ext.box (HC2.out.trans hv) 0 _ rfl
  have y1 : ∀ v, Ext w4 v → v.cell? ⟨w2.heap.size, 1, none⟩ = some (.int .i64 sx) := fun v hv => Ext.box (HC2.out.trans hv) 1 _ rfl
  have y2 : ∀ v, Ext w4 v → v.cell? ⟨w2.heap.size, 2, none⟩ = some (.int .i64 bx) := fun v hv => Ext.box (HC2.out.trans hv) 2 _ rfl
  have y3 : ∀ v, Ext w4 v → v.cell? ⟨w2.heap.size, 3, none⟩ = some (.string tx) := fun v hv => Ext.box (HC2.out.trans hv) 3 _ rfl
  refine all_take (i := 0) (v := .bool true) rfl (by kernel_rfl) (by kernel_rfl) (by kernel_rfl) (fun _ _ _ h => h) (Tame.yes (by kernel_rfl) fun w hS => ?_) ?_
  · go_simp
    refine gives_call ((bfixed_yes _).mono ?_)
    exact fun r w2 ⟨he, hx⟩ => ⟨he, hS.trans hx⟩
  refine all_take (i := 1) (v := ?_) rfl (by kernel_rfl) (by kernel_rfl) (by kernel_rfl) (fun _ _ _ h => h) (Tame.yes (by kernel_rfl) fun w hS => ?_) ?_
  rotate_left 1
  · skip
    go_simp
    try simp only [beq_self_eq_true]
    refine gives_mk ?_ hS
    with_reducible rfl
  refine all_take (i := 2) (v := ?_) rfl (by kernel_rfl) (by kernel_rfl) (by kernel_rfl) (fun _ _ _ h => h) (Tame.yes (by kernel_rfl) fun w hS => ?_) ?_
  rotate_left 1
  · skip
    go_simp
    try simp only [beq_self_eq_true]
    refine gives_mk ?_ hS
    with_reducible rfl
  refine all_take (i := 3) (v := .bool mb) rfl (by kernel_rfl) (by kernel_rfl) (by kernel_rfl) (fun _ _ _ h => h) (Tame.yes (by kernel_rfl) fun w hS => ?_) ?_
  · go_simp
    refine gives_call ((bmay_eq g st ba bo mb HM.out _).mono ?_)
    exact fun r w2 ⟨he, hx⟩ => ⟨he, hS.trans hx⟩
  refine all_take (i := 4) (v := ?_) rfl (by kernel_rfl) (by kernel_rfl) (by kernel_rfl) (fun _ _ _ h => h) (Tame.yes (by kernel_rfl) fun w hS => ?_) ?_
  rotate_left 1
  · skip
    go_simp
    try simp only [beq_self_eq_true]
    refine gives_mk ?_ hS
    with_reducible rfl
  refine all_take (i := 5) (v := .bool mb) rfl (by kernel_rfl) (by kernel_rfl) (by kernel_rfl) (fun _ _ _ h => h) (Tame.yes (by kernel_rfl) fun w hS => ?_) ?_
  · go_simp
    refine gives_call ((rbmay_eq g st ba bo mb HM.out _).mono ?_)
    exact fun r w2 ⟨he, hx⟩ => ⟨he, hS.trans hx⟩
  refine all_take (i := 6) (v := ?_) rfl (by kernel_rfl) (by kernel_rfl) (by kernel_rfl) (fun _ _ _ h => h) (Tame.yes (by kernel_rfl) fun w hS => ?_) ?_
  rotate_left 1
  · skip
    go_simp
    try simp only [beq_self_eq_true]
    refine gives_mk ?_ hS
    with_reducible rfl
  refine all_take (i := 7) (v := ?_) rfl (by kernel_rfl) (by kernel_rfl) (by kernel_rfl) (fun _ _ _ h => h) (Tame.yes (by kernel_rfl) fun w hS => ?_) ?_
  rotate_left 1
  · skip
    go_simp
    try simp only [beq_self_eq_true]
    refine gives_mk ?_ hS
    with_reducible rfl
  refine all_take (i := 8) (v := ?_) rfl (by kernel_rfl) (by kernel_rfl) (by kernel_rfl) (fun _ _ _ h => h) (Tame.yes (by kernel_rfl) fun w hS => ?_) ?_
  rotate_left 1
  · skip
    go_simp
    try simp only [beq_self_eq_true]
    refine gives_mk ?_ hS
    with_reducible rfl
  refine all_take (i := 9) (v := ?_) rfl (by kernel_rfl) (by kernel_rfl) (by kernel_rfl) (fun _ _ _ h => h) (Tame.yes (by kernel_rfl) fun w hS => ?_) ?_
  rotate_left 1
  · skip
    go_simp
    try simp only [beq_self_eq_true]
    refine gives_mk ?_ hS
    with_reducible rfl
  refine all_take (i := 10) (v := .string en) rfl (by kernel_rfl) (by kernel_rfl) (by kernel_rfl) (fun _ _ _ h => h) (Tame.yes (by kernel_rfl) fun w hS => ?_) ?_
  · go_simp
    refine gives_call ((benc_eq g st ba bo en HEN.out _).mono ?_)
    exact fun r w2 ⟨he, hx⟩ => ⟨he, hS.trans hx⟩
  refine all_take (i := 11) (v := ?_) rfl (by kernel_rfl) (by kernel_rfl) (by kernel_rfl) (fun _ _ _ h => h) (Tame.yes (by kernel_rfl) fun w hS => ?_) ?_
  rotate_left 1
  · skip
    go_simp
    try simp only [beq_self_eq_true]
    refine gives_mk ?_ hS
    with_reducible rfl
  refine all_take (i := 12) (v := .string en) rfl (by kernel_rfl) (by kernel_rfl) (by kernel_rfl) (fun _ _ _ h => h) (Tame.yes (by kernel_rfl) fun w hS => ?_) ?_
  · go_simp
    refine gives_call ((rbenc_eq g st ba bo en HEN.out _).mono ?_)
    exact fun r w2 ⟨he, hx⟩ => ⟨he, hS.trans hx⟩
  refine all_take (i := 13) (v := ?_) rfl (by kernel_rfl) (by kernel_rfl) (by kernel_rfl) (fun _ _ _ h => h) (Tame.yes (by kernel_rfl) fun w hS => ?_) ?_
  rotate_left 1
  · skip
    go_simp
    try simp only [beq_self_eq_true]
    refine gives_mk ?_ hS
    with_reducible rfl
  refine all_take (i := 14) (v := ?_) rfl (by kernel_rfl) (by kernel_rfl) (by kernel_rfl) (fun _ _ _ h => h) (Tame.yes (by kernel_rfl) fun w hS => ?_) ?_
  rotate_left 1
  · skip
    go_simp
    try simp only [beq_self_eq_true]
    refine gives_mk ?_ hS
    with_reducible rfl
  refine all_take (i := 15) (v := ?_) rfl (by kernel_rfl) (by kernel_rfl) (by kernel_rfl) (fun _ _ _ h => h) (Tame.yes (by kernel_rfl) fun w hS => ?_) ?_
  rotate_left 1
  · skip
    go_simp
    try simp only [beq_self_eq_true]
    refine gives_mk ?_ hS
    with_reducible rfl
  refine all_take (i := 16) (v := ?_) rfl (by kernel_rfl) (by kernel_rfl) (by kernel_rfl) (fun _ _ _ h => h) (Tame.yes (by kernel_rfl) fun w hS => ?_) ?_
  rotate_left 1
  · skip
    go_simp
    try simp only [beq_self_eq_true]
    refine gives_mk ?_ hS
    with_reducible rfl
  refine all_take (i := 17) (v := ?_) rfl (by kernel_rfl) (by kernel_rfl) (by kernel_rfl) (fun _ _ _ h => h) (Tame.yes (by kernel_rfl) fun w hS => ?_) ?_
  rotate_left 1
  · skip
    go_simp
    try simp only [beq_self_eq_true]
    refine gives_mk ?_ hS
    with_reducible rfl
  refine all_take (i := 18) (v := ?_) rfl (by kernel_rfl) (by kernel_rfl) (by kernel_rfl) (fun _ _ _ h => h) (Tame.yes (by kernel_rfl) fun w hS => ?_) ?_
  rotate_left 1
  · skip
    go_simp
    try simp only [beq_self_eq_true]
    refine gives_mk ?_ hS
    with_reducible rfl
  refine all_take (i := 19) (v := ?_) rfl (by kernel_rfl) (by kernel_rfl) (by kernel_rfl) (fun _ _ _ h => h) (Tame.yes (by kernel_rfl) fun w hS => ?_) ?_
  rotate_left 1
  · skip
    go_simp
    try simp only [beq_self_eq_true]
    refine gives_mk ?_ hS
    with_reducible rfl
  refine all_take (i := 20) (v := ?_) rfl (by kernel_rfl) (by kernel_rfl) (by kernel_rfl) (fun _ _ _ h => h) (Tame.yes (by kernel_rfl) fun w hS => ?_) ?_
  rotate_left 1
  · skip
    go_simp
    try simp only [beq_self_eq_true]
    refine gives_mk ?_ hS
    with_reducible rfl
  refine all_take (i := 21) (v := ?_) rfl (by kernel_rfl) (by kernel_rfl) (by kernel_rfl) (fun _ _ _ h => h) (Tame.yes (by kernel_rfl) fun w hS => ?_) ?_
  rotate_left 1
  · skip
    go_simp
    try simp only [beq_self_eq_true]
    refine gives_mk ?_ hS
    with_reducible rfl
  refine all_take (i := 22) (v := ?_) rfl (by kernel_rfl) (by kernel_rfl) (by kernel_rfl) (fun _ _ _ h => h) (Tame.yes (by kernel_rfl) fun w hS => ?_) ?_
  rotate_left 1
  · skip
    go_simp
    try simp only [beq_self_eq_true]
    refine gives_mk ?_ hS
    with_reducible rfl
  refine all_take (i := 23) (v := ?_) rfl (by kernel_rfl) (by kernel_rfl) (by kernel_rfl) (fun _ _ _ h => h) (Tame.yes (by kernel_rfl) fun w hS => ?_) ?_
  rotate_left 1
  · skip
    go_simp
    try simp only [beq_self_eq_true]
    refine gives_mk ?_ hS
    with_reducible rfl
  refine all_take (i := 24) (v := ?_) rfl (by kernel_rfl) (by kernel_rfl) (by kernel_rfl) (fun _ _ _ h => h) (Tame.yes (by kernel_rfl) fun w hS => ?_) ?_
  rotate_left 1
  · skip
    go_simp
    try simp only [beq_self_eq_true]
    refine gives_mk ?_ hS
    with_reducible rfl
  refine all_take (i := 25) (v := ?_) rfl (by kernel_rfl) (by kernel_rfl) (by kernel_rfl) (fun _ _ _ h => h) (Tame.yes (by kernel_rfl) fun w hS => ?_) ?_
  rotate_left 1
  · skip
    go_simp
    try simp only [beq_self_eq_true]
    refine gives_mk ?_ hS
    with_reducible rfl
  refine all_take (i := 26) (v := ?_) rfl (by kernel_rfl) (by kernel_rfl) (by kernel_rfl) (fun _ _ _ h => h) (Tame.yes (by kernel_rfl) fun w hS => ?_) ?_
  rotate_left 1
  · skip
    go_simp
    try simp only [beq_self_eq_true]
    refine gives_mk ?_ hS
    with_reducible rfl
  refine all_take (i := 27) (v := ?_) rfl (by kernel_rfl) (by kernel_rfl) (by kernel_rfl) (fun _ _ _ h => h) (Tame.yes (by kernel_rfl) fun w hS => ?_) ?_
  rotate_left 1
  · skip
    go_simp
    try simp only [beq_self_eq_true]
    refine gives_mk ?_ hS
    with_reducible rfl
  refine all_take (i := 28) (v := ?_) rfl (by kernel_rfl) (by kernel_rfl) (by kernel_rfl) (fun _ _ _ h => h) (Tame.yes (by kernel_rfl) fun w hS => ?_) ?_
  rotate_left 1
  · skip
    go_simp
    try simp only [beq_self_eq_true]
    refine gives_mk ?_ hS
    with_reducible rfl
  refine all_take (i := 29) (v := ?_) rfl (by kernel_rfl) (by kernel_rfl) (by kernel_rfl) (fun _ _ _ h => h) (Tame.yes (by kernel_rfl) fun w hS => ?_) ?_
  rotate_left 1
  · skip
    go_simp
    try simp only [beq_self_eq_true]
    refine gives_mk ?_ hS
    with_reducible rfl
  refine all_take (i := 30) (v := ?_) rfl (by kernel_rfl) (by kernel_rfl) (by kernel_rfl) (fun _ _ _ h => h) (Tame.yes (by kernel_rfl) fun w hS => ?_) ?_
  rotate_left 1
  · skip
    go_simp
    try simp only [beq_self_eq_true]
    refine gives_mk ?_ hS
    with_reducible rfl
  refine all_take (i := 31) (v := ?_) rfl (by kernel_rfl) (by kernel_rfl) (by kernel_rfl) (fun _ _ _ h => h) (Tame.yes (by kernel_rfl) fun w hS => ?_) ?_
  rotate_left 1
  · skip
    go_simp
    try simp only [beq_self_eq_true]
    refine gives_mk ?_ hS
    with_reducible rfl
  refine all_take (i := 32) (v := ?_) rfl (by kernel_rfl) (by kernel_rfl) (by kernel_rfl) (fun _ _ _ h => h) (Tame.yes (by kernel_rfl) fun w hS => ?_) ?_
  rotate_left 1
  · skip
    go_simp
    try simp only [beq_self_eq_true]
    refine gives_mk ?_ hS
    with_reducible rfl
  refine all_take (i := 33) (v := .bool true) rfl (by kernel_rfl) (by kernel_rfl) (by kernel_rfl) (fun _ _ _ h => h) (Tame.yes (by kernel_rfl) fun w hS => ?_) ?_
  · go_simp
    refine gives_call ((rall_same _ _ l _ ((HEV.out.ext HX4.out).ext hS) (HEV2.out.ext hS) HSM.out (by omega)).mono ?_)
    exact fun r w2 ⟨he, hx⟩ => ⟨he, hS.trans hx⟩
  refine all_take (i := 34) (v := ?_) rfl (by kernel_rfl) (by kernel_rfl) (by kernel_rfl) (fun _ _ _ h => h) (Tame.yes (by kernel_rfl) fun w hS => ?_) ?_
  rotate_left 1
  · skip
    go_simp
    try simp only [beq_self_eq_true]
    refine gives_mk ?_ hS
    with_reducible rfl
  refine all_take (i := 35) (v := ?_) rfl (by kernel_rfl) (by kernel_rfl) (by kernel_rfl) (fun _ _ _ h => h) (Tame.yes (by kernel_rfl) fun w hS => ?_) ?_
  rotate_left 1
  · skip
    go_simp
    try simp only [beq_self_eq_true]
    refine gives_mk ?_ hS
    with_reducible rfl
  refine all_take (i := 36) (v := ?_) rfl (by kernel_rfl) (by kernel_rfl) (by kernel_rfl) (fun _ _ _ h => h) (Tame.yes (by kernel_rfl) fun w hS => ?_) ?_
  rotate_left 1
  · skip
    go_simp
    try simp only [beq_self_eq_true]
    refine gives_mk ?_ hS
    with_reducible rfl
  refine all_take (i := 37) (v := ?_) rfl (by kernel_rfl) (by kernel_rfl) (by kernel_rfl) (fun _ _ _ h => h) (Tame.yes (by kernel_rfl) fun w hS => ?_) ?_
  rotate_left 1
  · skip
    go_simp
    try simp only [beq_self_eq_true]
    refine gives_mk ?_ hS
    with_reducible rfl
  refine all_take (i := 38) (v := .bool true) rfl (by kernel_rfl) (by kernel_rfl) (by kernel_rfl) (fun _ _ _ h => h) (Tame.yes (by kernel_rfl) fun w hS => ?_) ?_
  · go_simp
    refine gives_call ((rints_eq _ _ ts ts true (by simp) _ ((HTV.out.ext HX4.out).ext hS) (HTV2.out.ext hS) (by have := HTL.out; omega)).mono ?_)
    exact fun r w2 ⟨he, hx⟩ => ⟨he, hS.trans hx⟩
  refine all_take (i := 39) (v := ?_) rfl (by kernel_rfl) (by kernel_rfl) (by kernel_rfl) (fun _ _ _ h => h) (Tame.yes (by kernel_rfl) fun w hS => ?_) ?_
  rotate_left 1
  · skip
    go_simp
    try simp only [beq_self_eq_true]
    refine gives_mk ?_ hS
    with_reducible rfl
  refine all_take (i := 40) (v := ?_) rfl (by kernel_rfl) (by kernel_rfl) (by kernel_rfl) (fun _ _ _ h => h) (Tame.yes (by kernel_rfl) fun w hS => ?_) ?_
  rotate_left 1
  · skip
    go_simp
    try simp only [beq_self_eq_true]
    refine gives_mk ?_ hS
    with_reducible rfl
  refine all_take (i := 41) (v := ?_) rfl (by kernel_rfl) (by kernel_rfl) (by kernel_rfl) (fun _ _ _ h => h) (Tame.yes (by kernel_rfl) fun w hS => ?_) ?_
  rotate_left 1
  · skip
    go_simp
    try simp only [beq_self_eq_true]
    refine gives_mk ?_ hS
    with_reducible rfl
  refine all_take (i := 42) (v := ?_) rfl (by kernel_rfl) (by kernel_rfl) (by kernel_rfl) (fun _ _ _ h => h) (Tame.yes (by kernel_rfl) fun w hS => ?_) ?_
  rotate_left 1
  · skip
    go_simp
    try simp only [beq_self_eq_true]
    refine gives_mk ?_ hS
    with_reducible rfl
  refine all_take (i := 43) (v := ?_) rfl (by kernel_rfl) (by kernel_rfl) (by kernel_rfl) (fun _ _ _ h => h) (Tame.yes (by kernel_rfl) fun w hS => ?_) ?_
  rotate_left 1
  · skip
    go_simp
    try simp only [beq_self_eq_true]
    refine gives_mk ?_ hS
    with_reducible rfl
  refine all_take (i := 44) (v := ?_) rfl (by kernel_rfl) (by kernel_rfl) (by kernel_rfl) (fun _ _ _ h => h) (Tame.yes (by kernel_rfl) fun w hS => ?_) ?_
  rotate_left 1
  · skip
    go_simp
    try simp only [beq_self_eq_true]
    refine gives_mk ?_ hS
    with_reducible rfl
  refine all_take (i := 45) (v := ?_) rfl (by kernel_rfl) (by kernel_rfl) (by kernel_rfl) (fun _ _ _ h => h) (Tame.yes (by kernel_rfl) fun w hS => ?_) ?_
  rotate_left 1
  · skip
    go_simp
    try simp only [beq_self_eq_true]
    refine gives_mk ?_ hS
    with_reducible rfl
  refine all_take (i := 46) (v := ?_) rfl (by kernel_rfl) (by kernel_rfl) (by kernel_rfl) (fun _ _ _ h => h) (Tame.yes (by kernel_rfl) fun w hS => ?_) ?_
  rotate_left 1
  · skip
    go_simp
    try simp only [beq_self_eq_true]
    refine gives_mk ?_ hS
    with_reducible rfl
  refine all_take (i := 47) (v := ?_) rfl (by kernel_rfl) (by kernel_rfl) (by kernel_rfl) (fun _ _ _ h => h) (Tame.yes (by kernel_rfl) fun w hS => ?_) ?_
  rotate_left 1
  · skip
    go_simp
    try simp only [beq_self_eq_true]
    refine gives_mk ?_ hS
    with_reducible rfl
  refine all_take (i := 48) (v := ?_) rfl (by kernel_rfl) (by kernel_rfl) (by kernel_rfl) (fun _ _ _ h => h) (Tame.yes (by kernel_rfl) fun w hS => ?_) ?_
  rotate_left 1
  · skip
    go_simp
    try simp only [beq_self_eq_true]
    refine gives_mk ?_ hS
    with_reducible rfl
  refine all_take (i := 49) (v := ?_) rfl (by kernel_rfl) (by kernel_rfl) (by kernel_rfl) (fun _ _ _ h => h) (Tame.yes (by kernel_rfl) fun w hS => ?_) ?_
  rotate_left 1
  · skip
    go_simp
    try simp only [beq_self_eq_true]
    refine gives_mk ?_ hS
    with_reducible rfl
  refine all_take (i := 50) (v := ?_) rfl (by kernel_rfl) (by kernel_rfl) (by kernel_rfl) (fun _ _ _ h => h) (Tame.yes (by kernel_rfl) fun w hS => ?_) ?_
  rotate_left 1
  · skip
    go_simp
    try simp only [beq_self_eq_true]
    refine gives_mk ?_ hS
    with_reducible rfl
  refine all_done ?_ ?_ _
  · kernel_rfl
  intro w5 hw5
  clear a0 a1 a2 a3 x0 x1 x2 x3 y0 y1 y2 y3
  go_simp
  go_wp2
  go_ret
  exact ⟨rfl, ((Ext.refl w).alloc _).trans (HC0.out.trans hw5)⟩
set_option maxRecDepth 100000 in
set_option maxHeartbeats 1000000 in
theorem btells_out (g st ba : Int) (bo s : ByteArray) (a : Int) (w : World) (hbo : bo.size ≤ maxLen) (hs : s.size ≤ maxLen) (ho : 3000 < bo.size ∨ (bo.size ≤ 3000 ∧ 5000 < s.size)) :
    Calls Try.prog 3 #[.agg #[.int .i64 g, .int .i64 st, .int .i64 ba, .string bo], .string s, .int .i64 a] w fun e w' => e = .returned (.bool true) ∧ Ext w w' := by
  unfold maxLen at hbo hs
  rcases ho with h1 | ⟨h1, h2⟩
  all_goals
    go_enter Try.func3, Try.ntmps3
    go_wp2_with fail
    refine (bfixed_yes _).mono ?_
    rintro r w2 ⟨rfl, hx2⟩
    go_wp2
    go_ret
    exact ⟨rfl, ((Ext.refl w).alloc _).trans hx2⟩
theorem walk_BatchTells (b : Bt) (s : ByteArray) (a : Int) (w : World) (hb : BtIn b) (hs : s.size ≤ maxLen) (_ : (Lit.int .i64 a).wf = true) :
    Calls Try.prog 3 #[b.val, .string s, .int .i64 a] w fun e w' => e = .returned (.bool true) ∧ Ext w w' := by
  obtain ⟨g, st, ba, bo⟩ := b
  by_cases ho : 3000 < bo.size ∨ (bo.size ≤ 3000 ∧ 5000 < s.size)
  · exact btells_out g st ba bo s a w hb.1 hs ho
  · exact btells_in g st ba bo s a w (by omega) (by omega)

end Go.Proofs.Ytlbhpgieehallaa
