/-
  The contract of buf.Put, where a buffer holds something already and the time is no earlier one.
-/
import Derived.Test.YtcdfpifhjjiioaaFb
import Derived.Test.YtcdfpifhjjiioaaRq
import Derived.Test.YtcdfpifhjjiioaaEi
set_option linter.unusedVariables false
set_option linter.unusedSimpArgs false
namespace Go.Proofs.Ytcdfpifhjjiioaa
open Go.RowKit

/-- What lies where, behind the place where the time is laid. -/
def PC (w : World) (cb ce : Array Value) (A : Option Addr) (c : Nat) (xs : List Int) (v : World) : Prop :=
  v.heap[w.heap.size]? = some (.cells cb 23 (0, 0)) ∧ v.heap[w.heap.size + 1]? = some (.cells ce 28 (0, 0)) ∧ v.heap[w.heap.size + 1 + 1]? = some ((.cells #[.int .i64 0, .int .i64 0, .int .i64 0, .string ⟨#[]⟩] 23)) ∧ IntsAt v (.slice A xs.length c) xs ∧ Ext w v
theorem PC.ext {w : World} {cb ce : Array Value} {A : Option Addr} {c : Nat} {xs : List Int} {v v' : World} (h : PC w cb ce A c xs v) (hx : Ext v v') : PC w cb ce A c xs v' :=
  ⟨hx.blk h.1, hx.blk h.2.1, hx.blk h.2.2.1, h.2.2.2.1.ext hx, h.2.2.2.2.trans hx⟩
def PC3 (w : World) (en : ByteArray) (cb ce : Array Value) (A : Option Addr) (c : Nat) (xs : List Int) (u : Value) (v : World) : Prop := u = .string en ∧ PC w cb ce A c xs v
def PC6 (w : World) (cb : Array Value) (_ : Value) (v : World) : Prop := v.heap[w.heap.size]? = some (.cells cb 23 (0, 0)) ∧ v.heap[w.heap.size + 1 + 1]? = some ((.cells #[.int .i64 0, .int .i64 0, .int .i64 0, .string ⟨#[]⟩] 23)) ∧ Ext w v
set_option maxRecDepth 100000 in
set_option maxHeartbeats 1000000 in
theorem bput_bad (m ba la : Int) (bo : ByteArray) (t : Int) (k d : Int) (xs : List Int) (tx : ByteArray) (A : Option Addr) (c : Nat) (w : World) (h0 : 0 ≤ t) (h1 : t < 4611686018427387904) (hb : ¬ bo.size = 0) (hl : la ≤ t)
    (hI : IntsAt w (.slice A xs.length c) xs) (hn : xs.length ≤ 9223372036854775807) (dt : Int) (hdt : IntKind.i64.wrap (t - la) = dt) (hm : Ev.may ⟨k, dt, xs, tx⟩ = false) :
    Calls Try.prog 10 #[.agg #[.int .i64 m, .int .i64 ba, .int .i64 la, .string bo], .int .i64 t, .agg #[.int .i64 k, .int .i64 d, .slice A xs.length c, .string tx]] w (BPut (Bu.zero, false) w) := by
  have hb1 := (Ev.str_nonempty hb).1
  have hb2 := (Ev.str_nonempty hb).2
  have HN := Lib.hid hn
  have HI := Lib.hid (hI.ext ((((Ext.refl w).alloc (.cells #[.int .i64 m, .int .i64 ba, .int .i64 la, .string bo] 23)).alloc (.cells #[.int .i64 k, .int .i64 dt, .slice A xs.length c, .string tx] 28)).alloc ((.cells #[.int .i64 0, .int .i64 0, .int .i64 0, .string ⟨#[]⟩] 23))))
  have HM := Lib.hid hm
  clear hm hI hn
  go_enter Try.func10, Try.ntmps10
  go_wp2_with fail
  refine (may_k k dt xs tx false HM.out A c _ HI.out HN.out).mono ?_
  rintro r w1 ⟨rfl, hx1⟩
  have hzb := hx1.blk (three_new w (.cells #[.int .i64 m, .int .i64 ba, .int .i64 la, .string bo] 23) (.cells #[.int .i64 k, .int .i64 dt, .slice A xs.length c, .string tx] 28) ((.cells #[.int .i64 0, .int .i64 0, .int .i64 0, .string ⟨#[]⟩] 23))).2.2
  have HX1 := Lib.hid hx1
  clear hx1
  have z0 := blk_cell hzb 0 (.int .i64 0) rfl
  have z1 := blk_cell hzb 1 (.int .i64 0) rfl
  have z2 := blk_cell hzb 2 (.int .i64 0) rfl
  have z3 := blk_cell hzb 3 (.string ⟨#[]⟩) rfl
  have y0 := frozen_of_row _ _ 0 _ _ hzb
  have y1 := frozen_of_row _ _ 1 _ _ hzb
  have y2 := frozen_of_row _ _ 2 _ _ hzb
  have y3 := frozen_of_row _ _ 3 _ _ hzb
  have HZB := Lib.hid hzb
  clear hzb
  go_wp2
  clear z0 z1 z2 z3 y0 y1 y2 y3
  have hzz := uzero4 HZB.out
  have t0 := blk_cell hzz 0 (.int .i64 0) rfl
  have t1 := blk_cell hzz 1 (.int .i64 0) rfl
  have t2 := blk_cell hzz 2 (.int .i64 0) rfl
  have t3 := blk_cell hzz 3 (.string ⟨#[]⟩) rfl
  refine bodyPost_ret (v := .tuple #[(.agg #[.int .i64 0, .int .i64 0, .int .i64 0, .string ⟨#[]⟩]), .bool false]) (by simp [results, Try.results10, go_sem, t0, t1, t2, t3]) rfl ⟨rfl, ?_⟩
  have hg : w.heap.size ≤ w.heap.size + 1 + 1 := by omega
  exact ((((((((Ext.refl w).alloc _).alloc _).alloc _).trans HX1.out).setCell hg _).setCell hg _).setCell hg _).setCell hg _
theorem enc_T (w : World) (k dt : Int) (xs : List Int) (tx en : ByteArray) (hen : Ev.enc ⟨k, dt, xs, tx⟩ = en) (cb ce : Array Value) (A : Option Addr) (c : Nat) (v : World) (h : PC w cb ce A c xs v) (hn : xs.length ≤ 9223372036854775807) (ht : tx.size ≤ 140737488351232) :
    Calls Try.prog 19 #[.agg #[.int .i64 k, .int .i64 dt, .slice A xs.length c, .string tx]] v fun e w' => ∃ x, e = .returned x ∧ PC3 w en cb ce A c xs x w' :=
  (encode_k k dt xs tx en hen A c v h.2.2.2.1 hn ht).mono fun _ _ ⟨he, hx⟩ => ⟨_, he, rfl, h.ext hx⟩
set_option maxRecDepth 100000 in
set_option maxHeartbeats 1000000 in
theorem bput_ok (m ba la : Int) (bo : ByteArray) (t : Int) (k d : Int) (xs : List Int) (tx : ByteArray) (A : Option Addr) (c : Nat) (w : World) (h0 : 0 ≤ t) (h1 : t < 4611686018427387904) (hb : ¬ bo.size = 0) (hbz : bo.size ≤ 1000000) (hl : la ≤ t)
    (hI : IntsAt w (.slice A xs.length c) xs) (hn : xs.length ≤ 9223372036854775807) (htx : tx.size ≤ 140737488351232) (dt : Int) (hdt : IntKind.i64.wrap (t - la) = dt) (hm : Ev.may ⟨k, dt, xs, tx⟩ = true) (en bq : ByteArray) (hen : Ev.enc ⟨k, dt, xs, tx⟩ = en) (henz : en.size ≤ 140737488351300) (hbq : bo ++ en = bq) :
    Calls Try.prog 10 #[.agg #[.int .i64 m, .int .i64 ba, .int .i64 la, .string bo], .int .i64 t, .agg #[.int .i64 k, .int .i64 d, .slice A xs.length c, .string tx]] w (BPut (⟨m, ba, t, bq⟩, true) w) := by
  have hb1 := (Ev.str_nonempty hb).1
  have hb2 := (Ev.str_nonempty hb).2
  have HN := Lib.hid hn
  have HTX := Lib.hid htx
  have HI := Lib.hid (hI.ext ((((Ext.refl w).alloc (.cells #[.int .i64 m, .int .i64 ba, .int .i64 la, .string bo] 23)).alloc (.cells #[.int .i64 k, .int .i64 dt, .slice A xs.length c, .string tx] 28)).alloc ((.cells #[.int .i64 0, .int .i64 0, .int .i64 0, .string ⟨#[]⟩] 23))))
  have HM := Lib.hid hm
  have HEN := Lib.hid hen
  have HBQ := Lib.hid hbq
  have HLT : Hid (∀ b o, 0 < xs.length → A = some ⟨b, o, none⟩ → b < w.heap.size) := Lib.hid fun b o hz hA => by
    obtain ⟨A', c', hv, hh⟩ := hI
    simp only [Value.slice.injEq, true_and] at hv
    obtain ⟨rfl, rfl⟩ := hv
    obtain ⟨b', o', hb', hlt, _⟩ := hh hz
    rw [hA] at hb'
    simp only [Option.some.injEq, Addr.mk.injEq, and_true] at hb'
    omega
  have HEZ := Lib.hid henz
  clear hm hI hn htx hen hbq henz
  go_enter Try.func10, Try.ntmps10
  go_wp2_with fail
  refine (may_k k dt xs tx true HM.out A c _ HI.out HN.out).mono ?_
  rintro r w1 ⟨rfl, hx1⟩
  have HB1 := Lib.hid (hx1.blk (three_new w (.cells #[.int .i64 m, .int .i64 ba, .int .i64 la, .string bo] 23) (.cells #[.int .i64 k, .int .i64 dt, .slice A xs.length c, .string tx] 28) ((.cells #[.int .i64 0, .int .i64 0, .int .i64 0, .string ⟨#[]⟩] 23))).1)
  have HPC : Hid (PC w #[.int .i64 m, .int .i64 ba, .int .i64 t, .string bo] #[.int .i64 k, .int .i64 dt, .slice A xs.length c, .string tx] A c xs (w1.setCell ⟨w.heap.size, 2, none⟩ (.int .i64 t)).drew) := Lib.hid (by
    have hx : Ext w w1 := ((((Ext.refl w).alloc _).alloc _).alloc _).trans hx1
    refine ⟨blk_set (hx1.blk (three_new w (.cells #[.int .i64 m, .int .i64 ba, .int .i64 la, .string bo] 23) (.cells #[.int .i64 k, .int .i64 dt, .slice A xs.length c, .string tx] 28) ((.cells #[.int .i64 0, .int .i64 0, .int .i64 0, .string ⟨#[]⟩] 23))).1) 2 _, blk_set_other (hx1.blk (three_new w (.cells #[.int .i64 m, .int .i64 ba, .int .i64 la, .string bo] 23) (.cells #[.int .i64 k, .int .i64 dt, .slice A xs.length c, .string tx] 28) ((.cells #[.int .i64 0, .int .i64 0, .int .i64 0, .string ⟨#[]⟩] 23))).2.1) _ (by simp) _, blk_set_other (hx1.blk (three_new w (.cells #[.int .i64 m, .int .i64 ba, .int .i64 la, .string bo] 23) (.cells #[.int .i64 k, .int .i64 dt, .slice A xs.length c, .string tx] 28) ((.cells #[.int .i64 0, .int .i64 0, .int .i64 0, .string ⟨#[]⟩] 23))).2.2) _ (by simp; omega) _, ?_, ?_⟩
    · refine ints_set (HI.out.ext hx1) (fun A' c' b o hv hz hA => ?_) 2 _
      simp only [Value.slice.injEq, true_and] at hv
      have := HLT.out b o hz (hv.1.trans hA)
      omega
    · exact (hx.setCell (Nat.le_refl _) _).drew)
  clear hx1
  have c2 := blk_cell HB1.out 2 (.int .i64 la) rfl
  have f2 := frozen_of_row _ _ 2 _ _ HB1.out
  go_wp2
  clear c2 f2
  generalize hq : (w1.setCell ⟨w.heap.size, 2, none⟩ (.int .i64 t)).drew = w5 at *
  refine region_g 6 (PC w #[.int .i64 m, .int .i64 ba, .int .i64 t, .string bo] #[.int .i64 k, .int .i64 dt, .slice A xs.length c, .string tx] A c xs) (fun v => v = w5) (by kernel_rfl) hq ?_
  clear hq
  have HG : ∀ (l : Array Bool) v, v = w5 → l.getD 6 false = false → PC w #[.int .i64 m, .int .i64 ba, .int .i64 t, .string bo] #[.int .i64 k, .int .i64 dt, .slice A xs.length c, .string tx] A c xs v := fun _ v h _ => h ▸ HPC.out
  have K0 : ∀ v, PC w #[.int .i64 m, .int .i64 ba, .int .i64 t, .string bo] #[.int .i64 k, .int .i64 dt, .slice A xs.length c, .string tx] A c xs v → v.cell? ⟨w.heap.size, 3, none⟩ = some (.string bo) := fun v hv => blk_cell hv.1 3 _ rfl
  have K1 : ∀ v, PC w #[.int .i64 m, .int .i64 ba, .int .i64 t, .string bo] #[.int .i64 k, .int .i64 dt, .slice A xs.length c, .string tx] A c xs v → v.cell? ⟨w.heap.size + 1, 0, none⟩ = some (.int .i64 k) := fun v hv => blk_cell hv.2.1 0 _ rfl
  have K2 : ∀ v, PC w #[.int .i64 m, .int .i64 ba, .int .i64 t, .string bo] #[.int .i64 k, .int .i64 dt, .slice A xs.length c, .string tx] A c xs v → v.cell? ⟨w.heap.size + 1, 1, none⟩ = some (.int .i64 dt) := fun v hv => blk_cell hv.2.1 1 _ rfl
  have K3 : ∀ v, PC w #[.int .i64 m, .int .i64 ba, .int .i64 t, .string bo] #[.int .i64 k, .int .i64 dt, .slice A xs.length c, .string tx] A c xs v → v.cell? ⟨w.heap.size + 1, 2, none⟩ = some (.slice A xs.length c) := fun v hv => blk_cell hv.2.1 2 _ rfl
  have K4 : ∀ v, PC w #[.int .i64 m, .int .i64 ba, .int .i64 t, .string bo] #[.int .i64 k, .int .i64 dt, .slice A xs.length c, .string tx] A c xs v → v.cell? ⟨w.heap.size + 1, 3, none⟩ = some (.string tx) := fun v hv => blk_cell hv.2.1 3 _ rfl
  have h99 : (9223372036854775807 < bo.size + en.size) = False := by have := HEZ.out; simp; omega
  have hbq := HBQ.out
  refine g_take (HG _) (i := 0) (v := ?_) rfl (by kernel_rfl) (by kernel_rfl) (by kernel_rfl) (by kernel_rfl) (by kernel_rfl) (fun _ _ _ h => h) (Still.yes (by kernel_rfl) fun w hS => ?_) ?_
  rotate_left 1
  · skip
    go_simp
    refine gives_mk ?_ rfl
    with_reducible rfl
  refine g_take (HG _) (i := 1) (v := ?_) rfl (by kernel_rfl) (by kernel_rfl) (by kernel_rfl) (by kernel_rfl) (by kernel_rfl) (fun _ _ _ h => h) (Still.yes (by kernel_rfl) fun w hS => ?_) ?_
  rotate_left 1
  · skip
    go_simp
    refine gives_mk ?_ rfl
    with_reducible rfl
  refine g_take (HG _) (i := 2) (v := ?_) rfl (by kernel_rfl) (by kernel_rfl) (by kernel_rfl) (by kernel_rfl) (by kernel_rfl) (fun _ _ _ h => h) (Still.yes (by kernel_rfl) fun w hS => ?_) ?_
  rotate_left 1
  · skip
    go_simp
    refine gives_mk ?_ rfl
    with_reducible rfl
  refine g_turn (PC3 w en #[.int .i64 m, .int .i64 ba, .int .i64 t, .string bo] #[.int .i64 k, .int .i64 dt, .slice A xs.length c, .string tx] A c xs) (k := 3) (by kernel_rfl) (fun _ _ h _ => h.2) (fun v hv => ?_)
  refine at_call (S := fun _ => True) rfl (by kernel_rfl) (by go_simp; (try exact ⟨rfl, rfl⟩)) (enc_T w k dt xs tx en HEN.out _ _ A c v (hv ▸ HPC.out) HN.out HTX.out) ?_
  rintro u ⟨_, rfl, _⟩
  replace HG : ∀ (l : Array Bool) v, PC3 w en #[.int .i64 m, .int .i64 ba, .int .i64 t, .string bo] #[.int .i64 k, .int .i64 dt, .slice A xs.length c, .string tx] A c xs (.string en) v → l.getD 6 false = false → PC w #[.int .i64 m, .int .i64 ba, .int .i64 t, .string bo] #[.int .i64 k, .int .i64 dt, .slice A xs.length c, .string tx] A c xs v := fun _ _ h _ => h.2
  refine g_free (HG _) (i := 4) (v := ?_) rfl (by kernel_rfl) (by kernel_rfl) (by kernel_rfl) (by kernel_rfl) (fun _ _ _ h => h) (Still.yes (by kernel_rfl) fun w hS => ?_) ?_
  rotate_left 1
  · skip
    go_simp
    try simp only [h99, if_false, hbq]
    refine gives_mk ?_ rfl
    with_reducible rfl
  refine g_free (HG _) (i := 5) (v := ?_) rfl (by kernel_rfl) (by kernel_rfl) (by kernel_rfl) (by kernel_rfl) (fun _ _ _ h => h) (Still.yes (by kernel_rfl) fun w hS => ?_) ?_
  rotate_left 1
  · skip
    go_simp
    refine gives_mk ?_ rfl
    with_reducible rfl
  refine g_turn (PC6 w #[.int .i64 m, .int .i64 ba, .int .i64 t, .string bq]) (k := 6) (by kernel_rfl) (fun _ _ _ hz => absurd hz (by decide +kernel)) (fun v hv => ?_)
  refine at_skip rfl (by kernel_rfl) ?_ ?_
  · have HV := Lib.hid hv.2
    have z3 := blk_cell HV.out.1 3 (.string bo) rfl
    have y3 := frozen_of_row _ _ 3 _ _ HV.out.1
    clear hv K0 K1 K2 K3 K4 h99 hbq HG
    go_simp
    first | exact ⟨blk_set HV.out.1 3 (.string bq), blk_set_other HV.out.2.2.1 _ (by simp; omega) _, HV.out.2.2.2.2.setCell (Nat.le_refl _) _⟩ | exact ⟨_, rfl, blk_set HV.out.1 3 (.string bq), blk_set_other HV.out.2.2.1 _ (by simp; omega) _, HV.out.2.2.2.2.setCell (Nat.le_refl _) _⟩
  refine g_done (by kernel_rfl) ?_ _
  intro w6 hw6
  have HW6 := Lib.hid hw6
  clear K0 K1 K2 K3 K4 h99 hbq HG hw6
  have a0 := blk_cell HW6.out.1 0 (.int .i64 m) rfl
  have a1 := blk_cell HW6.out.1 1 (.int .i64 ba) rfl
  have a2 := blk_cell HW6.out.1 2 (.int .i64 t) rfl
  have a3 := blk_cell HW6.out.1 3 (.string bq) rfl
  have hzb := HW6.out.2.1
  have z0 := blk_cell hzb 0 (.int .i64 0) rfl
  have z1 := blk_cell hzb 1 (.int .i64 0) rfl
  have z2 := blk_cell hzb 2 (.int .i64 0) rfl
  have z3 := blk_cell hzb 3 (.string ⟨#[]⟩) rfl
  have y0 := frozen_of_row _ _ 0 _ _ hzb
  have y1 := frozen_of_row _ _ 1 _ _ hzb
  have y2 := frozen_of_row _ _ 2 _ _ hzb
  have y3 := frozen_of_row _ _ 3 _ _ hzb
  have HZB := Lib.hid hzb
  clear hzb
  go_simp
  go_wp2
  have hzz := blk_set (blk_set (blk_set (blk_set HZB.out 0 (.int .i64 m)) 1 (.int .i64 ba)) 2 (.int .i64 t)) 3 (.string bq)
  clear z0 z1 z2 z3 y0 y1 y2 y3 a0 a1 a2 a3
  have t0 := blk_cell hzz 0 (.int .i64 m) rfl
  have t1 := blk_cell hzz 1 (.int .i64 ba) rfl
  have t2 := blk_cell hzz 2 (.int .i64 t) rfl
  have t3 := blk_cell hzz 3 (.string bq) rfl
  refine bodyPost_ret (v := .tuple #[.agg #[.int .i64 m, .int .i64 ba, .int .i64 t, .string bq], .bool true]) (by simp [results, Try.results10, go_sem, t0, t1, t2, t3]) rfl ⟨rfl, ?_⟩
  have hg : w.heap.size ≤ w.heap.size + 1 + 1 := by omega
  exact (((HW6.out.2.2.setCell hg _).setCell hg _).setCell hg _).setCell hg _

end Go.Proofs.Ytcdfpifhjjiioaa
