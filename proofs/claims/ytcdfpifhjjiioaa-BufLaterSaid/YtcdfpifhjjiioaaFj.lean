/-
  The walk of the statement BufLater.
-/
import Derived.Test.YtcdfpifhjjiioaaFjp
set_option linter.unusedVariables false
set_option linter.unusedSimpArgs false
namespace Go.Proofs.Ytcdfpifhjjiioaa
open Go.RowKit

set_option maxRecDepth 100000 in
set_option maxHeartbeats 1000000 in
theorem ulater_out (m ba la : Int) (bo : ByteArray) (t : Int) (w : World) (hbo : bo.size ≤ maxLen) (h : 3000 < bo.size ∨ (bo.size ≤ 3000 ∧ (t < 0 ∨ (0 ≤ t ∧ (4611686018427387904 ≤ t ∨ (t < 4611686018427387904 ∧ la < 0)))))) :
    Calls Try.prog 5 #[.agg #[.int .i64 m, .int .i64 ba, .int .i64 la, .string bo], .int .i64 t] w fun e w' => e = .returned (.bool true) ∧ Ext w w' := by
  unfold maxLen at hbo
  rcases h with h | ⟨h1, h | ⟨h0, h | ⟨h2, h⟩⟩⟩
  all_goals
    have HA : Hid (∀ v, Ext (w.alloc (.cells #[.int .i64 m, .int .i64 ba, .int .i64 la, .string bo] 23)) v → C4' w.heap.size m ba la bo v) := Lib.hid fun v hv => C4'.of (blk_new w _) hv
    go_enter Try.func5, Try.ntmps5
    go_wp2_with fail
    refine (ufixed_yes _).mono ?_
    rintro r w1 ⟨rfl, hx1⟩
    have HX1 := Lib.hid hx1
    clear hx1
    obtain ⟨a0, a1, a2, a3⟩ := HA.out _ HX1.out
    go_wp2_with fail
    refine (ufixed_yes _).mono ?_
    rintro r w2 ⟨rfl, hx2⟩
    go_wp2
    go_ret
    exact ⟨rfl, ((Ext.refl w).alloc _).trans (HX1.out.trans hx2)⟩
set_option maxRecDepth 100000 in
set_option maxHeartbeats 1000000 in
theorem ulater_early (m ba la : Int) (bo : ByteArray) (t : Int) (w : World) (h1 : bo.size ≤ 3000) (h0 : 0 ≤ t) (h2 : t < 4611686018427387904) (hl : 0 ≤ la) (hb : ¬ bo.size = 0) (hlt : t < la) :
    Calls Try.prog 5 #[.agg #[.int .i64 m, .int .i64 ba, .int .i64 la, .string bo], .int .i64 t] w fun e w' => e = .returned (.bool true) ∧ Ext w w' := by
  have HP := Lib.hid (Bu.put_early (b := ⟨m, ba, la, bo⟩) (t := t) (e := ⟨8, 7, [], ⟨#[]⟩⟩) hb hlt)
  have hb1 := (Ev.str_nonempty hb).1
  have hb2 := (Ev.str_nonempty hb).2
  clear hb
  have HA : Hid (∀ v, Ext (w.alloc (.cells #[.int .i64 m, .int .i64 ba, .int .i64 la, .string bo] 23)) v → C4' w.heap.size m ba la bo v) := Lib.hid fun v hv => C4'.of (blk_new w _) hv
  go_enter Try.func5, Try.ntmps5
  go_wp2_with fail
  refine (ufixed_yes _).mono ?_
  rintro r w1 ⟨rfl, hx1⟩
  have HX1 := Lib.hid hx1
  clear hx1
  obtain ⟨a0, a1, a2, a3⟩ := HA.out _ HX1.out
  go_wp2_with fail
  refine (bput_k m ba la bo t 8 7 [] _ _ _ _ _ _ HP.out none 0 _ (by omega) (ints_no _) (by simp) (by decide)).mono ?_
  rintro r w2 ⟨rfl, hx2⟩
  have HX2 := Lib.hid ((HX1.out.trans hx2).alloc (.cells #[.int .i64 0, .int .i64 0, .int .i64 0, .string ⟨#[]⟩] 23))
  clear a0 a1 a2 a3 hx2
  obtain ⟨a0, a1, a2, a3⟩ := HA.out _ HX2.out
  go_wp2
  go_ret
  exact ⟨rfl, ((Ext.refl w).alloc _).trans HX2.out⟩
set_option maxRecDepth 100000 in
set_option maxHeartbeats 1000000 in
theorem ulater_more (m ba la : Int) (bo bq : ByteArray) (t : Int) (w : World) (h1 : bo.size ≤ 3000) (h0 : 0 ≤ t) (h2 : t < 4611686018427387904) (hl : 0 ≤ la) (hb : ¬ bo.size = 0) (hlt : la ≤ t) (bx : Int) (hbx : bx = ba)
    (hp : Bu.put ⟨m, ba, la, bo⟩ t ⟨8, 7, [], ⟨#[]⟩⟩ = (⟨m, bx, t, bq⟩, true)) (hs : bo.size < bq.size) (hz : bq.size ≤ 100000) (hc : bq.extract 0 bo.size = bo) :
    Calls Try.prog 5 #[.agg #[.int .i64 m, .int .i64 ba, .int .i64 la, .string bo], .int .i64 t] w fun e w' => e = .returned (.bool true) ∧ Ext w w' := by
  have HP := Lib.hid hp
  have HC := Lib.hid hc
  have HBX := Lib.hid hbx
  have hb1 := (Ev.str_nonempty hb).1
  have hb2 := (Ev.str_nonempty hb).2
  clear hb hp hc hbx
  have HA : Hid (∀ v, Ext (w.alloc (.cells #[.int .i64 m, .int .i64 ba, .int .i64 la, .string bo] 23)) v → C4' w.heap.size m ba la bo v) := Lib.hid fun v hv => C4'.of (blk_new w _) hv
  go_enter Try.func5, Try.ntmps5
  go_wp2_with fail
  refine (ufixed_yes _).mono ?_
  rintro r w1 ⟨rfl, hx1⟩
  have HX1 := Lib.hid hx1
  clear hx1
  obtain ⟨a0, a1, a2, a3⟩ := HA.out _ HX1.out
  go_wp2_with fail
  refine (bput_k m ba la bo t 8 7 [] _ _ _ _ _ _ HP.out none 0 _ (by omega) (ints_no _) (by simp) (by decide)).mono ?_
  rintro r w2 ⟨rfl, hx2⟩
  have HX2 := Lib.hid ((HX1.out.trans hx2).alloc (.cells #[.int .i64 m, .int .i64 bx, .int .i64 t, .string bq] 23))
  clear a0 a1 a2 a3 hx2
  obtain ⟨a0, a1, a2, a3⟩ := HA.out _ HX2.out
  go_wp2
  refine region_all (fun v => Ext (w2.alloc (.cells #[.int .i64 m, .int .i64 bx, .int .i64 t, .string bq] 23)) v) (by kernel_rfl) (Ext.refl _).drew ?_
  have A0 := fun v (hv : Ext (w2.alloc (.cells #[.int .i64 m, .int .i64 bx, .int .i64 t, .string bq] 23)) v) => (HA.out v (HX2.out.trans hv)).1
  have A1 := fun v (hv : Ext (w2.alloc (.cells #[.int .i64 m, .int .i64 bx, .int .i64 t, .string bq] 23)) v) => (HA.out v (HX2.out.trans hv)).2.1
  have A3 := fun v (hv : Ext (w2.alloc (.cells #[.int .i64 m, .int .i64 bx, .int .i64 t, .string bq] 23)) v) => (HA.out v (HX2.out.trans hv)).2.2.2
  have L0 := fun v (hv : Ext (w2.alloc (.cells #[.int .i64 m, .int .i64 bx, .int .i64 t, .string bq] 23)) v) => Ext.box hv 0 (.int .i64 m) rfl
  have L1 := fun v (hv : Ext (w2.alloc (.cells #[.int .i64 m, .int .i64 bx, .int .i64 t, .string bq] 23)) v) => Ext.box hv 1 (.int .i64 bx) rfl
  have L2 := fun v (hv : Ext (w2.alloc (.cells #[.int .i64 m, .int .i64 bx, .int .i64 t, .string bq] 23)) v) => Ext.box hv 2 (.int .i64 t) rfl
  have L3 := fun v (hv : Ext (w2.alloc (.cells #[.int .i64 m, .int .i64 bx, .int .i64 t, .string bq] 23)) v) => Ext.box hv 3 (.string bq) rfl
  clear a0 a1 a2 a3
  have hc := HC.out
  have hle : bo.size ≤ bq.size := by omega
  have hbx : (bx == ba) = true := by simpa using HBX.out
  refine all_take (i := 0) (v := ?_) rfl (by kernel_rfl) (by kernel_rfl) (by kernel_rfl) (fun _ _ _ h => h) (Tame.yes (by kernel_rfl) fun w hS => ?_) ?_
  rotate_left 1
  · skip
    go_simp
    try simp only [hc]
    refine gives_mk ?_ hS
    with_reducible rfl
  refine all_take (i := 1) (v := ?_) rfl (by kernel_rfl) (by kernel_rfl) (by kernel_rfl) (fun _ _ _ h => h) (Tame.yes (by kernel_rfl) fun w hS => ?_) ?_
  rotate_left 1
  · skip
    go_simp
    try simp only [hc]
    refine gives_mk ?_ hS
    with_reducible rfl
  refine all_take (i := 2) (v := ?_) rfl (by kernel_rfl) (by kernel_rfl) (by kernel_rfl) (fun _ _ _ h => h) (Tame.yes (by kernel_rfl) fun w hS => ?_) ?_
  rotate_left 1
  · skip
    go_simp
    try simp only [hc]
    refine gives_mk ?_ hS
    with_reducible rfl
  refine all_take (i := 3) (v := ?_) rfl (by kernel_rfl) (by kernel_rfl) (by kernel_rfl) (fun _ _ _ h => h) (Tame.yes (by kernel_rfl) fun w hS => ?_) ?_
  rotate_left 1
  · skip
    go_simp
    try simp only [hc]
    refine gives_mk ?_ hS
    with_reducible rfl
  refine all_take (i := 4) (v := ?_) rfl (by kernel_rfl) (by kernel_rfl) (by kernel_rfl) (fun _ _ _ h => h) (Tame.yes (by kernel_rfl) fun w hS => ?_) ?_
  rotate_left 1
  · skip
    go_simp
    try simp only [hc]
    refine gives_mk ?_ hS
    with_reducible rfl
  refine all_take (i := 5) (v := ?_) rfl (by kernel_rfl) (by kernel_rfl) (by kernel_rfl) (fun _ _ _ h => h) (Tame.yes (by kernel_rfl) fun w hS => ?_) ?_
  rotate_left 1
  · skip
    go_simp
    try simp only [hc]
    refine gives_mk ?_ hS
    with_reducible rfl
  refine all_take (i := 6) (v := ?_) rfl (by kernel_rfl) (by kernel_rfl) (by kernel_rfl) (fun _ _ _ h => h) (Tame.yes (by kernel_rfl) fun w hS => ?_) ?_
  rotate_left 1
  · skip
    go_simp
    try simp only [hc]
    refine gives_mk ?_ hS
    with_reducible rfl
  refine all_take (i := 7) (v := ?_) rfl (by kernel_rfl) (by kernel_rfl) (by kernel_rfl) (fun _ _ _ h => h) (Tame.yes (by kernel_rfl) fun w hS => ?_) ?_
  rotate_left 1
  · skip
    go_simp
    try simp only [hc]
    refine gives_mk ?_ hS
    with_reducible rfl
  refine all_take (i := 8) (v := ?_) rfl (by kernel_rfl) (by kernel_rfl) (by kernel_rfl) (fun _ _ _ h => h) (Tame.yes (by kernel_rfl) fun w hS => ?_) ?_
  rotate_left 1
  · skip
    go_simp
    try simp only [hc]
    refine gives_mk ?_ hS
    with_reducible rfl
  refine all_take (i := 9) (v := ?_) rfl (by kernel_rfl) (by kernel_rfl) (by kernel_rfl) (fun _ _ _ h => h) (Tame.yes (by kernel_rfl) fun w hS => ?_) ?_
  rotate_left 1
  · skip
    go_simp
    try simp only [hc]
    refine gives_mk ?_ hS
    with_reducible rfl
  refine all_take (i := 10) (v := ?_) rfl (by kernel_rfl) (by kernel_rfl) (by kernel_rfl) (fun _ _ _ h => h) (Tame.yes (by kernel_rfl) fun w hS => ?_) ?_
  rotate_left 1
  · skip
    go_simp
    try simp only [hc]
    refine gives_mk ?_ hS
    with_reducible rfl
  refine all_take (i := 11) (v := ?_) rfl (by kernel_rfl) (by kernel_rfl) (by kernel_rfl) (fun _ _ _ h => h) (Tame.yes (by kernel_rfl) fun w hS => ?_) ?_
  rotate_left 1
  · skip
    go_simp
    try simp only [hc]
    refine gives_mk ?_ hS
    with_reducible rfl
  refine all_take (i := 12) (v := ?_) rfl (by kernel_rfl) (by kernel_rfl) (by kernel_rfl) (fun _ _ _ h => h) (Tame.yes (by kernel_rfl) fun w hS => ?_) ?_
  rotate_left 1
  · skip
    go_simp
    try simp only [hc]
    refine gives_mk ?_ hS
    with_reducible rfl
  refine all_take (i := 13) (v := ?_) rfl (by kernel_rfl) (by kernel_rfl) (by kernel_rfl) (fun _ _ _ h => h) (Tame.yes (by kernel_rfl) fun w hS => ?_) ?_
  rotate_left 1
  · skip
    go_simp
    try simp only [hc]
    refine gives_mk ?_ hS
    with_reducible rfl
  refine all_take (i := 14) (v := ?_) rfl (by kernel_rfl) (by kernel_rfl) (by kernel_rfl) (fun _ _ _ h => h) (Tame.yes (by kernel_rfl) fun w hS => ?_) ?_
  rotate_left 1
  · skip
    go_simp
    try simp only [hc]
    refine gives_mk ?_ hS
    with_reducible rfl
  refine all_take (i := 15) (v := ?_) rfl (by kernel_rfl) (by kernel_rfl) (by kernel_rfl) (fun _ _ _ h => h) (Tame.yes (by kernel_rfl) fun w hS => ?_) ?_
  rotate_left 1
  · skip
    go_simp
    try simp only [hc]
    refine gives_mk ?_ hS
    with_reducible rfl
  refine all_take (i := 16) (v := ?_) rfl (by kernel_rfl) (by kernel_rfl) (by kernel_rfl) (fun _ _ _ h => h) (Tame.yes (by kernel_rfl) fun w hS => ?_) ?_
  rotate_left 1
  · skip
    go_simp
    try simp only [hc]
    refine gives_mk ?_ hS
    with_reducible rfl
  refine all_take (i := 17) (v := ?_) rfl (by kernel_rfl) (by kernel_rfl) (by kernel_rfl) (fun _ _ _ h => h) (Tame.yes (by kernel_rfl) fun w hS => ?_) ?_
  rotate_left 1
  · skip
    go_simp
    try simp only [hc]
    refine gives_mk ?_ hS
    with_reducible rfl
  refine all_take (i := 18) (v := ?_) rfl (by kernel_rfl) (by kernel_rfl) (by kernel_rfl) (fun _ _ _ h => h) (Tame.yes (by kernel_rfl) fun w hS => ?_) ?_
  rotate_left 1
  · skip
    go_simp
    try simp only [hc]
    refine gives_mk ?_ hS
    with_reducible rfl
  refine all_take (i := 19) (v := ?_) rfl (by kernel_rfl) (by kernel_rfl) (by kernel_rfl) (fun _ _ _ h => h) (Tame.yes (by kernel_rfl) fun w hS => ?_) ?_
  rotate_left 1
  · skip
    go_simp
    try simp only [hc]
    refine gives_mk ?_ hS
    with_reducible rfl
  refine all_take (i := 20) (v := ?_) rfl (by kernel_rfl) (by kernel_rfl) (by kernel_rfl) (fun _ _ _ h => h) (Tame.yes (by kernel_rfl) fun w hS => ?_) ?_
  rotate_left 1
  · skip
    go_simp
    try simp only [hc]
    refine gives_mk ?_ hS
    with_reducible rfl
  refine all_take (i := 21) (v := ?_) rfl (by kernel_rfl) (by kernel_rfl) (by kernel_rfl) (fun _ _ _ h => h) (Tame.yes (by kernel_rfl) fun w hS => ?_) ?_
  rotate_left 1
  · skip
    go_simp
    try simp only [hc]
    refine gives_mk ?_ hS
    with_reducible rfl
  refine all_take (i := 22) (v := ?_) rfl (by kernel_rfl) (by kernel_rfl) (by kernel_rfl) (fun _ _ _ h => h) (Tame.yes (by kernel_rfl) fun w hS => ?_) ?_
  rotate_left 1
  · skip
    go_simp
    try simp only [hc]
    refine gives_mk ?_ hS
    with_reducible rfl
  refine all_take (i := 23) (v := ?_) rfl (by kernel_rfl) (by kernel_rfl) (by kernel_rfl) (fun _ _ _ h => h) (Tame.yes (by kernel_rfl) fun w hS => ?_) ?_
  rotate_left 1
  · skip
    go_simp
    try simp only [hc]
    refine gives_mk ?_ hS
    with_reducible rfl
  refine all_take (i := 24) (v := ?_) rfl (by kernel_rfl) (by kernel_rfl) (by kernel_rfl) (fun _ _ _ h => h) (Tame.yes (by kernel_rfl) fun w hS => ?_) ?_
  rotate_left 1
  · skip
    go_simp
    try simp only [hc]
    refine gives_mk ?_ hS
    with_reducible rfl
  refine all_take (i := 25) (v := ?_) rfl (by kernel_rfl) (by kernel_rfl) (by kernel_rfl) (fun _ _ _ h => h) (Tame.yes (by kernel_rfl) fun w hS => ?_) ?_
  rotate_left 1
  · skip
    go_simp
    try simp only [hc]
    refine gives_mk ?_ hS
    with_reducible rfl
  refine all_take (i := 26) (v := ?_) rfl (by kernel_rfl) (by kernel_rfl) (by kernel_rfl) (fun _ _ _ h => h) (Tame.yes (by kernel_rfl) fun w hS => ?_) ?_
  rotate_left 1
  · skip
    go_simp
    try simp only [hc]
    refine gives_mk ?_ hS
    with_reducible rfl
  refine all_take (i := 27) (v := ?_) rfl (by kernel_rfl) (by kernel_rfl) (by kernel_rfl) (fun _ _ _ h => h) (Tame.yes (by kernel_rfl) fun w hS => ?_) ?_
  rotate_left 1
  · skip
    go_simp
    try simp only [hc]
    refine gives_mk ?_ hS
    with_reducible rfl
  refine all_take (i := 28) (v := ?_) rfl (by kernel_rfl) (by kernel_rfl) (by kernel_rfl) (fun _ _ _ h => h) (Tame.yes (by kernel_rfl) fun w hS => ?_) ?_
  rotate_left 1
  · skip
    go_simp
    try simp only [hc]
    refine gives_mk ?_ hS
    with_reducible rfl
  refine all_take (i := 29) (v := ?_) rfl (by kernel_rfl) (by kernel_rfl) (by kernel_rfl) (fun _ _ _ h => h) (Tame.yes (by kernel_rfl) fun w hS => ?_) ?_
  rotate_left 1
  · skip
    go_simp
    try simp only [hc]
    refine gives_mk ?_ hS
    with_reducible rfl
  refine all_take (i := 30) (v := ?_) rfl (by kernel_rfl) (by kernel_rfl) (by kernel_rfl) (fun _ _ _ h => h) (Tame.yes (by kernel_rfl) fun w hS => ?_) ?_
  rotate_left 1
  · skip
    go_simp
    try simp only [hc]
    refine gives_mk ?_ hS
    with_reducible rfl
  refine all_take (i := 31) (v := ?_) rfl (by kernel_rfl) (by kernel_rfl) (by kernel_rfl) (fun _ _ _ h => h) (Tame.yes (by kernel_rfl) fun w hS => ?_) ?_
  rotate_left 1
  · skip
    go_simp
    try simp only [hc]
    refine gives_mk ?_ hS
    with_reducible rfl
  refine all_take (i := 32) (v := ?_) rfl (by kernel_rfl) (by kernel_rfl) (by kernel_rfl) (fun _ _ _ h => h) (Tame.yes (by kernel_rfl) fun w hS => ?_) ?_
  rotate_left 1
  · skip
    go_simp
    try simp only [hc]
    refine gives_mk ?_ hS
    with_reducible rfl
  refine all_take (i := 33) (v := ?_) rfl (by kernel_rfl) (by kernel_rfl) (by kernel_rfl) (fun _ _ _ h => h) (Tame.yes (by kernel_rfl) fun w hS => ?_) ?_
  rotate_left 1
  · skip
    go_simp
    try simp only [hc]
    refine gives_mk ?_ hS
    with_reducible rfl
  refine all_take (i := 34) (v := ?_) rfl (by kernel_rfl) (by kernel_rfl) (by kernel_rfl) (fun _ _ _ h => h) (Tame.yes (by kernel_rfl) fun w hS => ?_) ?_
  rotate_left 1
  · skip
    go_simp
    try simp only [hc]
    refine gives_mk ?_ hS
    with_reducible rfl
  refine all_take (i := 35) (v := ?_) rfl (by kernel_rfl) (by kernel_rfl) (by kernel_rfl) (fun _ _ _ h => h) (Tame.yes (by kernel_rfl) fun w hS => ?_) ?_
  rotate_left 1
  · skip
    go_simp
    try simp only [hc]
    refine gives_mk ?_ hS
    with_reducible rfl
  refine all_take (i := 36) (v := ?_) rfl (by kernel_rfl) (by kernel_rfl) (by kernel_rfl) (fun _ _ _ h => h) (Tame.yes (by kernel_rfl) fun w hS => ?_) ?_
  rotate_left 1
  · skip
    go_simp
    try simp only [hc]
    refine gives_mk ?_ hS
    with_reducible rfl
  refine all_take (i := 37) (v := ?_) rfl (by kernel_rfl) (by kernel_rfl) (by kernel_rfl) (fun _ _ _ h => h) (Tame.yes (by kernel_rfl) fun w hS => ?_) ?_
  rotate_left 1
  · skip
    go_simp
    try simp only [hc]
    refine gives_mk ?_ hS
    with_reducible rfl
  refine all_take (i := 38) (v := ?_) rfl (by kernel_rfl) (by kernel_rfl) (by kernel_rfl) (fun _ _ _ h => h) (Tame.yes (by kernel_rfl) fun w hS => ?_) ?_
  rotate_left 1
  · skip
    go_simp
    try simp only [hc]
    refine gives_mk ?_ hS
    with_reducible rfl
  refine all_take (i := 39) (v := ?_) rfl (by kernel_rfl) (by kernel_rfl) (by kernel_rfl) (fun _ _ _ h => h) (Tame.yes (by kernel_rfl) fun w hS => ?_) ?_
  rotate_left 1
  · skip
    go_simp
    try simp only [hc]
    refine gives_mk ?_ hS
    with_reducible rfl
  refine all_take (i := 40) (v := ?_) rfl (by kernel_rfl) (by kernel_rfl) (by kernel_rfl) (fun _ _ _ h => h) (Tame.yes (by kernel_rfl) fun w hS => ?_) ?_
  rotate_left 1
  · skip
    go_simp
    try simp only [hc]
    refine gives_mk ?_ hS
    with_reducible rfl
  refine all_take (i := 41) (v := ?_) rfl (by kernel_rfl) (by kernel_rfl) (by kernel_rfl) (fun _ _ _ h => h) (Tame.yes (by kernel_rfl) fun w hS => ?_) ?_
  rotate_left 1
  · skip
    go_simp
    try simp only [hc]
    refine gives_mk ?_ hS
    with_reducible rfl
  refine all_take (i := 42) (v := ?_) rfl (by kernel_rfl) (by kernel_rfl) (by kernel_rfl) (fun _ _ _ h => h) (Tame.yes (by kernel_rfl) fun w hS => ?_) ?_
  rotate_left 1
  · skip
    go_simp
    try simp only [hc]
    refine gives_mk ?_ hS
    with_reducible rfl
  refine all_take (i := 43) (v := ?_) rfl (by kernel_rfl) (by kernel_rfl) (by kernel_rfl) (fun _ _ _ h => h) (Tame.yes (by kernel_rfl) fun w hS => ?_) ?_
  rotate_left 1
  · skip
    go_simp
    try simp only [hc]
    refine gives_mk ?_ hS
    with_reducible rfl
  refine all_take (i := 44) (v := ?_) rfl (by kernel_rfl) (by kernel_rfl) (by kernel_rfl) (fun _ _ _ h => h) (Tame.yes (by kernel_rfl) fun w hS => ?_) ?_
  rotate_left 1
  · skip
    go_simp
    try simp only [hc]
    refine gives_mk ?_ hS
    with_reducible rfl
  refine all_take (i := 45) (v := ?_) rfl (by kernel_rfl) (by kernel_rfl) (by kernel_rfl) (fun _ _ _ h => h) (Tame.yes (by kernel_rfl) fun w hS => ?_) ?_
  rotate_left 1
  · skip
    go_simp
    try simp only [hc]
    refine gives_mk ?_ hS
    with_reducible rfl
  refine all_take (i := 46) rfl (by kernel_rfl) (by kernel_rfl) (by kernel_rfl) (fun _ _ _ h => h) (Tame.no (by kernel_rfl)) ?_
  refine all_take (i := 47) rfl (by kernel_rfl) (by kernel_rfl) (by kernel_rfl) (fun _ _ _ h => h) (Tame.no (by kernel_rfl)) ?_
  refine all_take (i := 48) rfl (by kernel_rfl) (by kernel_rfl) (by kernel_rfl) (fun _ _ _ h => h) (Tame.no (by kernel_rfl)) ?_
  refine all_take (i := 49) rfl (by kernel_rfl) (by kernel_rfl) (by kernel_rfl) (fun _ _ _ h => h) (Tame.no (by kernel_rfl)) ?_
  refine all_take (i := 50) rfl (by kernel_rfl) (by kernel_rfl) (by kernel_rfl) (fun _ _ _ h => h) (Tame.no (by kernel_rfl)) ?_
  refine all_take (i := 51) rfl (by kernel_rfl) (by kernel_rfl) (by kernel_rfl) (fun _ _ _ h => h) (Tame.no (by kernel_rfl)) ?_
  refine all_take (i := 52) rfl (by kernel_rfl) (by kernel_rfl) (by kernel_rfl) (fun _ _ _ h => h) (Tame.no (by kernel_rfl)) ?_
  refine all_take (i := 53) rfl (by kernel_rfl) (by kernel_rfl) (by kernel_rfl) (fun _ _ _ h => h) (Tame.no (by kernel_rfl)) ?_
  refine all_take (i := 54) rfl (by kernel_rfl) (by kernel_rfl) (by kernel_rfl) (fun _ _ _ h => h) (Tame.no (by kernel_rfl)) ?_
  refine all_take (i := 55) (v := ?_) rfl (by kernel_rfl) (by kernel_rfl) (by kernel_rfl) (fun _ _ _ h => h) (Tame.yes (by kernel_rfl) fun w hS => ?_) ?_
  rotate_left 1
  · skip
    go_simp
    try simp only [hc]
    refine gives_mk ?_ hS
    with_reducible rfl
  refine all_take (i := 56) (v := ?_) rfl (by kernel_rfl) (by kernel_rfl) (by kernel_rfl) (fun _ _ _ h => h) (Tame.yes (by kernel_rfl) fun w hS => ?_) ?_
  rotate_left 1
  · skip
    go_simp
    try simp only [hc]
    refine gives_mk ?_ hS
    with_reducible rfl
  refine all_take (i := 57) (v := ?_) rfl (by kernel_rfl) (by kernel_rfl) (by kernel_rfl) (fun _ _ _ h => h) (Tame.yes (by kernel_rfl) fun w hS => ?_) ?_
  rotate_left 1
  · skip
    go_simp
    try simp only [hc]
    refine gives_mk ?_ hS
    with_reducible rfl
  refine all_done (by kernel_rfl) ?_ _
  intro w3 hw3
  have HW3 := Lib.hid hw3
  clear hw3 A0 A1 A3 L0 L1 L2 L3
  go_simp
  go_wp2
  go_ret
  exact ⟨rfl, ((Ext.refl w).alloc _).trans (HX2.out.trans HW3.out)⟩
set_option maxRecDepth 100000 in
set_option maxHeartbeats 1000000 in
theorem ulater_first (m ba la : Int) (bo bq : ByteArray) (t : Int) (w : World) (h1 : bo.size ≤ 3000) (h0 : 0 ≤ t) (h2 : t < 4611686018427387904) (hl : 0 ≤ la) (hb : bo.size = 0) (bx : Int) (hbx : bx = t)
    (hp : Bu.put ⟨m, ba, la, bo⟩ t ⟨8, 7, [], ⟨#[]⟩⟩ = (⟨m, bx, t, bq⟩, true)) (hs : bo.size < bq.size) (hz : bq.size ≤ 100000) (hc : bq.extract 0 bo.size = bo) :
    Calls Try.prog 5 #[.agg #[.int .i64 m, .int .i64 ba, .int .i64 la, .string bo], .int .i64 t] w fun e w' => e = .returned (.bool true) ∧ Ext w w' := by
  have HP := Lib.hid hp
  have HC := Lib.hid hc
  have HBX := Lib.hid hbx
  have hb2 := Ev.str_nil hb
  have hb1 : bo.toList.isEmpty = true := by rw [hb2]; rfl
  clear hb hp hc hbx
  have HA : Hid (∀ v, Ext (w.alloc (.cells #[.int .i64 m, .int .i64 ba, .int .i64 la, .string bo] 23)) v → C4' w.heap.size m ba la bo v) := Lib.hid fun v hv => C4'.of (blk_new w _) hv
  go_enter Try.func5, Try.ntmps5
  go_wp2_with fail
  refine (ufixed_yes _).mono ?_
  rintro r w1 ⟨rfl, hx1⟩
  have HX1 := Lib.hid hx1
  clear hx1
  obtain ⟨a0, a1, a2, a3⟩ := HA.out _ HX1.out
  go_wp2_with fail
  refine (bput_k m ba la bo t 8 7 [] _ _ _ _ _ _ HP.out none 0 _ (by omega) (ints_no _) (by simp) (by decide)).mono ?_
  rintro r w2 ⟨rfl, hx2⟩
  have HX2 := Lib.hid ((HX1.out.trans hx2).alloc (.cells #[.int .i64 m, .int .i64 bx, .int .i64 t, .string bq] 23))
  clear a0 a1 a2 a3 hx2
  obtain ⟨a0, a1, a2, a3⟩ := HA.out _ HX2.out
  go_wp2
  refine region_all (fun v => Ext (w2.alloc (.cells #[.int .i64 m, .int .i64 bx, .int .i64 t, .string bq] 23)) v) (by kernel_rfl) (Ext.refl _).drew ?_
  have A0 := fun v (hv : Ext (w2.alloc (.cells #[.int .i64 m, .int .i64 bx, .int .i64 t, .string bq] 23)) v) => (HA.out v (HX2.out.trans hv)).1
  have A1 := fun v (hv : Ext (w2.alloc (.cells #[.int .i64 m, .int .i64 bx, .int .i64 t, .string bq] 23)) v) => (HA.out v (HX2.out.trans hv)).2.1
  have A3 := fun v (hv : Ext (w2.alloc (.cells #[.int .i64 m, .int .i64 bx, .int .i64 t, .string bq] 23)) v) => (HA.out v (HX2.out.trans hv)).2.2.2
  have L0 := fun v (hv : Ext (w2.alloc (.cells #[.int .i64 m, .int .i64 bx, .int .i64 t, .string bq] 23)) v) => Ext.box hv 0 (.int .i64 m) rfl
  have L1 := fun v (hv : Ext (w2.alloc (.cells #[.int .i64 m, .int .i64 bx, .int .i64 t, .string bq] 23)) v) => Ext.box hv 1 (.int .i64 bx) rfl
  have L2 := fun v (hv : Ext (w2.alloc (.cells #[.int .i64 m, .int .i64 bx, .int .i64 t, .string bq] 23)) v) => Ext.box hv 2 (.int .i64 t) rfl
  have L3 := fun v (hv : Ext (w2.alloc (.cells #[.int .i64 m, .int .i64 bx, .int .i64 t, .string bq] 23)) v) => Ext.box hv 3 (.string bq) rfl
  clear a0 a1 a2 a3
  have hc := HC.out
  have hle : bo.size ≤ bq.size := by omega
  have hbx : (bx == t) = true := by simpa using HBX.out
  refine all_take (i := 0) (v := ?_) rfl (by kernel_rfl) (by kernel_rfl) (by kernel_rfl) (fun _ _ _ h => h) (Tame.yes (by kernel_rfl) fun w hS => ?_) ?_
  rotate_left 1
  · skip
    go_simp
    try simp only [hc]
    refine gives_mk ?_ hS
    with_reducible rfl
  refine all_take (i := 1) (v := ?_) rfl (by kernel_rfl) (by kernel_rfl) (by kernel_rfl) (fun _ _ _ h => h) (Tame.yes (by kernel_rfl) fun w hS => ?_) ?_
  rotate_left 1
  · skip
    go_simp
    try simp only [hc]
    refine gives_mk ?_ hS
    with_reducible rfl
  refine all_take (i := 2) (v := ?_) rfl (by kernel_rfl) (by kernel_rfl) (by kernel_rfl) (fun _ _ _ h => h) (Tame.yes (by kernel_rfl) fun w hS => ?_) ?_
  rotate_left 1
  · skip
    go_simp
    try simp only [hc]
    refine gives_mk ?_ hS
    with_reducible rfl
  refine all_take (i := 3) (v := ?_) rfl (by kernel_rfl) (by kernel_rfl) (by kernel_rfl) (fun _ _ _ h => h) (Tame.yes (by kernel_rfl) fun w hS => ?_) ?_
  rotate_left 1
  · skip
    go_simp
    try simp only [hc]
    refine gives_mk ?_ hS
    with_reducible rfl
  refine all_take (i := 4) (v := ?_) rfl (by kernel_rfl) (by kernel_rfl) (by kernel_rfl) (fun _ _ _ h => h) (Tame.yes (by kernel_rfl) fun w hS => ?_) ?_
  rotate_left 1
  · skip
    go_simp
    try simp only [hc]
    refine gives_mk ?_ hS
    with_reducible rfl
  refine all_take (i := 5) (v := ?_) rfl (by kernel_rfl) (by kernel_rfl) (by kernel_rfl) (fun _ _ _ h => h) (Tame.yes (by kernel_rfl) fun w hS => ?_) ?_
  rotate_left 1
  · skip
    go_simp
    try simp only [hc]
    refine gives_mk ?_ hS
    with_reducible rfl
  refine all_take (i := 6) (v := ?_) rfl (by kernel_rfl) (by kernel_rfl) (by kernel_rfl) (fun _ _ _ h => h) (Tame.yes (by kernel_rfl) fun w hS => ?_) ?_
  rotate_left 1
  · skip
    go_simp
    try simp only [hc]
    refine gives_mk ?_ hS
    with_reducible rfl
  refine all_take (i := 7) (v := ?_) rfl (by kernel_rfl) (by kernel_rfl) (by kernel_rfl) (fun _ _ _ h => h) (Tame.yes (by kernel_rfl) fun w hS => ?_) ?_
  rotate_left 1
  · skip
    go_simp
    try simp only [hc]
    refine gives_mk ?_ hS
    with_reducible rfl
  refine all_take (i := 8) (v := ?_) rfl (by kernel_rfl) (by kernel_rfl) (by kernel_rfl) (fun _ _ _ h => h) (Tame.yes (by kernel_rfl) fun w hS => ?_) ?_
  rotate_left 1
  · skip
    go_simp
    try simp only [hc]
    refine gives_mk ?_ hS
    with_reducible rfl
  refine all_take (i := 9) (v := ?_) rfl (by kernel_rfl) (by kernel_rfl) (by kernel_rfl) (fun _ _ _ h => h) (Tame.yes (by kernel_rfl) fun w hS => ?_) ?_
  rotate_left 1
  · skip
    go_simp
    try simp only [hc]
    refine gives_mk ?_ hS
    with_reducible rfl
  refine all_take (i := 10) (v := ?_) rfl (by kernel_rfl) (by kernel_rfl) (by kernel_rfl) (fun _ _ _ h => h) (Tame.yes (by kernel_rfl) fun w hS => ?_) ?_
  rotate_left 1
  · skip
    go_simp
    try simp only [hc]
    refine gives_mk ?_ hS
    with_reducible rfl
  refine all_take (i := 11) (v := ?_) rfl (by kernel_rfl) (by kernel_rfl) (by kernel_rfl) (fun _ _ _ h => h) (Tame.yes (by kernel_rfl) fun w hS => ?_) ?_
  rotate_left 1
  · skip
    go_simp
    try simp only [hc]
    refine gives_mk ?_ hS
    with_reducible rfl
  refine all_take (i := 12) (v := ?_) rfl (by kernel_rfl) (by kernel_rfl) (by kernel_rfl) (fun _ _ _ h => h) (Tame.yes (by kernel_rfl) fun w hS => ?_) ?_
  rotate_left 1
  · skip
    go_simp
    try simp only [hc]
    refine gives_mk ?_ hS
    with_reducible rfl
  refine all_take (i := 13) (v := ?_) rfl (by kernel_rfl) (by kernel_rfl) (by kernel_rfl) (fun _ _ _ h => h) (Tame.yes (by kernel_rfl) fun w hS => ?_) ?_
  rotate_left 1
  · skip
    go_simp
    try simp only [hc]
    refine gives_mk ?_ hS
    with_reducible rfl
  refine all_take (i := 14) (v := ?_) rfl (by kernel_rfl) (by kernel_rfl) (by kernel_rfl) (fun _ _ _ h => h) (Tame.yes (by kernel_rfl) fun w hS => ?_) ?_
  rotate_left 1
  · skip
    go_simp
    try simp only [hc]
    refine gives_mk ?_ hS
    with_reducible rfl
  refine all_take (i := 15) (v := ?_) rfl (by kernel_rfl) (by kernel_rfl) (by kernel_rfl) (fun _ _ _ h => h) (Tame.yes (by kernel_rfl) fun w hS => ?_) ?_
  rotate_left 1
  · skip
    go_simp
    try simp only [hc]
    refine gives_mk ?_ hS
    with_reducible rfl
  refine all_take (i := 16) (v := ?_) rfl (by kernel_rfl) (by kernel_rfl) (by kernel_rfl) (fun _ _ _ h => h) (Tame.yes (by kernel_rfl) fun w hS => ?_) ?_
  rotate_left 1
  · skip
    go_simp
    try simp only [hc]
    refine gives_mk ?_ hS
    with_reducible rfl
  refine all_take (i := 17) (v := ?_) rfl (by kernel_rfl) (by kernel_rfl) (by kernel_rfl) (fun _ _ _ h => h) (Tame.yes (by kernel_rfl) fun w hS => ?_) ?_
  rotate_left 1
  · skip
    go_simp
    try simp only [hc]
    refine gives_mk ?_ hS
    with_reducible rfl
  refine all_take (i := 18) (v := ?_) rfl (by kernel_rfl) (by kernel_rfl) (by kernel_rfl) (fun _ _ _ h => h) (Tame.yes (by kernel_rfl) fun w hS => ?_) ?_
  rotate_left 1
  · skip
    go_simp
    try simp only [hc]
    refine gives_mk ?_ hS
    with_reducible rfl
  refine all_take (i := 19) (v := ?_) rfl (by kernel_rfl) (by kernel_rfl) (by kernel_rfl) (fun _ _ _ h => h) (Tame.yes (by kernel_rfl) fun w hS => ?_) ?_
  rotate_left 1
  · skip
    go_simp
    try simp only [hc]
    refine gives_mk ?_ hS
    with_reducible rfl
  refine all_take (i := 20) (v := ?_) rfl (by kernel_rfl) (by kernel_rfl) (by kernel_rfl) (fun _ _ _ h => h) (Tame.yes (by kernel_rfl) fun w hS => ?_) ?_
  rotate_left 1
  · skip
    go_simp
    try simp only [hc]
    refine gives_mk ?_ hS
    with_reducible rfl
  refine all_take (i := 21) (v := ?_) rfl (by kernel_rfl) (by kernel_rfl) (by kernel_rfl) (fun _ _ _ h => h) (Tame.yes (by kernel_rfl) fun w hS => ?_) ?_
  rotate_left 1
  · skip
    go_simp
    try simp only [hc]
    refine gives_mk ?_ hS
    with_reducible rfl
  refine all_take (i := 22) (v := ?_) rfl (by kernel_rfl) (by kernel_rfl) (by kernel_rfl) (fun _ _ _ h => h) (Tame.yes (by kernel_rfl) fun w hS => ?_) ?_
  rotate_left 1
  · skip
    go_simp
    try simp only [hc]
    refine gives_mk ?_ hS
    with_reducible rfl
  refine all_take (i := 23) (v := ?_) rfl (by kernel_rfl) (by kernel_rfl) (by kernel_rfl) (fun _ _ _ h => h) (Tame.yes (by kernel_rfl) fun w hS => ?_) ?_
  rotate_left 1
  · skip
    go_simp
    try simp only [hc]
    refine gives_mk ?_ hS
    with_reducible rfl
  refine all_take (i := 24) (v := ?_) rfl (by kernel_rfl) (by kernel_rfl) (by kernel_rfl) (fun _ _ _ h => h) (Tame.yes (by kernel_rfl) fun w hS => ?_) ?_
  rotate_left 1
  · skip
    go_simp
    try simp only [hc]
    refine gives_mk ?_ hS
    with_reducible rfl
  refine all_take (i := 25) (v := ?_) rfl (by kernel_rfl) (by kernel_rfl) (by kernel_rfl) (fun _ _ _ h => h) (Tame.yes (by kernel_rfl) fun w hS => ?_) ?_
  rotate_left 1
  · skip
    go_simp
    try simp only [hc]
    refine gives_mk ?_ hS
    with_reducible rfl
  refine all_take (i := 26) (v := ?_) rfl (by kernel_rfl) (by kernel_rfl) (by kernel_rfl) (fun _ _ _ h => h) (Tame.yes (by kernel_rfl) fun w hS => ?_) ?_
  rotate_left 1
  · skip
    go_simp
    try simp only [hc]
    refine gives_mk ?_ hS
    with_reducible rfl
  refine all_take (i := 27) (v := ?_) rfl (by kernel_rfl) (by kernel_rfl) (by kernel_rfl) (fun _ _ _ h => h) (Tame.yes (by kernel_rfl) fun w hS => ?_) ?_
  rotate_left 1
  · skip
    go_simp
    try simp only [hc]
    refine gives_mk ?_ hS
    with_reducible rfl
  refine all_take (i := 28) (v := ?_) rfl (by kernel_rfl) (by kernel_rfl) (by kernel_rfl) (fun _ _ _ h => h) (Tame.yes (by kernel_rfl) fun w hS => ?_) ?_
  rotate_left 1
  · skip
    go_simp
    try simp only [hc]
    refine gives_mk ?_ hS
    with_reducible rfl
  refine all_take (i := 29) (v := ?_) rfl (by kernel_rfl) (by kernel_rfl) (by kernel_rfl) (fun _ _ _ h => h) (Tame.yes (by kernel_rfl) fun w hS => ?_) ?_
  rotate_left 1
  · skip
    go_simp
    try simp only [hc]
    refine gives_mk ?_ hS
    with_reducible rfl
  refine all_take (i := 30) (v := ?_) rfl (by kernel_rfl) (by kernel_rfl) (by kernel_rfl) (fun _ _ _ h => h) (Tame.yes (by kernel_rfl) fun w hS => ?_) ?_
  rotate_left 1
  · skip
    go_simp
    try simp only [hc]
    refine gives_mk ?_ hS
    with_reducible rfl
  refine all_take (i := 31) (v := ?_) rfl (by kernel_rfl) (by kernel_rfl) (by kernel_rfl) (fun _ _ _ h => h) (Tame.yes (by kernel_rfl) fun w hS => ?_) ?_
  rotate_left 1
  · skip
    go_simp
    try simp only [hc]
    refine gives_mk ?_ hS
    with_reducible rfl
  refine all_take (i := 32) (v := ?_) rfl (by kernel_rfl) (by kernel_rfl) (by kernel_rfl) (fun _ _ _ h => h) (Tame.yes (by kernel_rfl) fun w hS => ?_) ?_
  rotate_left 1
  · skip
    go_simp
    try simp only [hc]
    refine gives_mk ?_ hS
    with_reducible rfl
  refine all_take (i := 33) (v := ?_) rfl (by kernel_rfl) (by kernel_rfl) (by kernel_rfl) (fun _ _ _ h => h) (Tame.yes (by kernel_rfl) fun w hS => ?_) ?_
  rotate_left 1
  · skip
    go_simp
    try simp only [hc]
    refine gives_mk ?_ hS
    with_reducible rfl
  refine all_take (i := 34) (v := ?_) rfl (by kernel_rfl) (by kernel_rfl) (by kernel_rfl) (fun _ _ _ h => h) (Tame.yes (by kernel_rfl) fun w hS => ?_) ?_
  rotate_left 1
  · skip
    go_simp
    try simp only [hc]
    refine gives_mk ?_ hS
    with_reducible rfl
  refine all_take (i := 35) (v := ?_) rfl (by kernel_rfl) (by kernel_rfl) (by kernel_rfl) (fun _ _ _ h => h) (Tame.yes (by kernel_rfl) fun w hS => ?_) ?_
  rotate_left 1
  · skip
    go_simp
    try simp only [hc]
    refine gives_mk ?_ hS
    with_reducible rfl
  refine all_take (i := 36) (v := ?_) rfl (by kernel_rfl) (by kernel_rfl) (by kernel_rfl) (fun _ _ _ h => h) (Tame.yes (by kernel_rfl) fun w hS => ?_) ?_
  rotate_left 1
  · skip
    go_simp
    try simp only [hc]
    refine gives_mk ?_ hS
    with_reducible rfl
  refine all_take (i := 37) (v := ?_) rfl (by kernel_rfl) (by kernel_rfl) (by kernel_rfl) (fun _ _ _ h => h) (Tame.yes (by kernel_rfl) fun w hS => ?_) ?_
  rotate_left 1
  · skip
    go_simp
    try simp only [hc]
    refine gives_mk ?_ hS
    with_reducible rfl
  refine all_take (i := 38) (v := ?_) rfl (by kernel_rfl) (by kernel_rfl) (by kernel_rfl) (fun _ _ _ h => h) (Tame.yes (by kernel_rfl) fun w hS => ?_) ?_
  rotate_left 1
  · skip
    go_simp
    try simp only [hc]
    refine gives_mk ?_ hS
    with_reducible rfl
  refine all_take (i := 39) rfl (by kernel_rfl) (by kernel_rfl) (by kernel_rfl) (fun _ _ _ h => h) (Tame.no (by kernel_rfl)) ?_
  refine all_take (i := 40) rfl (by kernel_rfl) (by kernel_rfl) (by kernel_rfl) (fun _ _ _ h => h) (Tame.no (by kernel_rfl)) ?_
  refine all_take (i := 41) rfl (by kernel_rfl) (by kernel_rfl) (by kernel_rfl) (fun _ _ _ h => h) (Tame.no (by kernel_rfl)) ?_
  refine all_take (i := 42) rfl (by kernel_rfl) (by kernel_rfl) (by kernel_rfl) (fun _ _ _ h => h) (Tame.no (by kernel_rfl)) ?_
  refine all_take (i := 43) rfl (by kernel_rfl) (by kernel_rfl) (by kernel_rfl) (fun _ _ _ h => h) (Tame.no (by kernel_rfl)) ?_
  refine all_take (i := 44) (v := ?_) rfl (by kernel_rfl) (by kernel_rfl) (by kernel_rfl) (fun _ _ _ h => h) (Tame.yes (by kernel_rfl) fun w hS => ?_) ?_
  rotate_left 1
  · skip
    go_simp
    try simp only [hc]
    refine gives_mk ?_ hS
    with_reducible rfl
  refine all_take (i := 45) (v := ?_) rfl (by kernel_rfl) (by kernel_rfl) (by kernel_rfl) (fun _ _ _ h => h) (Tame.yes (by kernel_rfl) fun w hS => ?_) ?_
  rotate_left 1
  · skip
    go_simp
    try simp only [hc]
    refine gives_mk ?_ hS
    with_reducible rfl
  refine all_take (i := 46) (v := ?_) rfl (by kernel_rfl) (by kernel_rfl) (by kernel_rfl) (fun _ _ _ h => h) (Tame.yes (by kernel_rfl) fun w hS => ?_) ?_
  rotate_left 1
  · skip
    go_simp
    try simp only [hc]
    refine gives_mk ?_ hS
    with_reducible rfl
  refine all_take (i := 47) (v := ?_) rfl (by kernel_rfl) (by kernel_rfl) (by kernel_rfl) (fun _ _ _ h => h) (Tame.yes (by kernel_rfl) fun w hS => ?_) ?_
  rotate_left 1
  · skip
    go_simp
    try simp only [hc]
    refine gives_mk ?_ hS
    with_reducible rfl
  refine all_take (i := 48) (v := ?_) rfl (by kernel_rfl) (by kernel_rfl) (by kernel_rfl) (fun _ _ _ h => h) (Tame.yes (by kernel_rfl) fun w hS => ?_) ?_
  rotate_left 1
  · skip
    go_simp
    try simp only [hc]
    refine gives_mk ?_ hS
    with_reducible rfl
  refine all_take (i := 49) (v := ?_) rfl (by kernel_rfl) (by kernel_rfl) (by kernel_rfl) (fun _ _ _ h => h) (Tame.yes (by kernel_rfl) fun w hS => ?_) ?_
  rotate_left 1
  · skip
    go_simp
    try simp only [hc]
    refine gives_mk ?_ hS
    with_reducible rfl
  refine all_take (i := 50) (v := ?_) rfl (by kernel_rfl) (by kernel_rfl) (by kernel_rfl) (fun _ _ _ h => h) (Tame.yes (by kernel_rfl) fun w hS => ?_) ?_
  rotate_left 1
  · skip
    go_simp
    try simp only [hc]
    refine gives_mk ?_ hS
    with_reducible rfl
  refine all_take (i := 51) (v := ?_) rfl (by kernel_rfl) (by kernel_rfl) (by kernel_rfl) (fun _ _ _ h => h) (Tame.yes (by kernel_rfl) fun w hS => ?_) ?_
  rotate_left 1
  · skip
    go_simp
    try simp only [hc]
    refine gives_mk ?_ hS
    with_reducible rfl
  refine all_take (i := 52) (v := ?_) rfl (by kernel_rfl) (by kernel_rfl) (by kernel_rfl) (fun _ _ _ h => h) (Tame.yes (by kernel_rfl) fun w hS => ?_) ?_
  rotate_left 1
  · skip
    go_simp
    try simp only [hc]
    refine gives_mk ?_ hS
    with_reducible rfl
  refine all_take (i := 53) (v := ?_) rfl (by kernel_rfl) (by kernel_rfl) (by kernel_rfl) (fun _ _ _ h => h) (Tame.yes (by kernel_rfl) fun w hS => ?_) ?_
  rotate_left 1
  · skip
    go_simp
    try simp only [hc]
    refine gives_mk ?_ hS
    with_reducible rfl
  refine all_take (i := 54) (v := ?_) rfl (by kernel_rfl) (by kernel_rfl) (by kernel_rfl) (fun _ _ _ h => h) (Tame.yes (by kernel_rfl) fun w hS => ?_) ?_
  rotate_left 1
  · skip
    go_simp
    try simp only [hc]
    refine gives_mk ?_ hS
    with_reducible rfl
  refine all_take (i := 55) (v := ?_) rfl (by kernel_rfl) (by kernel_rfl) (by kernel_rfl) (fun _ _ _ h => h) (Tame.yes (by kernel_rfl) fun w hS => ?_) ?_
  rotate_left 1
  · skip
    go_simp
    try simp only [hc]
    refine gives_mk ?_ hS
    with_reducible rfl
  refine all_take (i := 56) (v := ?_) rfl (by kernel_rfl) (by kernel_rfl) (by kernel_rfl) (fun _ _ _ h => h) (Tame.yes (by kernel_rfl) fun w hS => ?_) ?_
  rotate_left 1
  · skip
    go_simp
    try simp only [hc]
    refine gives_mk ?_ hS
    with_reducible rfl
  refine all_take (i := 57) (v := ?_) rfl (by kernel_rfl) (by kernel_rfl) (by kernel_rfl) (fun _ _ _ h => h) (Tame.yes (by kernel_rfl) fun w hS => ?_) ?_
  rotate_left 1
  · skip
    go_simp
    try simp only [hc]
    refine gives_mk ?_ hS
    with_reducible rfl
  refine all_done (by kernel_rfl) ?_ _
  intro w3 hw3
  have HW3 := Lib.hid hw3
  clear hw3 A0 A1 A3 L0 L1 L2 L3
  go_simp
  go_wp2
  go_ret
  exact ⟨rfl, ((Ext.refl w).alloc _).trans (HX2.out.trans HW3.out)⟩

end Go.Proofs.Ytcdfpifhjjiioaa
