/-
  The walk of the statement BatchBase.
-/
import Derived.Test.YtlbhpgieehallaaBl
import Derived.Test.YtlbhpgieehallaaBk
set_option linter.unusedVariables false
set_option linter.unusedSimpArgs false
namespace Go.Proofs.Ytlbhpgieehallaa
open Go.RowKit

set_option maxRecDepth 100000 in
set_option maxHeartbeats 4000000 in
theorem bbase_out (g st ba : Int) (bo : ByteArray) (bb : Int) (w : World) (hbo : bo.size ≤ maxLen) (l : List Ev) (ts : List Int) (pe qe : Nat) (he : Bt.events ⟨g, st, ba, bo⟩ = (l, ts, pe, qe)) (mb : Bool) (hm : Bt.may ⟨g, st, bb, bo⟩ = mb)
    (ho : 3000 < bo.size ∨ (bo.size ≤ 3000 ∧ (qe ≠ 0 ∨ (qe = 0 ∧ mb = false)))) :
    Calls Try.prog 6 #[.agg #[.int .i64 g, .int .i64 st, .int .i64 ba, .string bo], .int .i64 bb] w fun e w' => e = .returned (.bool true) ∧ Ext w w' := by
  unfold maxLen at hbo
  have HM := Lib.hid hm
  clear hm
  rcases ho with h1 | ⟨h1, hq | ⟨rfl, rfl⟩⟩
  · skip
    have HE := Lib.hid he
    have HA : Hid (∀ v, Ext (w.alloc (.cells #[.int .i64 g, .int .i64 st, .int .i64 ba, .string bo] 23)) v → C4 w.heap.size g st ba bo v) := Lib.hid fun v hv => C4.of (blk_new w _) hv
    clear he
    go_enter Try.func6, Try.ntmps6
    go_wp2_with fail
    refine (bevents_eq g st ba bo l ts pe _ HE.out _).mono ?_
    rintro r w1 ⟨A, c, A', c', rfl, hev, htv, hx1⟩
    have HX1 := Lib.hid hx1
    have HEV := Lib.hid hev
    have HTV := Lib.hid htv
    clear hev htv hx1
    have HC0 : Hid (Ext (w.alloc (.cells #[.int .i64 g, .int .i64 st, .int .i64 ba, .string bo] 23)) (w1.alloc (.cells #[.int .i64 g, .int .i64 st, .int .i64 ba, .string bo] 23))) := Lib.hid (HX1.out.alloc _)
    have HCS : Hid ((w1.alloc (.cells #[.int .i64 g, .int .i64 st, .int .i64 bb, .string bo] 23)).heap[w1.heap.size]? = some (.cells #[.int .i64 g, .int .i64 st, .int .i64 bb, .string bo] 23 (0, 0))) := Lib.hid (blk_new w1 _)
    have HS : Hid (Ext w1 (w1.alloc (.cells #[.int .i64 g, .int .i64 st, .int .i64 bb, .string bo] 23))) := Lib.hid ((Ext.refl w1).alloc _)
    obtain ⟨a0, a1, a2, a3⟩ := HA.out _ HX1.out
    go_wp2_with fail
    refine (bfixed_yes _).mono ?_
    rintro r w2 ⟨rfl, hx2⟩
    have HX2 := Lib.hid hx2
    clear a0 a1 a2 a3 hx2
    obtain ⟨a0, a1, a2, a3⟩ := HA.out _ (HX1.out.trans (HS.out.trans HX2.out))
    go_wp2_with fail
    refine (bfixed_yes _).mono ?_
    rintro r w3 ⟨rfl, hx3⟩
    go_wp2
    go_ret
    exact ⟨rfl, ((Ext.refl w).alloc _).trans (HX1.out.trans (HS.out.trans (HX2.out.trans hx3)))⟩
  · have hq1 : ((qe : Int) == 0) = false := by simpa using hq
    have hq2 : ((qe : Int) != 0) = true := by simpa using hq
    clear hq
    have HE := Lib.hid he
    have HA : Hid (∀ v, Ext (w.alloc (.cells #[.int .i64 g, .int .i64 st, .int .i64 ba, .string bo] 23)) v → C4 w.heap.size g st ba bo v) := Lib.hid fun v hv => C4.of (blk_new w _) hv
    clear he
    go_enter Try.func6, Try.ntmps6
    go_wp2_with fail
    refine (bevents_eq g st ba bo l ts pe _ HE.out _).mono ?_
    rintro r w1 ⟨A, c, A', c', rfl, hev, htv, hx1⟩
    have HX1 := Lib.hid hx1
    have HEV := Lib.hid hev
    have HTV := Lib.hid htv
    clear hev htv hx1
    have HC0 : Hid (Ext (w.alloc (.cells #[.int .i64 g, .int .i64 st, .int .i64 ba, .string bo] 23)) (w1.alloc (.cells #[.int .i64 g, .int .i64 st, .int .i64 ba, .string bo] 23))) := Lib.hid (HX1.out.alloc _)
    have HCS : Hid ((w1.alloc (.cells #[.int .i64 g, .int .i64 st, .int .i64 bb, .string bo] 23)).heap[w1.heap.size]? = some (.cells #[.int .i64 g, .int .i64 st, .int .i64 bb, .string bo] 23 (0, 0))) := Lib.hid (blk_new w1 _)
    have HS : Hid (Ext w1 (w1.alloc (.cells #[.int .i64 g, .int .i64 st, .int .i64 bb, .string bo] 23))) := Lib.hid ((Ext.refl w1).alloc _)
    obtain ⟨a0, a1, a2, a3⟩ := HA.out _ HX1.out
    go_wp2_with fail
    refine (bfixed_yes _).mono ?_
    rintro r w2 ⟨rfl, hx2⟩
    have HX2 := Lib.hid hx2
    clear a0 a1 a2 a3 hx2
    obtain ⟨a0, a1, a2, a3⟩ := HA.out _ (HX1.out.trans (HS.out.trans HX2.out))
    go_wp2_with fail
    refine (bfixed_yes _).mono ?_
    rintro r w3 ⟨rfl, hx3⟩
    go_wp2
    go_ret
    exact ⟨rfl, ((Ext.refl w).alloc _).trans (HX1.out.trans (HS.out.trans (HX2.out.trans hx3)))⟩
  · skip
    have HE := Lib.hid he
    have HA : Hid (∀ v, Ext (w.alloc (.cells #[.int .i64 g, .int .i64 st, .int .i64 ba, .string bo] 23)) v → C4 w.heap.size g st ba bo v) := Lib.hid fun v hv => C4.of (blk_new w _) hv
    clear he
    go_enter Try.func6, Try.ntmps6
    go_wp2_with fail
    refine (bevents_eq g st ba bo l ts pe _ HE.out _).mono ?_
    rintro r w1 ⟨A, c, A', c', rfl, hev, htv, hx1⟩
    have HX1 := Lib.hid hx1
    have HEV := Lib.hid hev
    have HTV := Lib.hid htv
    clear hev htv hx1
    have HC0 : Hid (Ext (w.alloc (.cells #[.int .i64 g, .int .i64 st, .int .i64 ba, .string bo] 23)) (w1.alloc (.cells #[.int .i64 g, .int .i64 st, .int .i64 ba, .string bo] 23))) := Lib.hid (HX1.out.alloc _)
    have HCS : Hid ((w1.alloc (.cells #[.int .i64 g, .int .i64 st, .int .i64 bb, .string bo] 23)).heap[w1.heap.size]? = some (.cells #[.int .i64 g, .int .i64 st, .int .i64 bb, .string bo] 23 (0, 0))) := Lib.hid (blk_new w1 _)
    have HS : Hid (Ext w1 (w1.alloc (.cells #[.int .i64 g, .int .i64 st, .int .i64 bb, .string bo] 23))) := Lib.hid ((Ext.refl w1).alloc _)
    obtain ⟨a0, a1, a2, a3⟩ := HA.out _ HX1.out
    go_wp2_with fail
    refine (bfixed_yes _).mono ?_
    rintro r w2 ⟨rfl, hx2⟩
    have HX2 := Lib.hid hx2
    clear a0 a1 a2 a3 hx2
    obtain ⟨a0, a1, a2, a3⟩ := HA.out _ (HX1.out.trans (HS.out.trans HX2.out))
    obtain ⟨b0, b1, b2, b3⟩ := C4.of HCS.out HX2.out
    go_wp2_with fail
    refine (bmay_eq g st bb bo false HM.out _).mono ?_
    rintro r w4 ⟨rfl, hx4⟩
    have HX4 := Lib.hid (HX2.out.trans hx4)
    clear a0 a1 a2 a3 b0 b1 b2 b3 hx4
    go_wp2_with fail
    refine (bfixed_yes _).mono ?_
    rintro r w3 ⟨rfl, hx3⟩
    go_wp2
    go_ret
    exact ⟨rfl, ((Ext.refl w).alloc _).trans (HX1.out.trans (HS.out.trans (HX4.out.trans hx3)))⟩
set_option maxRecDepth 100000 in
set_option maxHeartbeats 4000000 in
theorem bbase_long (g st ba : Int) (bo : ByteArray) (bb : Int) (w : World) (hbo : bo.size ≤ 3000) (l : List Ev) (ts : List Int) (pe qe : Nat) (hqe : qe = 0) (he : Bt.events ⟨g, st, ba, bo⟩ = (l, ts, pe, qe)) (hm : Bt.may ⟨g, st, bb, bo⟩ = true) (p2 : Nat) (he2 : Bt.events ⟨g, st, bb, bo⟩ = ([], [], p2, 11)) (hlt : ba < bb) :
    Calls Try.prog 6 #[.agg #[.int .i64 g, .int .i64 st, .int .i64 ba, .string bo], .int .i64 bb] w fun e w' => e = .returned (.bool true) ∧ Ext w w' := by
  subst hqe
  have HM := Lib.hid hm
  have HE2 := Lib.hid he2
  clear hm he2
  have HE := Lib.hid he
  have HA : Hid (∀ v, Ext (w.alloc (.cells #[.int .i64 g, .int .i64 st, .int .i64 ba, .string bo] 23)) v → C4 w.heap.size g st ba bo v) := Lib.hid fun v hv => C4.of (blk_new w _) hv
  clear he
  go_enter Try.func6, Try.ntmps6
  go_wp2_with fail
  refine (bevents_eq g st ba bo l ts pe _ HE.out _).mono ?_
  rintro r w1 ⟨A, c, A', c', rfl, hev, htv, hx1⟩
  have HX1 := Lib.hid hx1
  have HEV := Lib.hid hev
  have HTV := Lib.hid htv
  clear hev htv hx1
  have HC0 : Hid (Ext (w.alloc (.cells #[.int .i64 g, .int .i64 st, .int .i64 ba, .string bo] 23)) (w1.alloc (.cells #[.int .i64 g, .int .i64 st, .int .i64 ba, .string bo] 23))) := Lib.hid (HX1.out.alloc _)
  have HCS : Hid ((w1.alloc (.cells #[.int .i64 g, .int .i64 st, .int .i64 bb, .string bo] 23)).heap[w1.heap.size]? = some (.cells #[.int .i64 g, .int .i64 st, .int .i64 bb, .string bo] 23 (0, 0))) := Lib.hid (blk_new w1 _)
  have HS : Hid (Ext w1 (w1.alloc (.cells #[.int .i64 g, .int .i64 st, .int .i64 bb, .string bo] 23))) := Lib.hid ((Ext.refl w1).alloc _)
  obtain ⟨a0, a1, a2, a3⟩ := HA.out _ HX1.out
  go_wp2_with fail
  refine (bfixed_yes _).mono ?_
  rintro r w2 ⟨rfl, hx2⟩
  have HX2 := Lib.hid hx2
  clear a0 a1 a2 a3 hx2
  obtain ⟨a0, a1, a2, a3⟩ := HA.out _ (HX1.out.trans (HS.out.trans HX2.out))
  obtain ⟨b0, b1, b2, b3⟩ := C4.of HCS.out HX2.out
  go_wp2_with fail
  refine (bmay_eq g st bb bo true HM.out _).mono ?_
  rintro r w4 ⟨rfl, hx4⟩
  have HX4 := Lib.hid (HX2.out.trans hx4)
  clear a0 a1 a2 a3 b0 b1 b2 b3 hx4
  obtain ⟨b0, b1, b2, b3⟩ := C4.of HCS.out HX4.out
  go_wp2_with fail
  refine (bevents_eq g st bb bo [] [] p2 11 HE2.out _).mono ?_
  rintro r w5 ⟨A2, c2, A2', c2', rfl, hev, htv, hx5⟩
  have HX5 := Lib.hid (HX4.out.trans hx5)
  clear b0 b1 b2 b3 hev htv hx5
  obtain ⟨a0, a1, a2, a3⟩ := HA.out _ (HX1.out.trans (HS.out.trans HX5.out))
  go_wp2
  go_ret
  exact ⟨rfl, ((Ext.refl w).alloc _).trans (HX1.out.trans (HS.out.trans HX5.out))⟩
set_option maxRecDepth 100000 in
set_option maxHeartbeats 4000000 in
theorem bbase_ok (g st ba : Int) (bo : ByteArray) (bb : Int) (w : World) (hbo : bo.size ≤ 3000) (l : List Ev) (ts us : List Int) (pe qe : Nat) (hqe : qe = 0) (he : Bt.events ⟨g, st, ba, bo⟩ = (l, ts, pe, qe)) (hm : Bt.may ⟨g, st, bb, bo⟩ = true) (he2 : Bt.events ⟨g, st, bb, bo⟩ = (l, us, 0, 0))
    (hus : us.length = ts.length) (hut : ∀ j (h1 : j < ts.length) (h2 : j < us.length), us[j] - ts[j] = bb - ba) (hts : ∀ t ∈ ts, Ev.ok t = true) (hus2 : ∀ t ∈ us, Ev.ok t = true) (hba : Ev.ok ba = true) (hbb : Ev.ok bb = true) :
    Calls Try.prog 6 #[.agg #[.int .i64 g, .int .i64 st, .int .i64 ba, .string bo], .int .i64 bb] w fun e w' => e = .returned (.bool true) ∧ Ext w w' := by
  subst hqe
  have hll := (Bt.events_small he).1
  have hsm := (Bt.events_small he).2.2
  have HSM : Hid (∀ e ∈ l, e.args.length ≤ 1000) := Lib.hid fun e he => by have := (hsm e he).2.1; omega
  have HTL : Hid (ts.length = l.length) := Lib.hid (Bt.events_small he).2.1
  have HM := Lib.hid hm
  have HE2 := Lib.hid he2
  have HUS := Lib.hid hus
  have HUT := Lib.hid hut
  have HTS := Lib.hid hts
  have HUS2 := Lib.hid hus2
  have HBA := Lib.hid (Ev.ok_wi.1 hba)
  have HBB := Lib.hid (Ev.ok_wi.1 hbb)
  clear hm he2 hsm hus hut hts hus2 hba hbb
  have HE := Lib.hid he
  have HA : Hid (∀ v, Ext (w.alloc (.cells #[.int .i64 g, .int .i64 st, .int .i64 ba, .string bo] 23)) v → C4 w.heap.size g st ba bo v) := Lib.hid fun v hv => C4.of (blk_new w _) hv
  clear he
  go_enter Try.func6, Try.ntmps6
  go_wp2_with fail
  refine (bevents_eq g st ba bo l ts pe _ HE.out _).mono ?_
  rintro r w1 ⟨A, c, A', c', rfl, hev, htv, hx1⟩
  have HX1 := Lib.hid hx1
  have HEV := Lib.hid hev
  have HTV := Lib.hid htv
  clear hev htv hx1
  have HC0 : Hid (Ext (w.alloc (.cells #[.int .i64 g, .int .i64 st, .int .i64 ba, .string bo] 23)) (w1.alloc (.cells #[.int .i64 g, .int .i64 st, .int .i64 ba, .string bo] 23))) := Lib.hid (HX1.out.alloc _)
  have HCS : Hid ((w1.alloc (.cells #[.int .i64 g, .int .i64 st, .int .i64 bb, .string bo] 23)).heap[w1.heap.size]? = some (.cells #[.int .i64 g, .int .i64 st, .int .i64 bb, .string bo] 23 (0, 0))) := Lib.hid (blk_new w1 _)
  have HS : Hid (Ext w1 (w1.alloc (.cells #[.int .i64 g, .int .i64 st, .int .i64 bb, .string bo] 23))) := Lib.hid ((Ext.refl w1).alloc _)
  obtain ⟨a0, a1, a2, a3⟩ := HA.out _ HX1.out
  go_wp2_with fail
  refine (bfixed_yes _).mono ?_
  rintro r w2 ⟨rfl, hx2⟩
  have HX2 := Lib.hid hx2
  clear a0 a1 a2 a3 hx2
  obtain ⟨a0, a1, a2, a3⟩ := HA.out _ (HX1.out.trans (HS.out.trans HX2.out))
  obtain ⟨b0, b1, b2, b3⟩ := C4.of HCS.out HX2.out
  go_wp2_with fail
  refine (bmay_eq g st bb bo true HM.out _).mono ?_
  rintro r w4 ⟨rfl, hx4⟩
  have HX4 := Lib.hid (HX2.out.trans hx4)
  clear a0 a1 a2 a3 b0 b1 b2 b3 hx4
  obtain ⟨b0, b1, b2, b3⟩ := C4.of HCS.out HX4.out
  go_wp2_with fail
  refine (bevents_eq g st bb bo l us 0 0 HE2.out _).mono ?_
  rintro r w5 ⟨A2, c2, A2', c2', rfl, hev, htv, hx5⟩
  have HX5 := Lib.hid (HX4.out.trans hx5)
  have HEV2 := Lib.hid hev
  have HTV2 := Lib.hid htv
  clear b0 b1 b2 b3 hev htv hx5
  have HEV5 : Hid (EvsAt w5 (.slice A l.length c) l) := Lib.hid (HEV.out.ext (HS.out.trans HX5.out))
  have HTV5 : Hid (IntsAt w5 (.slice A' ts.length c') ts) := Lib.hid (HTV.out.ext (HS.out.trans HX5.out))
  have HA5 : Hid (∀ v, Ext w5 v → C4 w.heap.size g st ba bo v) := Lib.hid fun v hv => HA.out v (HX1.out.trans (HS.out.trans (HX5.out.trans hv)))
  have HW5 : Hid (Ext w w5) := Lib.hid (((Ext.refl w).alloc _).trans (HX1.out.trans (HS.out.trans HX5.out)))
  have hb2 : ts.length ≤ 3001 := by have := HTL.out; omega
  go_wp2
  go_loopw [14] (fun i wr => ∃ j : Nat, j ≤ ts.length ∧ i = .int .i64 j ∧ Ext w5 wr) (fun i _ => ts.length - (intOf i).toNat)
  case atStart => exact ⟨0, by omega, rfl, Ext.refl _⟩
  case round =>
    obtain ⟨j, hj, rfl, hx⟩ := hrel
    have HX := Lib.hid hx
    clear hx
    by_cases hlt : j < ts.length
    · have hlt2 : j < us.length := by have := HUS.out; omega
      obtain ⟨A3, c3, hAA, hII⟩ := HTV5.out.ext HX.out
      obtain ⟨b, o, hbo1, hb, hc⟩ := hII (by omega)
      simp only [Value.slice.injEq, true_and] at hAA
      obtain ⟨rfl, rfl⟩ := hAA
      subst hbo1
      have hcell := hc j _ (List.getElem?_eq_getElem hlt)
      obtain ⟨A4, c4, hAA, hII⟩ := HTV2.out.ext HX.out
      obtain ⟨b2, o2, hbo2, hb2, hc2⟩ := hII (by omega)
      simp only [Value.slice.injEq, true_and] at hAA
      obtain ⟨rfl, rfl⟩ := hAA
      subst hbo2
      have hcell2 := hc2 j _ (List.getElem?_eq_getElem hlt2)
      have hd := HUT.out j hlt hlt2
      have k1 := Ev.ok_wi.1 (HTS.out _ (List.getElem_mem hlt))
      have k2 := Ev.ok_wi.1 (HUS2.out _ (List.getElem_mem hlt2))
      have k3 := HBA.out
      have k4 := HBB.out
      unfold Wi.ok at k1 k2 k3 k4
      clear hc hc2 hII
      generalize ts[j] = x at *
      generalize us[j] = y at *
      have s1 : IntKind.i64.wrap (y - x) = bb - ba := by rw [hd]; exact IntWalk.i64_in _ (by omega)
      have s2 : IntKind.i64.wrap (bb - ba) = bb - ba := IntWalk.i64_in _ (by omega)
      have HC1 := Lib.hid hcell
      have HC2 := Lib.hid hcell2
      have HB1 := Lib.hid hb
      have HB2 := Lib.hid hb2
      clear hcell hcell2 hb hb2 k1 k2 k3 k4 hd
      go_wp2
      refine region_all (fun v => Ext wr v) (by kernel_rfl) (Ext.refl _).drew ?_
      have m0 : ∀ v, Ext wr v → v.cell? ⟨b, o + j, none⟩ = some (.int .i64 x) := fun v hv => by rw [Below.cell hv HB1.out]; exact HC1.out
      have m1 : ∀ v, Ext wr v → v.cell? ⟨b2, o2 + j, none⟩ = some (.int .i64 y) := fun v hv => by rw [Below.cell hv HB2.out]; exact HC2.out
      have m2 : ∀ v, Ext wr v → v.cell? ⟨w.heap.size, 2, none⟩ = some (.int .i64 ba) := fun v hv => (HA5.out v (HX.out.trans hv)).2.2.1
      have i0 : (0 : Int) ≤ (j : Int) := by omega
      have i1 : (j : Int) < (ts.length : Int) := by omega
      have i2 : (j : Int) < (us.length : Int) := by omega
      have hnn : ((bb - ba) != (bb - ba)) = false := by simp
      refine all_take (i := 0) (v := ?_) rfl (by kernel_rfl) (by kernel_rfl) (by kernel_rfl) (fun _ _ _ h => h) (Tame.yes (by kernel_rfl) fun w hS => ?_) ?_
      rotate_left 1
      · skip
        go_simp
        try simp only [s1, s2, hnn]
        refine gives_mk ?_ hS
        with_reducible rfl
      refine all_take (i := 1) (v := ?_) rfl (by kernel_rfl) (by kernel_rfl) (by kernel_rfl) (fun _ _ _ h => h) (Tame.yes (by kernel_rfl) fun w hS => ?_) ?_
      rotate_left 1
      · skip
        go_simp
        try simp only [s1, s2, hnn]
        refine gives_mk ?_ hS
        with_reducible rfl
      refine all_take (i := 2) (v := ?_) rfl (by kernel_rfl) (by kernel_rfl) (by kernel_rfl) (fun _ _ _ h => h) (Tame.yes (by kernel_rfl) fun w hS => ?_) ?_
      rotate_left 1
      · skip
        go_simp
        try simp only [s1, s2, hnn]
        refine gives_mk ?_ hS
        with_reducible rfl
      refine all_take (i := 3) (v := ?_) rfl (by kernel_rfl) (by kernel_rfl) (by kernel_rfl) (fun _ _ _ h => h) (Tame.yes (by kernel_rfl) fun w hS => ?_) ?_
      rotate_left 1
      · skip
        go_simp
        try simp only [s1, s2, hnn]
        refine gives_mk ?_ hS
        with_reducible rfl
      refine all_take (i := 4) (v := ?_) rfl (by kernel_rfl) (by kernel_rfl) (by kernel_rfl) (fun _ _ _ h => h) (Tame.yes (by kernel_rfl) fun w hS => ?_) ?_
      rotate_left 1
      · skip
        go_simp
        try simp only [s1, s2, hnn]
        refine gives_mk ?_ hS
        with_reducible rfl
      refine all_take (i := 5) (v := ?_) rfl (by kernel_rfl) (by kernel_rfl) (by kernel_rfl) (fun _ _ _ h => h) (Tame.yes (by kernel_rfl) fun w hS => ?_) ?_
      rotate_left 1
      · skip
        go_simp
        try simp only [s1, s2, hnn]
        refine gives_mk ?_ hS
        with_reducible rfl
      refine all_take (i := 6) (v := ?_) rfl (by kernel_rfl) (by kernel_rfl) (by kernel_rfl) (fun _ _ _ h => h) (Tame.yes (by kernel_rfl) fun w hS => ?_) ?_
      rotate_left 1
      · skip
        go_simp
        try simp only [s1, s2, hnn]
        refine gives_mk ?_ hS
        with_reducible rfl
      refine all_take (i := 7) (v := ?_) rfl (by kernel_rfl) (by kernel_rfl) (by kernel_rfl) (fun _ _ _ h => h) (Tame.yes (by kernel_rfl) fun w hS => ?_) ?_
      rotate_left 1
      · skip
        go_simp
        try simp only [s1, s2, hnn]
        refine gives_mk ?_ hS
        with_reducible rfl
      refine all_take (i := 8) (v := ?_) rfl (by kernel_rfl) (by kernel_rfl) (by kernel_rfl) (fun _ _ _ h => h) (Tame.yes (by kernel_rfl) fun w hS => ?_) ?_
      rotate_left 1
      · skip
        go_simp
        try simp only [s1, s2, hnn]
        refine gives_mk ?_ hS
        with_reducible rfl
      refine all_take (i := 9) (v := ?_) rfl (by kernel_rfl) (by kernel_rfl) (by kernel_rfl) (fun _ _ _ h => h) (Tame.yes (by kernel_rfl) fun w hS => ?_) ?_
      rotate_left 1
      · skip
        go_simp
        try simp only [s1, s2, hnn]
        refine gives_mk ?_ hS
        with_reducible rfl
      refine all_take (i := 10) (v := ?_) rfl (by kernel_rfl) (by kernel_rfl) (by kernel_rfl) (fun _ _ _ h => h) (Tame.yes (by kernel_rfl) fun w hS => ?_) ?_
      rotate_left 1
      · skip
        go_simp
        try simp only [s1, s2, hnn]
        refine gives_mk ?_ hS
        with_reducible rfl
      refine all_take (i := 11) (v := ?_) rfl (by kernel_rfl) (by kernel_rfl) (by kernel_rfl) (fun _ _ _ h => h) (Tame.yes (by kernel_rfl) fun w hS => ?_) ?_
      rotate_left 1
      · skip
        go_simp
        try simp only [s1, s2, hnn]
        refine gives_mk ?_ hS
        with_reducible rfl
      refine all_take (i := 12) (v := ?_) rfl (by kernel_rfl) (by kernel_rfl) (by kernel_rfl) (fun _ _ _ h => h) (Tame.yes (by kernel_rfl) fun w hS => ?_) ?_
      rotate_left 1
      · skip
        go_simp
        try simp only [s1, s2, hnn]
        refine gives_mk ?_ hS
        with_reducible rfl
      refine all_take (i := 13) (v := ?_) rfl (by kernel_rfl) (by kernel_rfl) (by kernel_rfl) (fun _ _ _ h => h) (Tame.yes (by kernel_rfl) fun w hS => ?_) ?_
      rotate_left 1
      · skip
        go_simp
        try simp only [s1, s2, hnn]
        refine gives_mk ?_ hS
        with_reducible rfl
      refine all_done ?_ ?_ _
      · kernel_rfl
      intro w6 hw6
      have HX6 : Hid (Ext w5 w6) := Lib.hid (HX.out.trans hw6)
      clear m0 m1 m2 i0 i1 i2 s1 s2 hnn hw6
      go_simp
      go_wp2
      go_roundw
      case rel => exact ⟨j + 1, by omega, by go_num, HX6.out⟩
      case measure => simp [intOf]; omega
    · obtain rfl : j = ts.length := by omega
      have HUL := HUS
      go_wp2_with fail
      refine (rall_same _ _ l _ (HEV2.out.ext HX.out) (HEV5.out.ext HX.out) HSM.out (by omega)).mono ?_
      rintro r w6 ⟨rfl, hx6⟩
      have hul := HUL.out
      go_wp2
      go_ret
      exact ⟨by simp, HW5.out.trans (HX.out.trans hx6)⟩
theorem walk_BatchBase (b : Bt) (bb : Int) (w : World) (hb : BtIn b) (_ : (Lit.int .i64 bb).wf = true) :
    Calls Try.prog 6 #[b.val, .int .i64 bb] w fun e w' => e = .returned (.bool true) ∧ Ext w w' := by
  obtain ⟨g, st, ba, bo⟩ := b
  rcases he : Bt.events ⟨g, st, ba, bo⟩ with ⟨l, ts, pe, qe⟩
  by_cases h1 : bo.size ≤ 3000
  · by_cases hq : qe = 0
    · cases hm : Bt.may ⟨g, st, bb, bo⟩ with
      | false => exact bbase_out g st ba bo bb w hb.1 l ts pe qe he _ hm (.inr ⟨h1, .inr ⟨hq, rfl⟩⟩)
      | true =>
        have he0 := he
        rw [hq] at he0
        rcases Bt.events_base he0 hm with h2 | ⟨⟨p, h2⟩, h3⟩
        · have hmb : Bt.may ⟨g, st, ba, bo⟩ = true := by
            cases hx : Bt.may ⟨g, st, ba, bo⟩ with
            | true => rfl
            | false => unfold Bt.events at he0; rw [hx] at he0; simp at he0
          have hok : ∀ (ba : Int) (ts : List Int), Bt.may ⟨g, st, ba, bo⟩ = true → (∃ p, Bt.events ⟨g, st, ba, bo⟩ = (l, ts, p, 0)) → (∀ t ∈ ts, Ev.ok t = true) ∧ Ev.ok ba = true := fun ba ts hm ⟨p, he⟩ => by
            refine ⟨?_, (Bt.may_parts hm).2.1 ba (by simp)⟩
            unfold Bt.events at he
            rw [if_pos hm] at he
            have := (Bt.run_times bo (bo.size + 1) ba 0 (by simp only at he; rw [he])).2
            simp only at he
            rw [he] at this
            exact this
          obtain ⟨k1, k2⟩ := hok ba ts hmb ⟨_, he0⟩
          obtain ⟨k3, k4⟩ := hok bb _ hm ⟨_, h2⟩
          exact bbase_ok g st ba bo bb w h1 l ts _ pe qe hq he hm h2 (by simp) (fun j h1 h2 => by simp; omega) k1 k3 k2 k4
        · exact bbase_long g st ba bo bb w h1 l ts pe qe hq he hm p h2 h3
    · exact bbase_out g st ba bo bb w hb.1 l ts pe qe he _ rfl (.inr ⟨h1, .inl hq⟩)
  · exact bbase_out g st ba bo bb w hb.1 l ts pe qe he _ rfl (.inl (by omega))

end Go.Proofs.Ytlbhpgieehallaa
