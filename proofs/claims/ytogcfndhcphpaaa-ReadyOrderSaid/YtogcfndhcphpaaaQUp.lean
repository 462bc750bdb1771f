/-
  The walk of the statement ReadyOrder.
-/
import Derived.Test.YtogcfndhcphpaaaA25
set_option linter.unusedVariables false
set_option linter.unusedSimpArgs false
namespace Go.Proofs.Ytogcfndhcphpaaa
open Go.RowKit
set_option maxRecDepth 100000 in
set_option maxHeartbeats 32000000 in
theorem walk_ReadyOrder (h : StH) (s : St) (p n : Int) (w : World) (hk : StOk w h s) (hi : StIn s) (_ : (Lit.int .i64 p).wf = true) (_ : (Lit.int .i64 n).wf = true) : Calls Try.prog 6 #[stV h s, .int .i64 p, .int .i64 n] w fun e w' => e = .returned (.bool true) ∧ Ext w w' := by
  have HI := Lib.hid hi
  have HK := Lib.hid hk
  obtain ⟨w1, hw1⟩ : ∃ w1, w.alloc (.cells #[.slice h.pa s.prog.length h.pc, .slice h.ga s.gs.length h.gc, .slice h.qa s.ps.length h.qc, .slice h.ma s.ms.length h.mc, .slice h.la s.glob.length h.lc, .int .i64 s.c0, .int .i64 s.c1, .int .i64 s.c2, .int .i64 s.c3, .slice h.a0 s.w0.length h.k0, .slice h.a1 s.w1.length h.k1, .slice h.a2 s.w2.length h.k2, .slice h.a3 s.w3.length h.k3, .slice h.ta s.timers.length h.tc, .int .i64 s.clock, .int .i64 s.procs] 32) = w1 := ⟨_, rfl⟩
  have HX1 : Hid (Ext w w1) := Lib.hid (by rw [← hw1]; exact (Ext.refl w).alloc _)
  have HB1 : Hid (w1.heap[w.heap.size]? = some (.cells (stC h s) 32 (0, 0))) := Lib.hid (by rw [← hw1]; exact blk_new w _)
  have HK1 := Lib.hid (hk.ext HX1.out)
  have HW1 := Lib.hid hw1
  clear hw1 hk
  clear hi
  unfold stV
  go_enter Try.func6, Try.ntmps6
  go_upto_region 1 with fail
  rw [HW1.out]
  generalize Value.agg #[.slice h.pa s.prog.length h.pc, .slice h.ga s.gs.length h.gc, .slice h.qa s.ps.length h.qc, .slice h.ma s.ms.length h.mc, .slice h.la s.glob.length h.lc, .int .i64 s.c0, .int .i64 s.c1, .int .i64 s.c2, .int .i64 s.c3, .slice h.a0 s.w0.length h.k0, .slice h.a1 s.w1.length h.k1, .slice h.a2 s.w2.length h.k2, .slice h.a3 s.w3.length h.k3, .slice h.ta s.timers.length h.tc, .int .i64 s.clock, .int .i64 s.procs] = sv0
  obtain ⟨W0, hW0⟩ : ∃ W0, w.heap.size = W0 := ⟨_, rfl⟩
  rw [hW0] at HB1
  rw [hW0]
  have HW0 := Lib.hid hW0
  clear hW0
  go_wp2_with fail
  refine (rfixed_yes w1).mono ?_
  rintro e w2 ⟨rfl, hx2⟩
  have HX2 := Lib.hid hx2
  have HLD := Lib.hid (hx2.blk HB1.out)
  clear hx2
  go_wp2_with (refine wpList_load_rowW (by rfl) 32 _ rfl W0 (by go_simp) (stL h s) (stV h s) rfl _ (range_row HLD.out) Try.underlying32 rfl (by kernel_rfl) ?_)
  refine (rstsmall_any h s _ rfl w2 (HK1.out.ext HX2.out) HI.out).mono ?_
  rintro e w3 ⟨rfl, hx3⟩
  have HX4 := Lib.hid (HX2.out.trans hx3)
  clear hx3 HLD
  cases bs : s.small with
  | false =>
    go_wp2_with fail
    refine (rfixed_yes _).mono ?_
    rintro e w9 ⟨rfl, hx9⟩
    have HX9 := Lib.hid (HX1.out.trans (HX4.out.trans hx9))
    clear hx9
    go_wp2
    go_ret
    exact ⟨rfl, HX9.out⟩
  | true =>
  have HF := Lib.hid (St.small_few bs HI.out)
  have HSM := Lib.hid bs
  have HGL := Lib.hid (St.small_glob bs)
  have HLD := Lib.hid (HX4.out.blk HB1.out)
  clear bs
  go_wp2_with (refine wpList_load_rowW (by rfl) 32 _ rfl W0 (by go_simp) (stL h s) (stV h s) rfl _ (range_row HLD.out) Try.underlying32 rfl (by kernel_rfl) ?_)
  refine (rstmay_any h s _ rfl w3 (HK1.out.ext HX4.out) HF.out).mono ?_
  rintro e w4 ⟨rfl, hx4⟩
  have HX5 := Lib.hid (HX4.out.trans hx4)
  clear hx4 HLD HX4
  have HX4 := Lib.hid HX5.out
  clear HX5
  cases bm : s.may with
  | false =>
    go_wp2_with fail
    refine (rfixed_yes _).mono ?_
    rintro e w9 ⟨rfl, hx9⟩
    have HX9 := Lib.hid (HX1.out.trans (HX4.out.trans hx9))
    clear hx9
    go_wp2
    go_ret
    exact ⟨rfl, HX9.out⟩
  | true =>
  have HM := Lib.hid bm
  clear bm
  go_upto_if 25 with fail
  have HLD := Lib.hid (HX4.out.blk HB1.out)
  go_wp2_with (refine wpList_load_rowW (by rfl) 32 _ rfl W0 (by go_simp) (stL h s) (stV h s) rfl _ (range_row HLD.out) Try.underlying32 rfl (by kernel_rfl) ?_)
  rcases St.wake_cases s p n with hw | ⟨i, k, x, x', y, sa, hpi, hnk, hx, hyk, hw, hl1, hl2, hx', hnx, hya⟩
  · refine (rdWake_any h s p n _ hw w4 (HK1.out.ext HX4.out) HF.out).mono ?_
    rintro e wx ⟨ha, rfl, -, hxx⟩
    simp only
    have HXX := Lib.hid (HX4.out.trans hxx)
    obtain ⟨wb4, wc4, hwb, hwc, hth, hbc, hxc⟩ := st_box wx ha St.nil
    obtain ⟨B4, hB⟩ : ∃ B4, wx.heap.size = B4 := ⟨_, rfl⟩
    rw [hB] at hwc hth hbc
    have HWB4 := Lib.hid hwb
    have HB4 := Lib.hid hB
    have HWC4 := Lib.hid hwc
    have HTH4 := Lib.hid hth
    have HBS4 := Lib.hid hbc
    have HXC4 := Lib.hid hxc
    clear hwb hwc hth hbc hxc hB
    clear hxx HLD hw
    go_upto_region 4 with (first | rw [HWB4.out, HB4.out] | (refine wpList_store_row rfl 32 _ _ rfl B4 (stL ha St.nil) (stV ha St.nil) (by go_simp) (by go_simp) rfl HTH4.out (by kernel_rfl) (stL_one _ _) HWC4.out ?_))
    refine region_rgx ([]) (wc4) (by kernel_rfl) (by kernel_rfl) ?_ ?_ ?_
    · exact List.forall_mem_nil _
    · first | assumption | exact Ext.refl _
    refine rg_pure (v := ?_) rfl (by kernel_rfl) (by kernel_rfl) (fun w hS hN => ?_) ?_
    rotate_left 1
    · clear hN
      go_simp
      refine givesP_mk ?_
      with_reducible rfl
    refine rg_pure (v := ?_) rfl (by kernel_rfl) (by kernel_rfl) (fun w hS hN => ?_) ?_
    rotate_left 1
    · clear hN
      go_simp
      refine givesP_mk ?_
      with_reducible rfl
    refine rg_pure (v := ?_) rfl (by kernel_rfl) (by kernel_rfl) (fun w hS hN => ?_) ?_
    rotate_left 1
    · clear hN
      go_simp
      refine givesP_mk ?_
      with_reducible rfl
    refine rg_no rfl (by kernel_rfl) (by kernel_rfl) ?_
    refine rg_no rfl (by kernel_rfl) (by kernel_rfl) ?_
    refine rg_no rfl (by kernel_rfl) (by kernel_rfl) ?_
    refine rg_no rfl (by kernel_rfl) (by kernel_rfl) ?_
    refine rg_no rfl (by kernel_rfl) (by kernel_rfl) ?_
    refine rg_no rfl (by kernel_rfl) (by kernel_rfl) ?_
    refine rg_no rfl (by kernel_rfl) (by kernel_rfl) ?_
    refine rg_no rfl (by kernel_rfl) (by kernel_rfl) ?_
    refine rg_no rfl (by kernel_rfl) (by kernel_rfl) ?_
    refine rg_no rfl (by kernel_rfl) (by kernel_rfl) ?_
    refine rg_no rfl (by kernel_rfl) (by kernel_rfl) ?_
    refine rg_no rfl (by kernel_rfl) (by kernel_rfl) ?_
    refine rg_no rfl (by kernel_rfl) (by kernel_rfl) ?_
    refine rg_no rfl (by kernel_rfl) (by kernel_rfl) ?_
    refine rg_no rfl (by kernel_rfl) (by kernel_rfl) ?_
    refine rg_no rfl (by kernel_rfl) (by kernel_rfl) ?_
    refine rg_no rfl (by kernel_rfl) (by kernel_rfl) ?_
    refine rg_no rfl (by kernel_rfl) (by kernel_rfl) ?_
    refine rg_no rfl (by kernel_rfl) (by kernel_rfl) ?_
    refine rg_no rfl (by kernel_rfl) (by kernel_rfl) ?_
    refine rg_no rfl (by kernel_rfl) (by kernel_rfl) ?_
    refine rg_no rfl (by kernel_rfl) (by kernel_rfl) ?_
    refine rg_no rfl (by kernel_rfl) (by kernel_rfl) ?_
    refine rg_no rfl (by kernel_rfl) (by kernel_rfl) ?_
    refine rg_no rfl (by kernel_rfl) (by kernel_rfl) ?_
    refine rg_no rfl (by kernel_rfl) (by kernel_rfl) ?_
    refine rg_no rfl (by kernel_rfl) (by kernel_rfl) ?_
    refine rg_no rfl (by kernel_rfl) (by kernel_rfl) ?_
    refine rg_no rfl (by kernel_rfl) (by kernel_rfl) ?_
    refine rg_no rfl (by kernel_rfl) (by kernel_rfl) ?_
    refine rg_no rfl (by kernel_rfl) (by kernel_rfl) ?_
    refine rg_no rfl (by kernel_rfl) (by kernel_rfl) ?_
    refine rg_no rfl (by kernel_rfl) (by kernel_rfl) ?_
    refine rg_no rfl (by kernel_rfl) (by kernel_rfl) ?_
    refine rg_pure (v := ?_) rfl (by kernel_rfl) (by kernel_rfl) (fun w hS hN => ?_) ?_
    rotate_left 1
    · clear hN
      go_simp
      refine givesP_mk ?_
      with_reducible rfl
    refine rg_done rfl (Nat.le_of_ble_eq_true (by kernel_rfl)) ?_
    intro wz hS hT
    have XZ := Lib.hid (HXX.out.trans (HXC4.out.trans hS))
    clear hT hS
    go_simp
    go_upto_region 6 with fail
    have HLD := Lib.hid (XZ.out.blk HB1.out)
    go_wp2_with (refine wpList_load_rowW (by rfl) 32 _ rfl W0 (by go_simp) (stL h s) (stV h s) rfl _ (range_row HLD.out) Try.underlying32 rfl (by kernel_rfl) ?_)
    rcases St.yield_cases s n with hy | ⟨j, k, mp, y, sb, hnj, hmj, hyk, hy, hgl, hmb, hml⟩
    · refine (rdYield_any h s n _ hy wz (HK1.out.ext XZ.out) HF.out).mono ?_
      rintro e wx ⟨hb, rfl, -, hxx⟩
      simp only
      have HXX := Lib.hid (XZ.out.trans hxx)
      obtain ⟨wb5, wc5, hwb, hwc, hth, hbc, hxc⟩ := st_box wx hb St.nil
      obtain ⟨B5, hB⟩ : ∃ B5, wx.heap.size = B5 := ⟨_, rfl⟩
      rw [hB] at hwc hth hbc
      have HWB5 := Lib.hid hwb
      have HB5 := Lib.hid hB
      have HWC5 := Lib.hid hwc
      have HTH5 := Lib.hid hth
      have HBS5 := Lib.hid hbc
      have HXC5 := Lib.hid hxc
      clear hwb hwc hth hbc hxc hB
      clear hxx HLD hy
      have XY := Lib.hid (HXX.out.trans HXC5.out)
      go_upto_region 11 with (first | rw [HWB5.out, HB5.out] | (refine wpList_store_row rfl 32 _ _ rfl B5 (stL hb St.nil) (stV hb St.nil) (by go_simp) (by go_simp) rfl HTH5.out (by kernel_rfl) (stL_one _ _) HWC5.out ?_))
      have HLD := Lib.hid (XY.out.blk HB1.out)
      go_wp2_with (refine wpList_load_rowW (by rfl) 32 _ rfl W0 (by go_simp) (stL h s) (stV h s) rfl _ (range_row HLD.out) Try.underlying32 rfl (by kernel_rfl) ?_)
      rcases St.drain_cases s p with hd | ⟨i, x, hpi, hm, hpp, hx, hd⟩
      · refine (rdDrain_any h s p _ hd wc5 (HK1.out.ext XY.out) HF.out).mono ?_
        rintro e wx ⟨hc, rfl, -, hxx⟩
        simp only
        have HXX := Lib.hid (XY.out.trans hxx)
        obtain ⟨wb7, wc7, hwb, hwc, hth, hbc, hxc⟩ := st_box wx hc St.nil
        obtain ⟨B7, hB⟩ : ∃ B7, wx.heap.size = B7 := ⟨_, rfl⟩
        rw [hB] at hwc hth hbc
        have HWB7 := Lib.hid hwb
        have HB7 := Lib.hid hB
        have HWC7 := Lib.hid hwc
        have HTH7 := Lib.hid hth
        have HBS7 := Lib.hid hbc
        have HXC7 := Lib.hid hxc
        clear hwb hwc hth hbc hxc hB
        clear hxx HLD
        have HEND := Lib.hid (HX1.out.trans (HXX.out.trans HXC7.out))
        go_wp2_with (first | rw [HWB7.out, HB7.out] | (refine wpList_store_row rfl 32 _ _ rfl B7 (stL hc St.nil) (stV hc St.nil) (by go_simp) (by go_simp) rfl HTH7.out (by kernel_rfl) (stL_one _ _) HWC7.out ?_))
        go_ret
        exact ⟨rfl, HEND.out⟩
      · refine (rdDrain_any h s p _ hd wc5 (HK1.out.ext XY.out) HF.out).mono ?_
        rintro e wx ⟨hc, rfl, ⟨I, hap⟩, hxx⟩
        simp only at hap ⊢
        have hkb := St.dried_buf (i := i) (x := x) HK1.out.buf
        have HPI := Lib.hid hpi
        have HQS : Hid (s.queue p = St.queueOf x) := Lib.hid (by rw [hpi]; exact St.queue_yes hpp.2 hm hx)
        obtain ⟨sc, hsc⟩ : ∃ sc, s.dried i x = sc := ⟨_, rfl⟩
        have HQC : Hid (sc.queue p = []) := Lib.hid (by rw [← hsc, hpi]; exact queue_dry hm hpp hx)
        have HFC : Hid (StFew sc) := Lib.hid (by rw [← hsc]; exact St.dried_few HF.out HGL.out)
        have HGC : Hid (sc.glob = s.glob ++ St.queueOf x) := Lib.hid (by rw [← hsc]; rfl)
        have HQL := Lib.hid (queueOf_len x)
        rw [hsc] at hap hkb ⊢
        have HKC := Lib.hid (hap.ok hkb)
        have HXX := Lib.hid (XY.out.trans hxx)
        obtain ⟨wb8, wc8, hwb, hwc, hth, hbc, hxc⟩ := st_box wx hc sc
        obtain ⟨B8, hB⟩ : ∃ B8, wx.heap.size = B8 := ⟨_, rfl⟩
        rw [hB] at hwc hth hbc
        have HWB8 := Lib.hid hwb
        have HB8 := Lib.hid hB
        have HWC8 := Lib.hid hwc
        have HTH8 := Lib.hid hth
        have HBS8 := Lib.hid hbc
        have HXC8 := Lib.hid hxc
        clear hwb hwc hth hbc hxc hB
        clear hap hkb hpi hm hpp hx hd hsc hxx HLD
        go_upto_region 14 with (first | rw [HWB8.out, HB8.out] | (refine wpList_store_row rfl 32 _ _ rfl B8 (stL hc sc) (stV hc sc) (by go_simp) (by go_simp) rfl HTH8.out (by kernel_rfl) (stL_one _ _) HWC8.out ?_))
        have XE : Hid (Ext w1 wc8) := Lib.hid (HXX.out.trans HXC8.out)
        have KC := Lib.hid (HKC.out.ext HXC8.out)
        have KS := Lib.hid (HK1.out.ext XE.out)
        have BS := Lib.hid (XE.out.blk HB1.out)
        have HCL : Hid (sc.glob.length = s.glob.length + (St.queueOf x).length) := Lib.hid (by rw [HGC.out, List.length_append])
        have HSS : Hid (s.glob.length + (St.queueOf x).length ≤ 100) := Lib.hid (by have := HGL.out; have := HQL.out; omega)
        have K7 : Hid (∀ v, Ext wc8 v → v.cell? ⟨B8, 4, none⟩ = some (.slice hc.la (s.glob.length + (St.queueOf x).length) hc.lc)) := Lib.hid fun v hv => by have := st4 (hv.blk HBS8.out); rw [HCL.out] at this; exact this
        have K10 : Hid (∀ v, Ext wc8 v → v.cell? ⟨W0, 4, none⟩ = some (.slice h.la s.glob.length h.lc)) := Lib.hid fun v hv => st4 (hv.blk BS.out)
        refine region_rgw ([(2, (fun u => ∃ A c, u = .slice A 0 c : Value → Prop), (fun _ _ => True : (Nat → GV) → World → Prop)), (8, (fun u => ∃ g, u = .slice (some ⟨g, 0, none⟩) 0 0 : Value → Prop), (fun u w => OwnG wc8 w (u 8).v [] [u 8] : (Nat → GV) → World → Prop)), (11, (fun u => ∃ A c, u = .slice A s.glob.length c : Value → Prop), (fun u w => OwnG wc8 w (u 11).v s.glob [u 11, u 8] : (Nat → GV) → World → Prop)), (14, (fun u => ∃ A c, u = .slice A (St.queueOf x).length c : Value → Prop), (fun u w => OwnG wc8 w (u 14).v (St.queueOf x) [u 14] : (Nat → GV) → World → Prop)), (15, (fun u => ∃ A c, u = .slice A (s.glob.length + (St.queueOf x).length) c : Value → Prop), (fun u w => OwnG wc8 w (u 15).v (s.glob ++ St.queueOf x) [u 15, u 11, u 8] : (Nat → GV) → World → Prop)), (16, (fun u => u = .bool true : Value → Prop), (fun _ _ => True : (Nat → GV) → World → Prop))]) (wc8) ([(11, 0, [8]), (15, s.glob.length, [11, 8])]) (by kernel_rfl) (by kernel_rfl) ?_ ?_ ?_ ?_
        · exact List.forall_mem_cons.2 ⟨List.forall_mem_cons.2 ⟨by kernel_rfl, List.forall_mem_nil _⟩, List.forall_mem_cons.2 ⟨List.forall_mem_cons.2 ⟨by kernel_rfl, List.forall_mem_cons.2 ⟨by kernel_rfl, List.forall_mem_nil _⟩⟩, List.forall_mem_nil _⟩⟩
        · exact List.forall_mem_cons.2 ⟨⟨⟨_, none, 0, rfl⟩, fun _ _ _ _ _ => trivial, fun _ _ _ _ _ => trivial, List.forall_mem_cons.2 ⟨fun _ _ _ _ _ _ _ _ _ => trivial, List.forall_mem_cons.2 ⟨fun _ _ _ _ _ _ _ _ _ => trivial, List.forall_mem_nil _⟩⟩⟩, List.forall_mem_cons.2 ⟨⟨⟨_, 0, rfl⟩, fun u v w h ht => by show (fun u w => OwnG wc8 w (u 8).v [] [u 8] : (Nat → GV) → World → Prop) v w; dsimp only; rw [← h 8 (.inl rfl) (by kernel_rfl)]; exact ht, fun u w w2 hx ht => ht.ext hx, List.forall_mem_cons.2 ⟨fun _ hp => by first | (intro u w w2 hap haq hc ht; refine ht.chg hc ?_; simp; done) | exact rg_vac hp (by kernel_rfl), List.forall_mem_cons.2 ⟨fun _ hp => by first | (intro u w w2 hap haq hc ht; refine ht.chg hc ?_; simp; done) | exact rg_vac hp (by kernel_rfl), List.forall_mem_nil _⟩⟩⟩, List.forall_mem_cons.2 ⟨⟨⟨_, none, 0, rfl⟩, fun u v w h ht => by show (fun u w => OwnG wc8 w (u 11).v s.glob [u 11, u 8] : (Nat → GV) → World → Prop) v w; dsimp only; rw [← h 11 (.inl rfl) (by kernel_rfl), ← h 8 (.inr (by kernel_rfl)) (by kernel_rfl)]; exact ht, fun u w w2 hx ht => ht.ext hx, List.forall_mem_cons.2 ⟨fun hne => absurd rfl hne, List.forall_mem_cons.2 ⟨fun _ hp => by first | (intro u w w2 hap haq hc ht; refine ht.chg hc ?_; simp; done) | exact rg_vac hp (by kernel_rfl), List.forall_mem_nil _⟩⟩⟩, List.forall_mem_cons.2 ⟨⟨⟨_, none, 0, rfl⟩, fun u v w h ht => by show (fun u w => OwnG wc8 w (u 14).v (St.queueOf x) [u 14] : (Nat → GV) → World → Prop) v w; dsimp only; rw [← h 14 (.inl rfl) (by kernel_rfl)]; exact ht, fun u w w2 hx ht => ht.ext hx, List.forall_mem_cons.2 ⟨fun _ hp => by first | (intro u w w2 hap haq hc ht; (refine ht.far hc ?_; simpa using hap); done) | exact rg_vac hp (by kernel_rfl), List.forall_mem_cons.2 ⟨fun _ hp => by first | (intro u w w2 hap haq hc ht; (refine ht.far hc ?_; simpa using hap); done) | exact rg_vac hp (by kernel_rfl), List.forall_mem_nil _⟩⟩⟩, List.forall_mem_cons.2 ⟨⟨⟨_, none, 0, rfl⟩, fun u v w h ht => by show (fun u w => OwnG wc8 w (u 15).v (s.glob ++ St.queueOf x) [u 15, u 11, u 8] : (Nat → GV) → World → Prop) v w; dsimp only; rw [← h 15 (.inl rfl) (by kernel_rfl), ← h 11 (.inr (by kernel_rfl)) (by kernel_rfl), ← h 8 (.inr (by kernel_rfl)) (by kernel_rfl)]; exact ht, fun u w w2 hx ht => ht.ext hx, List.forall_mem_cons.2 ⟨fun _ hp => by first | (intro u w w2 hap haq hc ht; refine ht.chg hc ?_; simp; done) | exact rg_vac hp (by kernel_rfl), List.forall_mem_cons.2 ⟨fun hne => absurd rfl hne, List.forall_mem_nil _⟩⟩⟩, List.forall_mem_cons.2 ⟨⟨⟨_, rfl⟩, fun _ _ _ _ _ => trivial, fun _ _ _ _ _ => trivial, List.forall_mem_cons.2 ⟨fun _ _ _ _ _ _ _ _ _ => trivial, List.forall_mem_cons.2 ⟨fun _ _ _ _ _ _ _ _ _ => trivial, List.forall_mem_nil _⟩⟩⟩, List.forall_mem_nil _⟩⟩⟩⟩⟩⟩
        · first | assumption | exact Ext.refl _
        refine rg_pure (v := stV hc sc) rfl (by kernel_rfl) (by kernel_rfl) (fun w hS hN => ?_) ?_
        · clear hN
          exact givesP_load 32 _ rfl _ (by go_simp) (stL hc sc) _ rfl _ (range_row (hS.blk HBS8.out)) Try.underlying32 rfl (by kernel_rfl)
        refine rg_pure (v := ?_) rfl (by kernel_rfl) (by kernel_rfl) (fun w hS hN => ?_) ?_
        rotate_left 1
        · clear hN
          go_simp
          refine givesP_mk ?_
          with_reducible rfl
        refine rg_mem (fun u => ∃ A c, u = .slice A 0 c : Value → Prop) (fun _ _ => True : (Nat → GV) → World → Prop) (fun _ => Ext) rfl rfl rfl rfl (by kernel_rfl) (by kernel_rfl) (fun w hS hN R hR => ?_) ?_
        · have HR := Lib.hid hR
          clear hR
          (try clear hN)
          go_simp
          refine givesM_call ((rQueue_any hc sc p [] HQC.out w (KC.out.ext hS) HFC.out).mono ?_)
          rintro e w' ⟨A, c, rfl, -, hx⟩
          exact ⟨_, rfl, HR.out _ _ ⟨A, c, rfl⟩ trivial hx⟩
        rintro u2 s2 t2 ⟨A2, c2, rfl⟩
        refine rg_pure (v := ?_) rfl (by kernel_rfl) (by kernel_rfl) (fun w hS hN => ?_) ?_
        rotate_left 1
        · clear hN
          go_simp
          refine givesP_mk ?_
          with_reducible rfl
        refine rg_pure (v := ?_) rfl (by kernel_rfl) (by kernel_rfl) (fun w hS hN => ?_) ?_
        rotate_left 1
        · clear hN
          go_simp
          refine givesP_mk ?_
          with_reducible rfl
        refine rg_pure (v := ?_) rfl (by kernel_rfl) (by kernel_rfl) (fun w hS hN => ?_) ?_
        rotate_left 1
        · clear hN
          go_simp
          refine givesP_mk ?_
          with_reducible rfl
        refine rg_pure (v := ?_) rfl (by kernel_rfl) (by kernel_rfl) (fun w hS hN => ?_) ?_
        rotate_left 1
        · clear hN
          go_simp
          refine givesP_mk ?_
          with_reducible rfl
        refine rg_pure (v := ?_) rfl (by kernel_rfl) (by kernel_rfl) (fun w hS hN => ?_) ?_
        rotate_left 1
        · have k7 := K7.out w hS
          clear hN
          go_simp
          refine givesP_mk ?_
          with_reducible rfl
        refine rg_mem (fun u => ∃ g, u = .slice (some ⟨g, 0, none⟩) 0 0 : Value → Prop) (fun u w => OwnG wc8 w (u 8).v [] [u 8] : (Nat → GV) → World → Prop) (fun _ => Ext) rfl rfl rfl rfl (by kernel_rfl) (by kernel_rfl) (fun w hS hN R hR => ?_) ?_
        · have HR := Lib.hid hR
          clear hR
          (try clear hN)
          go_simp
          exact givesM_val (HR.out _ _ ⟨_, rfl⟩ (OwnG.made hS _) ((Ext.refl w).alloc _))
        rintro u8 s8 t8 ⟨g8, rfl⟩
        refine rg_pure (v := ?_) rfl (by kernel_rfl) (by kernel_rfl) (fun w hS hN => ?_) ?_
        rotate_left 1
        · clear hN
          go_simp
          refine givesP_mk ?_
          with_reducible rfl
        refine rg_pure (v := ?_) rfl (by kernel_rfl) (by kernel_rfl) (fun w hS hN => ?_) ?_
        rotate_left 1
        · have k10 := K10.out w hS
          clear hN
          go_simp
          refine givesP_mk ?_
          with_reducible rfl
        refine rg_mem (fun u => ∃ A c, u = .slice A s.glob.length c : Value → Prop) (fun u w => OwnG wc8 w (u 11).v s.glob [u 11, u 8] : (Nat → GV) → World → Prop) (fun u => ChgIn (wc8) (0) ([8].map u)) rfl rfl rfl rfl (by kernel_rfl) (by kernel_rfl) (fun w hS hN R hR => ?_) ?_
        · have HR := Lib.hid hR
          clear hR
          have h3 : OwnG wc8 w (.slice (some ⟨g8, 0, none⟩) 0 0) [] _ := hN.get 8 rfl (by kernel_rfl)
          have hgl := HGL.out
          obtain ⟨u', w', hr, ⟨A', c', rfl⟩, ho, hin, hc⟩ := OwnInts.append_chg 27 hS h3.1 h3.2 ((KS.out.ext hS).glob) (by simp; omega)
          simp only [List.length_nil, Nat.zero_add, List.nil_append] at hr ho hin hc
          refine givesM_append _ _ 27 rfl _ _ (by go_simp) (by go_simp) hr ?_
          exact HR.out _ _ ⟨_, _, rfl⟩ ⟨ho, hin⟩ hc
        rintro u11 s11 t11 ⟨A11, c11, rfl⟩
        refine rg_pure (v := stV h s) rfl (by kernel_rfl) (by kernel_rfl) (fun w hS hN => ?_) ?_
        · clear hN
          exact givesP_load 32 _ rfl _ (by go_simp) (stL h s) _ rfl _ (range_row (hS.blk BS.out)) Try.underlying32 rfl (by kernel_rfl)
        refine rg_pure (v := ?_) rfl (by kernel_rfl) (by kernel_rfl) (fun w hS hN => ?_) ?_
        rotate_left 1
        · clear hN
          go_simp
          refine givesP_mk ?_
          with_reducible rfl
        refine rg_mem (fun u => ∃ A c, u = .slice A (St.queueOf x).length c : Value → Prop) (fun u w => OwnG wc8 w (u 14).v (St.queueOf x) [u 14] : (Nat → GV) → World → Prop) (fun _ => Ext) rfl rfl rfl rfl (by kernel_rfl) (by kernel_rfl) (fun w hS hN R hR => ?_) ?_
        · have HR := Lib.hid hR
          clear hR
          (try clear hN)
          go_simp
          refine givesM_call ((rQueue_any h s p _ HQS.out w (KS.out.ext hS) HF.out).mono ?_)
          rintro e w' ⟨A, c, rfl, ho, hx⟩
          exact ⟨_, rfl, HR.out _ _ ⟨_, _, rfl⟩ ⟨OwnInts.lower ho hS.size, InB.of_lt fun k hk => World.ownsRow.lt ho k hk⟩ hx⟩
        rintro u14 s14 t14 ⟨A14, c14, rfl⟩
        refine rg_mem (fun u => ∃ A c, u = .slice A (s.glob.length + (St.queueOf x).length) c : Value → Prop) (fun u w => OwnG wc8 w (u 15).v (s.glob ++ St.queueOf x) [u 15, u 11, u 8] : (Nat → GV) → World → Prop) (fun u => ChgIn (wc8) (s.glob.length) ([11, 8].map u)) rfl rfl rfl rfl (by kernel_rfl) (by kernel_rfl) (fun w hS hN R hR => ?_) ?_
        · have HR := Lib.hid hR
          clear hR
          have h5 : OwnG wc8 w (.slice A11 s.glob.length c11) s.glob _ := hN.get 11 rfl (by kernel_rfl)
          have h14 : OwnG wc8 w (.slice A14 (St.queueOf x).length c14) (St.queueOf x) _ := hN.get 14 rfl (by kernel_rfl)
          have hss := HSS.out
          obtain ⟨u', w', hr, ⟨A', c', rfl⟩, ho, hin, hc⟩ := OwnInts.append_chg 27 hS h5.1 h5.2 h14.ints (by omega)
          refine givesM_append _ _ 27 rfl _ _ (by go_simp) (by go_simp) hr ?_
          exact HR.out _ _ ⟨_, _, rfl⟩ ⟨ho, hin⟩ hc
        rintro u15 s15 t15 ⟨A15, c15, rfl⟩
        refine rg_mem (fun u => u = .bool true : Value → Prop) (fun _ _ => True : (Nat → GV) → World → Prop) (fun _ => Ext) rfl rfl rfl rfl (by kernel_rfl) (by kernel_rfl) (fun w hS hN R hR => ?_) ?_
        · have HR := Lib.hid hR
          clear hR
          have h7 : OwnG wc8 w (.slice A15 (s.glob.length + (St.queueOf x).length) c15) (s.glob ++ St.queueOf x) _ := hN.get 15 rfl (by kernel_rfl)
          (try clear hN)
          go_simp
          have i7 := h7.ints
          rw [List.length_append] at i7
          have ig := (KC.out.ext hS).glob
          rw [HGC.out, List.length_append] at ig
          have hss := HSS.out
          refine givesM_call ((rints_self' _ _ (s.glob ++ St.queueOf x) w ig i7 (by rw [List.length_append]; omega)).mono ?_)
          rintro e w' ⟨rfl, hx⟩
          exact ⟨_, rfl, HR.out _ _ rfl trivial hx⟩
        rintro u16 s16 t16 rfl
        refine rg_pure (v := ?_) rfl (by kernel_rfl) (by kernel_rfl) (fun w hS hN => ?_) ?_
        rotate_left 1
        · clear hN
          go_simp
          refine givesP_mk ?_
          with_reducible rfl
        refine rg_pure (v := ?_) rfl (by kernel_rfl) (by kernel_rfl) (fun w hS hN => ?_) ?_
        rotate_left 1
        · clear hN
          go_simp
          refine givesP_mk ?_
          with_reducible rfl
        refine rg_done rfl (Nat.le_of_ble_eq_true (by kernel_rfl)) ?_
        intro w8 hS hT
        have HS := Lib.hid (HX1.out.trans (XE.out.trans hS))
        clear hT hS
        go_simp
        go_wp2
        go_ret
        exact ⟨rfl, HS.out⟩
    · refine (rdYield_any h s n _ hy wz (HK1.out.ext XZ.out) HF.out).mono ?_
      rintro e wx ⟨hb, rfl, ⟨I, hap⟩, hxx⟩
      simp only at hap ⊢
      have HXX := Lib.hid (XZ.out.trans hxx)
      obtain ⟨wb5, wc5, hwb, hwc, hth, hbc, hxc⟩ := st_box wx hb sb
      obtain ⟨B5, hB⟩ : ∃ B5, wx.heap.size = B5 := ⟨_, rfl⟩
      rw [hB] at hwc hth hbc
      have HWB5 := Lib.hid hwb
      have HB5 := Lib.hid hB
      have HWC5 := Lib.hid hwc
      have HTH5 := Lib.hid hth
      have HBS5 := Lib.hid hbc
      have HXC5 := Lib.hid hxc
      clear hwb hwc hth hbc hxc hB
      have X5 : Hid (Ext w1 wc5) := Lib.hid (HXX.out.trans HXC5.out)
      have hjl := (List.getElem?_eq_some_iff.1 hmj).1
      have hgi : IntsAt wc5 (.slice hb.la (s.glob.length + 1) hb.lc) (s.glob ++ [(k : Int) + 1]) := by have := (hap.glob.1.at.2).ext HXC5.out; rw [hgl, List.length_append] at this; exact this
      obtain ⟨bl, ol, hbl, hblt, hblc⟩ := ints_get hgi (k := s.glob.length) (x := (k : Int) + 1) (by simp)
      obtain ⟨bm, om, hbm, hbmt, hbmc⟩ := ((OwnRows.rows pairL_len hap.ms.1).ext HXC5.out).get hmb
      obtain ⟨bn, on, hbn, hbnt, hbnc⟩ := ((HK1.out.ext X5.out).ms).get hmj
      have KB4 : Hid (∀ v, Ext wc5 v → v.cell? ⟨B5, 4, none⟩ = some (.slice (some ⟨bl, ol, none⟩) (s.glob.length + 1) hb.lc)) := Lib.hid fun v hv => by have := st4 (hv.blk HBS5.out); rw [hgl, hbl, List.length_append] at this; exact this
      have KS4 : Hid (∀ v, Ext wc5 v → v.cell? ⟨W0, 4, none⟩ = some (.slice h.la s.glob.length h.lc)) := Lib.hid fun v hv => st4 (hv.blk (X5.out.blk HB1.out))
      have KB15 : Hid (∀ v, Ext wc5 v → v.cell? ⟨bl, ol + s.glob.length, none⟩ = some (.int .i64 ((k : Int) + 1))) := Lib.hid fun v hv => by rw [Below.cell (p := ⟨bl, ol + s.glob.length, none⟩) hv hblt]; exact hblc
      have KB3 : Hid (∀ v, Ext wc5 v → v.cell? ⟨B5, 3, none⟩ = some (.slice (some ⟨bm, om, none⟩) s.ms.length hb.mc)) := Lib.hid fun v hv => by have := st3 (hv.blk HBS5.out); rw [hml, hbm] at this; exact this
      have KB26 : Hid (∀ v, Ext wc5 v → v.cell? ⟨bm, om + j * 2 + 1, none⟩ = some (.int .i64 0)) := Lib.hid fun v hv => by rw [Below.cell (p := ⟨bm, om + j * 2 + 1, none⟩) hv hbmt]; exact hbmc 1 _ rfl
      have KB36 : Hid (∀ v, Ext wc5 v → v.cell? ⟨bm, om + j * 2, none⟩ = some (.int .i64 mp)) := Lib.hid fun v hv => by rw [Below.cell (p := ⟨bm, om + j * 2, none⟩) hv hbmt]; exact hbmc 0 _ rfl
      have KS3 : Hid (∀ v, Ext wc5 v → v.cell? ⟨W0, 3, none⟩ = some (.slice (some ⟨bn, on, none⟩) s.ms.length h.mc)) := Lib.hid fun v hv => by have := st3 (hv.blk (X5.out.blk HB1.out)); rw [hbn] at this; exact this
      have KS43 : Hid (∀ v, Ext wc5 v → v.cell? ⟨bn, on + j * 2, none⟩ = some (.int .i64 mp)) := Lib.hid fun v hv => by rw [Below.cell (p := ⟨bn, on + j * 2, none⟩) hv hbnt]; exact hbnc 0 _ rfl
      have KS8 : Hid (∀ v, Ext wc5 v → v.cell? ⟨bn, on + j * 2 + 1, none⟩ = some (.int .i64 ((k : Int) + 1))) := Lib.hid fun v hv => by rw [Below.cell (p := ⟨bn, on + j * 2 + 1, none⟩) hv hbnt]; exact hbnc 1 _ rfl
      have e1 : (j : Int) + 1 - 1 = (j : Int) := by omega
      have e4 : (j : Int) < (s.ms.length : Int) := by omega
      have e5 : (j : Int) < 100000 := by have := HF.out.ms; omega
      have e6 : (s.glob.length : Int) ≤ 80 := by have := HGL.out; omega
      have e7 : (s.glob.length : Int) < (s.glob.length : Int) + 1 := by omega
      have hwg : IntKind.i64.wrap ((s.glob.length : Int) + 1) = (s.glob.length : Int) + 1 := IntWalk.i64_in _ (by omega)
      have hwj : IntKind.i64.wrap (j : Int) = (j : Int) := IntWalk.i64_in _ (by omega)
      have q3 := KS3.out wc5 (Ext.refl _)
      have q8 := KS8.out wc5 (Ext.refl _)
      rw [hnj]
      clear hxx HLD hy hjl hgi hbl hblt hblc hbm hbmt hbmc hbn hbnt hbnc hmj hyk hgl hmb hml hap
      go_upto_region 9 with (first | rw [HWB5.out, HB5.out] | (refine wpList_store_row rfl 32 _ _ rfl B5 (stL hb sb) (stV hb sb) (by go_simp) (by go_simp) rfl HTH5.out (by kernel_rfl) (stL_one _ _) HWC5.out ?_))
      clear q3 q8
      refine region_rgx ([]) (wc5) (by kernel_rfl) (by kernel_rfl) ?_ ?_ ?_
      · exact List.forall_mem_nil _
      · first | assumption | exact Ext.refl _
      refine rg_pure (v := ?_) rfl (by kernel_rfl) (by kernel_rfl) (fun w hS hN => ?_) ?_
      rotate_left 1
      · clear hN
        go_simp
        refine givesP_mk ?_
        with_reducible rfl
      refine rg_pure (v := ?_) rfl (by kernel_rfl) (by kernel_rfl) (fun w hS hN => ?_) ?_
      rotate_left 1
      · have k1 := KB4.out w hS
        clear hN
        go_simp
        refine givesP_mk ?_
        with_reducible rfl
      refine rg_pure (v := ?_) rfl (by kernel_rfl) (by kernel_rfl) (fun w hS hN => ?_) ?_
      rotate_left 1
      · clear hN
        go_simp
        refine givesP_mk ?_
        with_reducible rfl
      refine rg_pure (v := ?_) rfl (by kernel_rfl) (by kernel_rfl) (fun w hS hN => ?_) ?_
      rotate_left 1
      · clear hN
        go_simp
        refine givesP_mk ?_
        with_reducible rfl
      refine rg_pure (v := ?_) rfl (by kernel_rfl) (by kernel_rfl) (fun w hS hN => ?_) ?_
      rotate_left 1
      · have k1 := KS4.out w hS
        clear hN
        go_simp
        refine givesP_mk ?_
        with_reducible rfl
      refine rg_pure (v := ?_) rfl (by kernel_rfl) (by kernel_rfl) (fun w hS hN => ?_) ?_
      rotate_left 1
      · clear hN
        go_simp
        refine givesP_mk ?_
        with_reducible rfl
      refine rg_pure (v := ?_) rfl (by kernel_rfl) (by kernel_rfl) (fun w hS hN => ?_) ?_
      rotate_left 1
      · clear hN
        go_simp
        refine givesP_mk ?_
        with_reducible rfl
      refine rg_pure (v := ?_) rfl (by kernel_rfl) (by kernel_rfl) (fun w hS hN => ?_) ?_
      rotate_left 1
      · clear hN
        go_simp
        refine givesP_mk ?_
        with_reducible rfl
      refine rg_pure (v := ?_) rfl (by kernel_rfl) (by kernel_rfl) (fun w hS hN => ?_) ?_
      rotate_left 1
      · clear hN
        go_simp
        refine givesP_mk ?_
        with_reducible rfl
      refine rg_pure (v := ?_) rfl (by kernel_rfl) (by kernel_rfl) (fun w hS hN => ?_) ?_
      rotate_left 1
      · clear hN
        go_simp
        refine givesP_mk ?_
        with_reducible rfl
      refine rg_pure (v := ?_) rfl (by kernel_rfl) (by kernel_rfl) (fun w hS hN => ?_) ?_
      rotate_left 1
      · have k1 := KB4.out w hS
        clear hN
        go_simp
        refine givesP_mk ?_
        with_reducible rfl
      refine rg_pure (v := ?_) rfl (by kernel_rfl) (by kernel_rfl) (fun w hS hN => ?_) ?_
      rotate_left 1
      · clear hN
        go_simp
        refine givesP_mk ?_
        with_reducible rfl
      refine rg_pure (v := ?_) rfl (by kernel_rfl) (by kernel_rfl) (fun w hS hN => ?_) ?_
      rotate_left 1
      · have k1 := KS4.out w hS
        clear hN
        go_simp
        refine givesP_mk ?_
        with_reducible rfl
      refine rg_pure (v := ?_) rfl (by kernel_rfl) (by kernel_rfl) (fun w hS hN => ?_) ?_
      rotate_left 1
      · clear hN
        go_simp
        refine givesP_mk ?_
        with_reducible rfl
      refine rg_pure (v := ?_) rfl (by kernel_rfl) (by kernel_rfl) (fun w hS hN => ?_) ?_
      rotate_left 1
      · clear hN
        go_simp
        refine givesP_mk ?_
        with_reducible rfl
      refine rg_pure (v := ?_) rfl (by kernel_rfl) (by kernel_rfl) (fun w hS hN => ?_) ?_
      rotate_left 1
      · have k1 := KB15.out w hS
        clear hN
        go_simp
        refine givesP_mk ?_
        with_reducible rfl
      refine rg_pure (v := ?_) rfl (by kernel_rfl) (by kernel_rfl) (fun w hS hN => ?_) ?_
      rotate_left 1
      · clear hN
        go_simp
        refine givesP_mk ?_
        with_reducible rfl
      refine rg_pure (v := ?_) rfl (by kernel_rfl) (by kernel_rfl) (fun w hS hN => ?_) ?_
      rotate_left 1
      · clear hN
        go_simp
        refine givesP_mk ?_
        with_reducible rfl
      refine rg_pure (v := ?_) rfl (by kernel_rfl) (by kernel_rfl) (fun w hS hN => ?_) ?_
      rotate_left 1
      · clear hN
        go_simp
        refine givesP_mk ?_
        with_reducible rfl
      refine rg_pure (v := ?_) rfl (by kernel_rfl) (by kernel_rfl) (fun w hS hN => ?_) ?_
      rotate_left 1
      · clear hN
        go_simp
        refine givesP_mk ?_
        with_reducible rfl
      refine rg_pure (v := ?_) rfl (by kernel_rfl) (by kernel_rfl) (fun w hS hN => ?_) ?_
      rotate_left 1
      · clear hN
        go_simp
        refine givesP_mk ?_
        with_reducible rfl
      refine rg_pure (v := ?_) rfl (by kernel_rfl) (by kernel_rfl) (fun w hS hN => ?_) ?_
      rotate_left 1
      · have k1 := KB3.out w hS
        clear hN
        go_simp
        refine givesP_mk ?_
        with_reducible rfl
      refine rg_pure (v := ?_) rfl (by kernel_rfl) (by kernel_rfl) (fun w hS hN => ?_) ?_
      rotate_left 1
      · clear hN
        go_simp
        refine givesP_mk ?_
        with_reducible rfl
      refine rg_pure (v := ?_) rfl (by kernel_rfl) (by kernel_rfl) (fun w hS hN => ?_) ?_
      rotate_left 1
      · clear hN
        go_simp
        refine givesP_mk ?_
        with_reducible rfl
      refine rg_pure (v := ?_) rfl (by kernel_rfl) (by kernel_rfl) (fun w hS hN => ?_) ?_
      rotate_left 1
      · clear hN
        go_simp
        refine givesP_mk ?_
        with_reducible rfl
      refine rg_pure (v := ?_) rfl (by kernel_rfl) (by kernel_rfl) (fun w hS hN => ?_) ?_
      rotate_left 1
      · clear hN
        go_simp
        refine givesP_mk ?_
        with_reducible rfl
      refine rg_pure (v := ?_) rfl (by kernel_rfl) (by kernel_rfl) (fun w hS hN => ?_) ?_
      rotate_left 1
      · have k1 := KB26.out w hS
        clear hN
        go_simp
        refine givesP_mk ?_
        with_reducible rfl
      refine rg_pure (v := ?_) rfl (by kernel_rfl) (by kernel_rfl) (fun w hS hN => ?_) ?_
      rotate_left 1
      · clear hN
        go_simp
        refine givesP_mk ?_
        with_reducible rfl
      refine rg_pure (v := ?_) rfl (by kernel_rfl) (by kernel_rfl) (fun w hS hN => ?_) ?_
      rotate_left 1
      · clear hN
        go_simp
        refine givesP_mk ?_
        with_reducible rfl
      refine rg_pure (v := ?_) rfl (by kernel_rfl) (by kernel_rfl) (fun w hS hN => ?_) ?_
      rotate_left 1
      · clear hN
        go_simp
        refine givesP_mk ?_
        with_reducible rfl
      refine rg_pure (v := ?_) rfl (by kernel_rfl) (by kernel_rfl) (fun w hS hN => ?_) ?_
      rotate_left 1
      · clear hN
        go_simp
        refine givesP_mk ?_
        with_reducible rfl
      refine rg_pure (v := ?_) rfl (by kernel_rfl) (by kernel_rfl) (fun w hS hN => ?_) ?_
      rotate_left 1
      · have k1 := KB3.out w hS
        clear hN
        go_simp
        refine givesP_mk ?_
        with_reducible rfl
      refine rg_pure (v := ?_) rfl (by kernel_rfl) (by kernel_rfl) (fun w hS hN => ?_) ?_
      rotate_left 1
      · clear hN
        go_simp
        refine givesP_mk ?_
        with_reducible rfl
      refine rg_pure (v := ?_) rfl (by kernel_rfl) (by kernel_rfl) (fun w hS hN => ?_) ?_
      rotate_left 1
      · clear hN
        go_simp
        refine givesP_mk ?_
        with_reducible rfl
      refine rg_pure (v := ?_) rfl (by kernel_rfl) (by kernel_rfl) (fun w hS hN => ?_) ?_
      rotate_left 1
      · clear hN
        go_simp
        refine givesP_mk ?_
        with_reducible rfl
      refine rg_pure (v := ?_) rfl (by kernel_rfl) (by kernel_rfl) (fun w hS hN => ?_) ?_
      rotate_left 1
      · clear hN
        go_simp
        refine givesP_mk ?_
        with_reducible rfl
      refine rg_pure (v := ?_) rfl (by kernel_rfl) (by kernel_rfl) (fun w hS hN => ?_) ?_
      rotate_left 1
      · have k1 := KB36.out w hS
        clear hN
        go_simp
        refine givesP_mk ?_
        with_reducible rfl
      refine rg_pure (v := ?_) rfl (by kernel_rfl) (by kernel_rfl) (fun w hS hN => ?_) ?_
      rotate_left 1
      · clear hN
        go_simp
        refine givesP_mk ?_
        with_reducible rfl
      refine rg_pure (v := ?_) rfl (by kernel_rfl) (by kernel_rfl) (fun w hS hN => ?_) ?_
      rotate_left 1
      · have k1 := KS3.out w hS
        clear hN
        go_simp
        refine givesP_mk ?_
        with_reducible rfl
      refine rg_pure (v := ?_) rfl (by kernel_rfl) (by kernel_rfl) (fun w hS hN => ?_) ?_
      rotate_left 1
      · clear hN
        go_simp
        refine givesP_mk ?_
        with_reducible rfl
      refine rg_pure (v := ?_) rfl (by kernel_rfl) (by kernel_rfl) (fun w hS hN => ?_) ?_
      rotate_left 1
      · clear hN
        go_simp
        refine givesP_mk ?_
        with_reducible rfl
      refine rg_pure (v := ?_) rfl (by kernel_rfl) (by kernel_rfl) (fun w hS hN => ?_) ?_
      rotate_left 1
      · clear hN
        go_simp
        refine givesP_mk ?_
        with_reducible rfl
      refine rg_pure (v := ?_) rfl (by kernel_rfl) (by kernel_rfl) (fun w hS hN => ?_) ?_
      rotate_left 1
      · clear hN
        go_simp
        refine givesP_mk ?_
        with_reducible rfl
      refine rg_pure (v := ?_) rfl (by kernel_rfl) (by kernel_rfl) (fun w hS hN => ?_) ?_
      rotate_left 1
      · have k1 := KS43.out w hS
        clear hN
        go_simp
        refine givesP_mk ?_
        with_reducible rfl
      refine rg_pure (v := ?_) rfl (by kernel_rfl) (by kernel_rfl) (fun w hS hN => ?_) ?_
      rotate_left 1
      · clear hN
        go_simp
        refine givesP_mk ?_
        with_reducible rfl
      refine rg_pure (v := ?_) rfl (by kernel_rfl) (by kernel_rfl) (fun w hS hN => ?_) ?_
      rotate_left 1
      · clear hN
        go_simp
        refine givesP_mk ?_
        with_reducible rfl
      refine rg_done rfl (Nat.le_of_ble_eq_true (by kernel_rfl)) ?_
      intro wy hS hT
      have XY := Lib.hid (X5.out.trans hS)
      clear hT hS KB4 KS4 KB15 KB3 KB26 KB36 KS3 KS43 KS8
      go_simp
      go_upto_region 11 with fail
      clear e1 e4 e5 e6 e7 hwj hwg
      have HLD := Lib.hid (XY.out.blk HB1.out)
      go_wp2_with (refine wpList_load_rowW (by rfl) 32 _ rfl W0 (by go_simp) (stL h s) (stV h s) rfl _ (range_row HLD.out) Try.underlying32 rfl (by kernel_rfl) ?_)
      rcases St.drain_cases s p with hd | ⟨i, x, hpi, hm, hpp, hx, hd⟩
      · refine (rdDrain_any h s p _ hd wy (HK1.out.ext XY.out) HF.out).mono ?_
        rintro e wx ⟨hc, rfl, -, hxx⟩
        simp only
        have HXX := Lib.hid (XY.out.trans hxx)
        obtain ⟨wb7, wc7, hwb, hwc, hth, hbc, hxc⟩ := st_box wx hc St.nil
        obtain ⟨B7, hB⟩ : ∃ B7, wx.heap.size = B7 := ⟨_, rfl⟩
        rw [hB] at hwc hth hbc
        have HWB7 := Lib.hid hwb
        have HB7 := Lib.hid hB
        have HWC7 := Lib.hid hwc
        have HTH7 := Lib.hid hth
        have HBS7 := Lib.hid hbc
        have HXC7 := Lib.hid hxc
        clear hwb hwc hth hbc hxc hB
        clear hxx HLD
        have HEND := Lib.hid (HX1.out.trans (HXX.out.trans HXC7.out))
        go_wp2_with (first | rw [HWB7.out, HB7.out] | (refine wpList_store_row rfl 32 _ _ rfl B7 (stL hc St.nil) (stV hc St.nil) (by go_simp) (by go_simp) rfl HTH7.out (by kernel_rfl) (stL_one _ _) HWC7.out ?_))
        go_ret
        exact ⟨rfl, HEND.out⟩
      · refine (rdDrain_any h s p _ hd wy (HK1.out.ext XY.out) HF.out).mono ?_
        rintro e wx ⟨hc, rfl, ⟨I, hap⟩, hxx⟩
        simp only at hap ⊢
        have hkb := St.dried_buf (i := i) (x := x) HK1.out.buf
        have HPI := Lib.hid hpi
        have HQS : Hid (s.queue p = St.queueOf x) := Lib.hid (by rw [hpi]; exact St.queue_yes hpp.2 hm hx)
        obtain ⟨sc, hsc⟩ : ∃ sc, s.dried i x = sc := ⟨_, rfl⟩
        have HQC : Hid (sc.queue p = []) := Lib.hid (by rw [← hsc, hpi]; exact queue_dry hm hpp hx)
        have HFC : Hid (StFew sc) := Lib.hid (by rw [← hsc]; exact St.dried_few HF.out HGL.out)
        have HGC : Hid (sc.glob = s.glob ++ St.queueOf x) := Lib.hid (by rw [← hsc]; rfl)
        have HQL := Lib.hid (queueOf_len x)
        rw [hsc] at hap hkb ⊢
        have HKC := Lib.hid (hap.ok hkb)
        have HXX := Lib.hid (XY.out.trans hxx)
        obtain ⟨wb8, wc8, hwb, hwc, hth, hbc, hxc⟩ := st_box wx hc sc
        obtain ⟨B8, hB⟩ : ∃ B8, wx.heap.size = B8 := ⟨_, rfl⟩
        rw [hB] at hwc hth hbc
        have HWB8 := Lib.hid hwb
        have HB8 := Lib.hid hB
        have HWC8 := Lib.hid hwc
        have HTH8 := Lib.hid hth
        have HBS8 := Lib.hid hbc
        have HXC8 := Lib.hid hxc
        clear hwb hwc hth hbc hxc hB
        clear hap hkb hpi hm hpp hx hd hsc hxx HLD
        go_upto_region 14 with (first | rw [HWB8.out, HB8.out] | (refine wpList_store_row rfl 32 _ _ rfl B8 (stL hc sc) (stV hc sc) (by go_simp) (by go_simp) rfl HTH8.out (by kernel_rfl) (stL_one _ _) HWC8.out ?_))
        have XE : Hid (Ext w1 wc8) := Lib.hid (HXX.out.trans HXC8.out)
        have KC := Lib.hid (HKC.out.ext HXC8.out)
        have KS := Lib.hid (HK1.out.ext XE.out)
        have BS := Lib.hid (XE.out.blk HB1.out)
        have HCL : Hid (sc.glob.length = s.glob.length + (St.queueOf x).length) := Lib.hid (by rw [HGC.out, List.length_append])
        have HSS : Hid (s.glob.length + (St.queueOf x).length ≤ 100) := Lib.hid (by have := HGL.out; have := HQL.out; omega)
        have K7 : Hid (∀ v, Ext wc8 v → v.cell? ⟨B8, 4, none⟩ = some (.slice hc.la (s.glob.length + (St.queueOf x).length) hc.lc)) := Lib.hid fun v hv => by have := st4 (hv.blk HBS8.out); rw [HCL.out] at this; exact this
        have K10 : Hid (∀ v, Ext wc8 v → v.cell? ⟨W0, 4, none⟩ = some (.slice h.la s.glob.length h.lc)) := Lib.hid fun v hv => st4 (hv.blk BS.out)
        refine region_rgw ([(2, (fun u => ∃ A c, u = .slice A 0 c : Value → Prop), (fun _ _ => True : (Nat → GV) → World → Prop)), (8, (fun u => ∃ g, u = .slice (some ⟨g, 0, none⟩) 0 0 : Value → Prop), (fun u w => OwnG wc8 w (u 8).v [] [u 8] : (Nat → GV) → World → Prop)), (11, (fun u => ∃ A c, u = .slice A s.glob.length c : Value → Prop), (fun u w => OwnG wc8 w (u 11).v s.glob [u 11, u 8] : (Nat → GV) → World → Prop)), (14, (fun u => ∃ A c, u = .slice A (St.queueOf x).length c : Value → Prop), (fun u w => OwnG wc8 w (u 14).v (St.queueOf x) [u 14] : (Nat → GV) → World → Prop)), (15, (fun u => ∃ A c, u = .slice A (s.glob.length + (St.queueOf x).length) c : Value → Prop), (fun u w => OwnG wc8 w (u 15).v (s.glob ++ St.queueOf x) [u 15, u 11, u 8] : (Nat → GV) → World → Prop)), (16, (fun u => u = .bool true : Value → Prop), (fun _ _ => True : (Nat → GV) → World → Prop))]) (wc8) ([(11, 0, [8]), (15, s.glob.length, [11, 8])]) (by kernel_rfl) (by kernel_rfl) ?_ ?_ ?_ ?_
        · exact List.forall_mem_cons.2 ⟨List.forall_mem_cons.2 ⟨by kernel_rfl, List.forall_mem_nil _⟩, List.forall_mem_cons.2 ⟨List.forall_mem_cons.2 ⟨by kernel_rfl, List.forall_mem_cons.2 ⟨by kernel_rfl, List.forall_mem_nil _⟩⟩, List.forall_mem_nil _⟩⟩
        · exact List.forall_mem_cons.2 ⟨⟨⟨_, none, 0, rfl⟩, fun _ _ _ _ _ => trivial, fun _ _ _ _ _ => trivial, List.forall_mem_cons.2 ⟨fun _ _ _ _ _ _ _ _ _ => trivial, List.forall_mem_cons.2 ⟨fun _ _ _ _ _ _ _ _ _ => trivial, List.forall_mem_nil _⟩⟩⟩, List.forall_mem_cons.2 ⟨⟨⟨_, 0, rfl⟩, fun u v w h ht => by show (fun u w => OwnG wc8 w (u 8).v [] [u 8] : (Nat → GV) → World → Prop) v w; dsimp only; rw [← h 8 (.inl rfl) (by kernel_rfl)]; exact ht, fun u w w2 hx ht => ht.ext hx, List.forall_mem_cons.2 ⟨fun _ hp => by first | (intro u w w2 hap haq hc ht; refine ht.chg hc ?_; simp; done) | exact rg_vac hp (by kernel_rfl), List.forall_mem_cons.2 ⟨fun _ hp => by first | (intro u w w2 hap haq hc ht; refine ht.chg hc ?_; simp; done) | exact rg_vac hp (by kernel_rfl), List.forall_mem_nil _⟩⟩⟩, List.forall_mem_cons.2 ⟨⟨⟨_, none, 0, rfl⟩, fun u v w h ht => by show (fun u w => OwnG wc8 w (u 11).v s.glob [u 11, u 8] : (Nat → GV) → World → Prop) v w; dsimp only; rw [← h 11 (.inl rfl) (by kernel_rfl), ← h 8 (.inr (by kernel_rfl)) (by kernel_rfl)]; exact ht, fun u w w2 hx ht => ht.ext hx, List.forall_mem_cons.2 ⟨fun hne => absurd rfl hne, List.forall_mem_cons.2 ⟨fun _ hp => by first | (intro u w w2 hap haq hc ht; refine ht.chg hc ?_; simp; done) | exact rg_vac hp (by kernel_rfl), List.forall_mem_nil _⟩⟩⟩, List.forall_mem_cons.2 ⟨⟨⟨_, none, 0, rfl⟩, fun u v w h ht => by show (fun u w => OwnG wc8 w (u 14).v (St.queueOf x) [u 14] : (Nat → GV) → World → Prop) v w; dsimp only; rw [← h 14 (.inl rfl) (by kernel_rfl)]; exact ht, fun u w w2 hx ht => ht.ext hx, List.forall_mem_cons.2 ⟨fun _ hp => by first | (intro u w w2 hap haq hc ht; (refine ht.far hc ?_; simpa using hap); done) | exact rg_vac hp (by kernel_rfl), List.forall_mem_cons.2 ⟨fun _ hp => by first | (intro u w w2 hap haq hc ht; (refine ht.far hc ?_; simpa using hap); done) | exact rg_vac hp (by kernel_rfl), List.forall_mem_nil _⟩⟩⟩, List.forall_mem_cons.2 ⟨⟨⟨_, none, 0, rfl⟩, fun u v w h ht => by show (fun u w => OwnG wc8 w (u 15).v (s.glob ++ St.queueOf x) [u 15, u 11, u 8] : (Nat → GV) → World → Prop) v w; dsimp only; rw [← h 15 (.inl rfl) (by kernel_rfl), ← h 11 (.inr (by kernel_rfl)) (by kernel_rfl), ← h 8 (.inr (by kernel_rfl)) (by kernel_rfl)]; exact ht, fun u w w2 hx ht => ht.ext hx, List.forall_mem_cons.2 ⟨fun _ hp => by first | (intro u w w2 hap haq hc ht; refine ht.chg hc ?_; simp; done) | exact rg_vac hp (by kernel_rfl), List.forall_mem_cons.2 ⟨fun hne => absurd rfl hne, List.forall_mem_nil _⟩⟩⟩, List.forall_mem_cons.2 ⟨⟨⟨_, rfl⟩, fun _ _ _ _ _ => trivial, fun _ _ _ _ _ => trivial, List.forall_mem_cons.2 ⟨fun _ _ _ _ _ _ _ _ _ => trivial, List.forall_mem_cons.2 ⟨fun _ _ _ _ _ _ _ _ _ => trivial, List.forall_mem_nil _⟩⟩⟩, List.forall_mem_nil _⟩⟩⟩⟩⟩⟩
        · first | assumption | exact Ext.refl _
        refine rg_pure (v := stV hc sc) rfl (by kernel_rfl) (by kernel_rfl) (fun w hS hN => ?_) ?_
        · clear hN
          exact givesP_load 32 _ rfl _ (by go_simp) (stL hc sc) _ rfl _ (range_row (hS.blk HBS8.out)) Try.underlying32 rfl (by kernel_rfl)
        refine rg_pure (v := ?_) rfl (by kernel_rfl) (by kernel_rfl) (fun w hS hN => ?_) ?_
        rotate_left 1
        · clear hN
          go_simp
          refine givesP_mk ?_
          with_reducible rfl
        refine rg_mem (fun u => ∃ A c, u = .slice A 0 c : Value → Prop) (fun _ _ => True : (Nat → GV) → World → Prop) (fun _ => Ext) rfl rfl rfl rfl (by kernel_rfl) (by kernel_rfl) (fun w hS hN R hR => ?_) ?_
        · have HR := Lib.hid hR
          clear hR
          (try clear hN)
          go_simp
          refine givesM_call ((rQueue_any hc sc p [] HQC.out w (KC.out.ext hS) HFC.out).mono ?_)
          rintro e w' ⟨A, c, rfl, -, hx⟩
          exact ⟨_, rfl, HR.out _ _ ⟨A, c, rfl⟩ trivial hx⟩
        rintro u2 s2 t2 ⟨A2, c2, rfl⟩
        refine rg_pure (v := ?_) rfl (by kernel_rfl) (by kernel_rfl) (fun w hS hN => ?_) ?_
        rotate_left 1
        · clear hN
          go_simp
          refine givesP_mk ?_
          with_reducible rfl
        refine rg_pure (v := ?_) rfl (by kernel_rfl) (by kernel_rfl) (fun w hS hN => ?_) ?_
        rotate_left 1
        · clear hN
          go_simp
          refine givesP_mk ?_
          with_reducible rfl
        refine rg_pure (v := ?_) rfl (by kernel_rfl) (by kernel_rfl) (fun w hS hN => ?_) ?_
        rotate_left 1
        · clear hN
          go_simp
          refine givesP_mk ?_
          with_reducible rfl
        refine rg_pure (v := ?_) rfl (by kernel_rfl) (by kernel_rfl) (fun w hS hN => ?_) ?_
        rotate_left 1
        · clear hN
          go_simp
          refine givesP_mk ?_
          with_reducible rfl
        refine rg_pure (v := ?_) rfl (by kernel_rfl) (by kernel_rfl) (fun w hS hN => ?_) ?_
        rotate_left 1
        · have k7 := K7.out w hS
          clear hN
          go_simp
          refine givesP_mk ?_
          with_reducible rfl
        refine rg_mem (fun u => ∃ g, u = .slice (some ⟨g, 0, none⟩) 0 0 : Value → Prop) (fun u w => OwnG wc8 w (u 8).v [] [u 8] : (Nat → GV) → World → Prop) (fun _ => Ext) rfl rfl rfl rfl (by kernel_rfl) (by kernel_rfl) (fun w hS hN R hR => ?_) ?_
        · have HR := Lib.hid hR
          clear hR
          (try clear hN)
          go_simp
          exact givesM_val (HR.out _ _ ⟨_, rfl⟩ (OwnG.made hS _) ((Ext.refl w).alloc _))
        rintro u8 s8 t8 ⟨g8, rfl⟩
        refine rg_pure (v := ?_) rfl (by kernel_rfl) (by kernel_rfl) (fun w hS hN => ?_) ?_
        rotate_left 1
        · clear hN
          go_simp
          refine givesP_mk ?_
          with_reducible rfl
        refine rg_pure (v := ?_) rfl (by kernel_rfl) (by kernel_rfl) (fun w hS hN => ?_) ?_
        rotate_left 1
        · have k10 := K10.out w hS
          clear hN
          go_simp
          refine givesP_mk ?_
          with_reducible rfl
        refine rg_mem (fun u => ∃ A c, u = .slice A s.glob.length c : Value → Prop) (fun u w => OwnG wc8 w (u 11).v s.glob [u 11, u 8] : (Nat → GV) → World → Prop) (fun u => ChgIn (wc8) (0) ([8].map u)) rfl rfl rfl rfl (by kernel_rfl) (by kernel_rfl) (fun w hS hN R hR => ?_) ?_
        · have HR := Lib.hid hR
          clear hR
          have h3 : OwnG wc8 w (.slice (some ⟨g8, 0, none⟩) 0 0) [] _ := hN.get 8 rfl (by kernel_rfl)
          have hgl := HGL.out
          obtain ⟨u', w', hr, ⟨A', c', rfl⟩, ho, hin, hc⟩ := OwnInts.append_chg 27 hS h3.1 h3.2 ((KS.out.ext hS).glob) (by simp; omega)
          simp only [List.length_nil, Nat.zero_add, List.nil_append] at hr ho hin hc
          refine givesM_append _ _ 27 rfl _ _ (by go_simp) (by go_simp) hr ?_
          exact HR.out _ _ ⟨_, _, rfl⟩ ⟨ho, hin⟩ hc
        rintro u11 s11 t11 ⟨A11, c11, rfl⟩
        refine rg_pure (v := stV h s) rfl (by kernel_rfl) (by kernel_rfl) (fun w hS hN => ?_) ?_
        · clear hN
          exact givesP_load 32 _ rfl _ (by go_simp) (stL h s) _ rfl _ (range_row (hS.blk BS.out)) Try.underlying32 rfl (by kernel_rfl)
        refine rg_pure (v := ?_) rfl (by kernel_rfl) (by kernel_rfl) (fun w hS hN => ?_) ?_
        rotate_left 1
        · clear hN
          go_simp
          refine givesP_mk ?_
          with_reducible rfl
        refine rg_mem (fun u => ∃ A c, u = .slice A (St.queueOf x).length c : Value → Prop) (fun u w => OwnG wc8 w (u 14).v (St.queueOf x) [u 14] : (Nat → GV) → World → Prop) (fun _ => Ext) rfl rfl rfl rfl (by kernel_rfl) (by kernel_rfl) (fun w hS hN R hR => ?_) ?_
        · have HR := Lib.hid hR
          clear hR
          (try clear hN)
          go_simp
          refine givesM_call ((rQueue_any h s p _ HQS.out w (KS.out.ext hS) HF.out).mono ?_)
          rintro e w' ⟨A, c, rfl, ho, hx⟩
          exact ⟨_, rfl, HR.out _ _ ⟨_, _, rfl⟩ ⟨OwnInts.lower ho hS.size, InB.of_lt fun k hk => World.ownsRow.lt ho k hk⟩ hx⟩
        rintro u14 s14 t14 ⟨A14, c14, rfl⟩
        refine rg_mem (fun u => ∃ A c, u = .slice A (s.glob.length + (St.queueOf x).length) c : Value → Prop) (fun u w => OwnG wc8 w (u 15).v (s.glob ++ St.queueOf x) [u 15, u 11, u 8] : (Nat → GV) → World → Prop) (fun u => ChgIn (wc8) (s.glob.length) ([11, 8].map u)) rfl rfl rfl rfl (by kernel_rfl) (by kernel_rfl) (fun w hS hN R hR => ?_) ?_
        · have HR := Lib.hid hR
          clear hR
          have h5 : OwnG wc8 w (.slice A11 s.glob.length c11) s.glob _ := hN.get 11 rfl (by kernel_rfl)
          have h14 : OwnG wc8 w (.slice A14 (St.queueOf x).length c14) (St.queueOf x) _ := hN.get 14 rfl (by kernel_rfl)
          have hss := HSS.out
          obtain ⟨u', w', hr, ⟨A', c', rfl⟩, ho, hin, hc⟩ := OwnInts.append_chg 27 hS h5.1 h5.2 h14.ints (by omega)
          refine givesM_append _ _ 27 rfl _ _ (by go_simp) (by go_simp) hr ?_
          exact HR.out _ _ ⟨_, _, rfl⟩ ⟨ho, hin⟩ hc
        rintro u15 s15 t15 ⟨A15, c15, rfl⟩
        refine rg_mem (fun u => u = .bool true : Value → Prop) (fun _ _ => True : (Nat → GV) → World → Prop) (fun _ => Ext) rfl rfl rfl rfl (by kernel_rfl) (by kernel_rfl) (fun w hS hN R hR => ?_) ?_
        · have HR := Lib.hid hR
          clear hR
          have h7 : OwnG wc8 w (.slice A15 (s.glob.length + (St.queueOf x).length) c15) (s.glob ++ St.queueOf x) _ := hN.get 15 rfl (by kernel_rfl)
          (try clear hN)
          go_simp
          have i7 := h7.ints
          rw [List.length_append] at i7
          have ig := (KC.out.ext hS).glob
          rw [HGC.out, List.length_append] at ig
          have hss := HSS.out
          refine givesM_call ((rints_self' _ _ (s.glob ++ St.queueOf x) w ig i7 (by rw [List.length_append]; omega)).mono ?_)
          rintro e w' ⟨rfl, hx⟩
          exact ⟨_, rfl, HR.out _ _ rfl trivial hx⟩
        rintro u16 s16 t16 rfl
        refine rg_pure (v := ?_) rfl (by kernel_rfl) (by kernel_rfl) (fun w hS hN => ?_) ?_
        rotate_left 1
        · clear hN
          go_simp
          refine givesP_mk ?_
          with_reducible rfl
        refine rg_pure (v := ?_) rfl (by kernel_rfl) (by kernel_rfl) (fun w hS hN => ?_) ?_
        rotate_left 1
        · clear hN
          go_simp
          refine givesP_mk ?_
          with_reducible rfl
        refine rg_done rfl (Nat.le_of_ble_eq_true (by kernel_rfl)) ?_
        intro w8 hS hT
        have HS := Lib.hid (HX1.out.trans (XE.out.trans hS))
        clear hT hS
        go_simp
        go_wp2
        go_ret
        exact ⟨rfl, HS.out⟩
  · refine (rdWake_any h s p n _ hw w4 (HK1.out.ext HX4.out) HF.out).mono ?_
    rintro e wx ⟨ha, rfl, ⟨I, hap⟩, hxx⟩
    simp only at hap ⊢
    have HXX := Lib.hid (HX4.out.trans hxx)
    obtain ⟨wb4, wc4, hwb, hwc, hth, hbc, hxc⟩ := st_box wx ha sa
    obtain ⟨B4, hB⟩ : ∃ B4, wx.heap.size = B4 := ⟨_, rfl⟩
    rw [hB] at hwc hth hbc
    have HWB4 := Lib.hid hwb
    have HB4 := Lib.hid hB
    have HWC4 := Lib.hid hwc
    have HTH4 := Lib.hid hth
    have HBS4 := Lib.hid hbc
    have HXC4 := Lib.hid hxc
    clear hwb hwc hth hbc hxc hB
    have X4 : Hid (Ext w1 wc4) := Lib.hid (HXX.out.trans HXC4.out)
    have hil := (List.getElem?_eq_some_iff.1 hx).1
    have hkl := (List.getElem?_eq_some_iff.1 hyk).1
    have hseq := St.may_seq HM.out hyk
    obtain ⟨bq, oq, hbq, hbqt, hbqc⟩ := ((OwnRows.rows pL_len hap.ps.1).ext HXC4.out).get hx'
    obtain ⟨bg, og, hbg, hbgt, hbgc⟩ := ((OwnRows.rows gL_len hap.gs.1).ext HXC4.out).get hya
    obtain ⟨bs, os, hbs, hbst, hbsc⟩ := ((HK1.out.ext X4.out).gs).get hyk
    have KA2 : Hid (∀ v, Ext wc4 v → v.cell? ⟨B4, 2, none⟩ = some (.slice (some ⟨bq, oq, none⟩) s.ps.length ha.qc)) := Lib.hid fun v hv => by have := st2 (hv.blk HBS4.out); rw [hl1, hbq] at this; exact this
    have KA15 : Hid (∀ v, Ext wc4 v → v.cell? ⟨bq, oq + i * 13 + 1, none⟩ = some (.int .i64 ((k : Int) + 1))) := Lib.hid fun v hv => by rw [Below.cell (p := ⟨bq, oq + i * 13 + 1, none⟩) hv hbqt, ← hnk, ← hnx]; exact hbqc 1 _ rfl
    have KA1 : Hid (∀ v, Ext wc4 v → v.cell? ⟨B4, 1, none⟩ = some (.slice (some ⟨bg, og, none⟩) s.gs.length ha.gc)) := Lib.hid fun v hv => by have := st1 (hv.blk HBS4.out); rw [hl2, hbg] at this; exact this
    have KA26 : Hid (∀ v, Ext wc4 v → v.cell? ⟨bg, og + k * 5 + 4, none⟩ = some (.int .i64 (y.seq + 1))) := Lib.hid fun v hv => by rw [Below.cell (p := ⟨bg, og + k * 5 + 4, none⟩) hv hbgt]; exact hbgc 4 _ rfl
    have KS1 : Hid (∀ v, Ext wc4 v → v.cell? ⟨W0, 1, none⟩ = some (.slice (some ⟨bs, os, none⟩) s.gs.length h.gc)) := Lib.hid fun v hv => by have := st1 (hv.blk (X4.out.blk HB1.out)); rw [hbs] at this; exact this
    have KS33 : Hid (∀ v, Ext wc4 v → v.cell? ⟨bs, os + k * 5 + 4, none⟩ = some (.int .i64 y.seq)) := Lib.hid fun v hv => by rw [Below.cell (p := ⟨bs, os + k * 5 + 4, none⟩) hv hbst]; exact hbsc 4 _ rfl
    have e1 : (i : Int) + 1 - 1 = (i : Int) := by omega
    have e2 : decide ((s.ps.length : Int) < (i : Int) + 1) = false := decide_eq_false (by omega)
    have e4 : (i : Int) < (s.ps.length : Int) := by omega
    have e5 : (i : Int) < 100000 := by have := HF.out.ps; omega
    have g1 : (k : Int) + 1 - 1 = (k : Int) := by omega
    have g4 : (k : Int) < (s.gs.length : Int) := by omega
    have g5 : (k : Int) < 100000 := by have := HF.out.gs; omega
    have hwr : IntKind.i64.wrap (y.seq + 1) = y.seq + 1 := IntWalk.i64_in _ (by omega)
    have hwi : IntKind.i64.wrap (i : Int) = (i : Int) := IntWalk.i64_in _ (by omega)
    have hwk : IntKind.i64.wrap (k : Int) = (k : Int) := IntWalk.i64_in _ (by omega)
    have HPI := Lib.hid hpi
    have HNK := Lib.hid hnk
    rw [hpi, hnk]
    clear hxx HLD hw hil hkl hseq hbq hbqt hbqc hbg hbgt hbgc hbs hbst hbsc hx hyk hl1 hl2 hx' hnx hya hap hpi hnk
    go_upto_region 4 with (first | rw [HWB4.out, HB4.out] | (refine wpList_store_row rfl 32 _ _ rfl B4 (stL ha sa) (stV ha sa) (by go_simp) (by go_simp) rfl HTH4.out (by kernel_rfl) (stL_one _ _) HWC4.out ?_))
    refine region_rgx ([]) (wc4) (by kernel_rfl) (by kernel_rfl) ?_ ?_ ?_
    · exact List.forall_mem_nil _
    · first | assumption | exact Ext.refl _
    refine rg_pure (v := ?_) rfl (by kernel_rfl) (by kernel_rfl) (fun w hS hN => ?_) ?_
    rotate_left 1
    · clear hN
      go_simp
      refine givesP_mk ?_
      with_reducible rfl
    refine rg_pure (v := ?_) rfl (by kernel_rfl) (by kernel_rfl) (fun w hS hN => ?_) ?_
    rotate_left 1
    · clear hN
      go_simp
      refine givesP_mk ?_
      with_reducible rfl
    refine rg_pure (v := ?_) rfl (by kernel_rfl) (by kernel_rfl) (fun w hS hN => ?_) ?_
    rotate_left 1
    · clear hN
      go_simp
      refine givesP_mk ?_
      with_reducible rfl
    refine rg_pure (v := ?_) rfl (by kernel_rfl) (by kernel_rfl) (fun w hS hN => ?_) ?_
    rotate_left 1
    · clear hN
      go_simp
      refine givesP_mk ?_
      with_reducible rfl
    refine rg_pure (v := ?_) rfl (by kernel_rfl) (by kernel_rfl) (fun w hS hN => ?_) ?_
    rotate_left 1
    · have k1 := KA2.out w hS
      clear hN
      go_simp
      refine givesP_mk ?_
      with_reducible rfl
    refine rg_pure (v := ?_) rfl (by kernel_rfl) (by kernel_rfl) (fun w hS hN => ?_) ?_
    rotate_left 1
    · clear hN
      go_simp
      refine givesP_mk ?_
      with_reducible rfl
    refine rg_pure (v := ?_) rfl (by kernel_rfl) (by kernel_rfl) (fun w hS hN => ?_) ?_
    rotate_left 1
    · clear hN
      go_simp
      refine givesP_mk ?_
      with_reducible rfl
    refine rg_pure (v := ?_) rfl (by kernel_rfl) (by kernel_rfl) (fun w hS hN => ?_) ?_
    rotate_left 1
    · clear hN
      go_simp
      refine givesP_mk ?_
      with_reducible rfl
    refine rg_pure (v := ?_) rfl (by kernel_rfl) (by kernel_rfl) (fun w hS hN => ?_) ?_
    rotate_left 1
    · clear hN
      go_simp
      refine givesP_mk ?_
      with_reducible rfl
    refine rg_pure (v := ?_) rfl (by kernel_rfl) (by kernel_rfl) (fun w hS hN => ?_) ?_
    rotate_left 1
    · clear hN
      go_simp
      refine givesP_mk ?_
      with_reducible rfl
    refine rg_pure (v := ?_) rfl (by kernel_rfl) (by kernel_rfl) (fun w hS hN => ?_) ?_
    rotate_left 1
    · have k1 := KA2.out w hS
      clear hN
      go_simp
      refine givesP_mk ?_
      with_reducible rfl
    refine rg_pure (v := ?_) rfl (by kernel_rfl) (by kernel_rfl) (fun w hS hN => ?_) ?_
    rotate_left 1
    · clear hN
      go_simp
      refine givesP_mk ?_
      with_reducible rfl
    refine rg_pure (v := ?_) rfl (by kernel_rfl) (by kernel_rfl) (fun w hS hN => ?_) ?_
    rotate_left 1
    · clear hN
      go_simp
      refine givesP_mk ?_
      with_reducible rfl
    refine rg_pure (v := ?_) rfl (by kernel_rfl) (by kernel_rfl) (fun w hS hN => ?_) ?_
    rotate_left 1
    · clear hN
      go_simp
      refine givesP_mk ?_
      with_reducible rfl
    refine rg_pure (v := ?_) rfl (by kernel_rfl) (by kernel_rfl) (fun w hS hN => ?_) ?_
    rotate_left 1
    · clear hN
      go_simp
      refine givesP_mk ?_
      with_reducible rfl
    refine rg_pure (v := ?_) rfl (by kernel_rfl) (by kernel_rfl) (fun w hS hN => ?_) ?_
    rotate_left 1
    · have k1 := KA15.out w hS
      clear hN
      go_simp
      refine givesP_mk ?_
      with_reducible rfl
    refine rg_pure (v := ?_) rfl (by kernel_rfl) (by kernel_rfl) (fun w hS hN => ?_) ?_
    rotate_left 1
    · clear hN
      go_simp
      refine givesP_mk ?_
      with_reducible rfl
    refine rg_pure (v := ?_) rfl (by kernel_rfl) (by kernel_rfl) (fun w hS hN => ?_) ?_
    rotate_left 1
    · clear hN
      go_simp
      refine givesP_mk ?_
      with_reducible rfl
    refine rg_pure (v := ?_) rfl (by kernel_rfl) (by kernel_rfl) (fun w hS hN => ?_) ?_
    rotate_left 1
    · clear hN
      go_simp
      refine givesP_mk ?_
      with_reducible rfl
    refine rg_pure (v := ?_) rfl (by kernel_rfl) (by kernel_rfl) (fun w hS hN => ?_) ?_
    rotate_left 1
    · clear hN
      go_simp
      refine givesP_mk ?_
      with_reducible rfl
    refine rg_pure (v := ?_) rfl (by kernel_rfl) (by kernel_rfl) (fun w hS hN => ?_) ?_
    rotate_left 1
    · clear hN
      go_simp
      refine givesP_mk ?_
      with_reducible rfl
    refine rg_pure (v := ?_) rfl (by kernel_rfl) (by kernel_rfl) (fun w hS hN => ?_) ?_
    rotate_left 1
    · have k1 := KA1.out w hS
      clear hN
      go_simp
      refine givesP_mk ?_
      with_reducible rfl
    refine rg_pure (v := ?_) rfl (by kernel_rfl) (by kernel_rfl) (fun w hS hN => ?_) ?_
    rotate_left 1
    · clear hN
      go_simp
      refine givesP_mk ?_
      with_reducible rfl
    refine rg_pure (v := ?_) rfl (by kernel_rfl) (by kernel_rfl) (fun w hS hN => ?_) ?_
    rotate_left 1
    · clear hN
      go_simp
      refine givesP_mk ?_
      with_reducible rfl
    refine rg_pure (v := ?_) rfl (by kernel_rfl) (by kernel_rfl) (fun w hS hN => ?_) ?_
    rotate_left 1
    · clear hN
      go_simp
      refine givesP_mk ?_
      with_reducible rfl
    refine rg_pure (v := ?_) rfl (by kernel_rfl) (by kernel_rfl) (fun w hS hN => ?_) ?_
    rotate_left 1
    · clear hN
      go_simp
      refine givesP_mk ?_
      with_reducible rfl
    refine rg_pure (v := ?_) rfl (by kernel_rfl) (by kernel_rfl) (fun w hS hN => ?_) ?_
    rotate_left 1
    · have k1 := KA26.out w hS
      clear hN
      go_simp
      refine givesP_mk ?_
      with_reducible rfl
    refine rg_pure (v := ?_) rfl (by kernel_rfl) (by kernel_rfl) (fun w hS hN => ?_) ?_
    rotate_left 1
    · clear hN
      go_simp
      refine givesP_mk ?_
      with_reducible rfl
    refine rg_pure (v := ?_) rfl (by kernel_rfl) (by kernel_rfl) (fun w hS hN => ?_) ?_
    rotate_left 1
    · have k1 := KS1.out w hS
      clear hN
      go_simp
      refine givesP_mk ?_
      with_reducible rfl
    refine rg_pure (v := ?_) rfl (by kernel_rfl) (by kernel_rfl) (fun w hS hN => ?_) ?_
    rotate_left 1
    · clear hN
      go_simp
      refine givesP_mk ?_
      with_reducible rfl
    refine rg_pure (v := ?_) rfl (by kernel_rfl) (by kernel_rfl) (fun w hS hN => ?_) ?_
    rotate_left 1
    · clear hN
      go_simp
      refine givesP_mk ?_
      with_reducible rfl
    refine rg_pure (v := ?_) rfl (by kernel_rfl) (by kernel_rfl) (fun w hS hN => ?_) ?_
    rotate_left 1
    · clear hN
      go_simp
      refine givesP_mk ?_
      with_reducible rfl
    refine rg_pure (v := ?_) rfl (by kernel_rfl) (by kernel_rfl) (fun w hS hN => ?_) ?_
    rotate_left 1
    · clear hN
      go_simp
      refine givesP_mk ?_
      with_reducible rfl
    refine rg_pure (v := ?_) rfl (by kernel_rfl) (by kernel_rfl) (fun w hS hN => ?_) ?_
    rotate_left 1
    · have k1 := KS33.out w hS
      clear hN
      go_simp
      refine givesP_mk ?_
      with_reducible rfl
    refine rg_pure (v := ?_) rfl (by kernel_rfl) (by kernel_rfl) (fun w hS hN => ?_) ?_
    rotate_left 1
    · clear hN
      go_simp
      refine givesP_mk ?_
      with_reducible rfl
    refine rg_pure (v := ?_) rfl (by kernel_rfl) (by kernel_rfl) (fun w hS hN => ?_) ?_
    rotate_left 1
    · clear hN
      go_simp
      refine givesP_mk ?_
      with_reducible rfl
    refine rg_pure (v := ?_) rfl (by kernel_rfl) (by kernel_rfl) (fun w hS hN => ?_) ?_
    rotate_left 1
    · clear hN
      go_simp
      refine givesP_mk ?_
      with_reducible rfl
    refine rg_pure (v := ?_) rfl (by kernel_rfl) (by kernel_rfl) (fun w hS hN => ?_) ?_
    rotate_left 1
    · clear hN
      go_simp
      refine givesP_mk ?_
      with_reducible rfl
    refine rg_done rfl (Nat.le_of_ble_eq_true (by kernel_rfl)) ?_
    intro wz hS hT
    have XZ := Lib.hid (X4.out.trans hS)
    clear hT hS KA2 KA15 KA1 KA26 KS1 KS33
    go_simp
    go_upto_region 6 with fail
    clear e1 e2 e4 e5 g1 g4 g5 hwr hwi hwk
    rw [← HPI.out, ← HNK.out]
    have HLD := Lib.hid (XZ.out.blk HB1.out)
    go_wp2_with (refine wpList_load_rowW (by rfl) 32 _ rfl W0 (by go_simp) (stL h s) (stV h s) rfl _ (range_row HLD.out) Try.underlying32 rfl (by kernel_rfl) ?_)
    rcases St.yield_cases s n with hy | ⟨j, k, mp, y, sb, hnj, hmj, hyk, hy, hgl, hmb, hml⟩
    · refine (rdYield_any h s n _ hy wz (HK1.out.ext XZ.out) HF.out).mono ?_
      rintro e wx ⟨hb, rfl, -, hxx⟩
      simp only
      have HXX := Lib.hid (XZ.out.trans hxx)
      obtain ⟨wb5, wc5, hwb, hwc, hth, hbc, hxc⟩ := st_box wx hb St.nil
      obtain ⟨B5, hB⟩ : ∃ B5, wx.heap.size = B5 := ⟨_, rfl⟩
      rw [hB] at hwc hth hbc
      have HWB5 := Lib.hid hwb
      have HB5 := Lib.hid hB
      have HWC5 := Lib.hid hwc
      have HTH5 := Lib.hid hth
      have HBS5 := Lib.hid hbc
      have HXC5 := Lib.hid hxc
      clear hwb hwc hth hbc hxc hB
      clear hxx HLD hy
      have XY := Lib.hid (HXX.out.trans HXC5.out)
      go_upto_region 11 with (first | rw [HWB5.out, HB5.out] | (refine wpList_store_row rfl 32 _ _ rfl B5 (stL hb St.nil) (stV hb St.nil) (by go_simp) (by go_simp) rfl HTH5.out (by kernel_rfl) (stL_one _ _) HWC5.out ?_))
      have HLD := Lib.hid (XY.out.blk HB1.out)
      go_wp2_with (refine wpList_load_rowW (by rfl) 32 _ rfl W0 (by go_simp) (stL h s) (stV h s) rfl _ (range_row HLD.out) Try.underlying32 rfl (by kernel_rfl) ?_)
      rcases St.drain_cases s p with hd | ⟨i, x, hpi, hm, hpp, hx, hd⟩
      · refine (rdDrain_any h s p _ hd wc5 (HK1.out.ext XY.out) HF.out).mono ?_
        rintro e wx ⟨hc, rfl, -, hxx⟩
        simp only
        have HXX := Lib.hid (XY.out.trans hxx)
        obtain ⟨wb7, wc7, hwb, hwc, hth, hbc, hxc⟩ := st_box wx hc St.nil
        obtain ⟨B7, hB⟩ : ∃ B7, wx.heap.size = B7 := ⟨_, rfl⟩
        rw [hB] at hwc hth hbc
        have HWB7 := Lib.hid hwb
        have HB7 := Lib.hid hB
        have HWC7 := Lib.hid hwc
        have HTH7 := Lib.hid hth
        have HBS7 := Lib.hid hbc
        have HXC7 := Lib.hid hxc
        clear hwb hwc hth hbc hxc hB
        clear hxx HLD
        have HEND := Lib.hid (HX1.out.trans (HXX.out.trans HXC7.out))
        go_wp2_with (first | rw [HWB7.out, HB7.out] | (refine wpList_store_row rfl 32 _ _ rfl B7 (stL hc St.nil) (stV hc St.nil) (by go_simp) (by go_simp) rfl HTH7.out (by kernel_rfl) (stL_one _ _) HWC7.out ?_))
        go_ret
        exact ⟨rfl, HEND.out⟩
      · refine (rdDrain_any h s p _ hd wc5 (HK1.out.ext XY.out) HF.out).mono ?_
        rintro e wx ⟨hc, rfl, ⟨I, hap⟩, hxx⟩
        simp only at hap ⊢
        have hkb := St.dried_buf (i := i) (x := x) HK1.out.buf
        have HPI := Lib.hid hpi
        have HQS : Hid (s.queue p = St.queueOf x) := Lib.hid (by rw [hpi]; exact St.queue_yes hpp.2 hm hx)
        obtain ⟨sc, hsc⟩ : ∃ sc, s.dried i x = sc := ⟨_, rfl⟩
        have HQC : Hid (sc.queue p = []) := Lib.hid (by rw [← hsc, hpi]; exact queue_dry hm hpp hx)
        have HFC : Hid (StFew sc) := Lib.hid (by rw [← hsc]; exact St.dried_few HF.out HGL.out)
        have HGC : Hid (sc.glob = s.glob ++ St.queueOf x) := Lib.hid (by rw [← hsc]; rfl)
        have HQL := Lib.hid (queueOf_len x)
        rw [hsc] at hap hkb ⊢
        have HKC := Lib.hid (hap.ok hkb)
        have HXX := Lib.hid (XY.out.trans hxx)
        obtain ⟨wb8, wc8, hwb, hwc, hth, hbc, hxc⟩ := st_box wx hc sc
        obtain ⟨B8, hB⟩ : ∃ B8, wx.heap.size = B8 := ⟨_, rfl⟩
        rw [hB] at hwc hth hbc
        have HWB8 := Lib.hid hwb
        have HB8 := Lib.hid hB
        have HWC8 := Lib.hid hwc
        have HTH8 := Lib.hid hth
        have HBS8 := Lib.hid hbc
        have HXC8 := Lib.hid hxc
        clear hwb hwc hth hbc hxc hB
        clear hap hkb hpi hm hpp hx hd hsc hxx HLD
        go_upto_region 14 with (first | rw [HWB8.out, HB8.out] | (refine wpList_store_row rfl 32 _ _ rfl B8 (stL hc sc) (stV hc sc) (by go_simp) (by go_simp) rfl HTH8.out (by kernel_rfl) (stL_one _ _) HWC8.out ?_))
        have XE : Hid (Ext w1 wc8) := Lib.hid (HXX.out.trans HXC8.out)
        have KC := Lib.hid (HKC.out.ext HXC8.out)
        have KS := Lib.hid (HK1.out.ext XE.out)
        have BS := Lib.hid (XE.out.blk HB1.out)
        have HCL : Hid (sc.glob.length = s.glob.length + (St.queueOf x).length) := Lib.hid (by rw [HGC.out, List.length_append])
        have HSS : Hid (s.glob.length + (St.queueOf x).length ≤ 100) := Lib.hid (by have := HGL.out; have := HQL.out; omega)
        have K7 : Hid (∀ v, Ext wc8 v → v.cell? ⟨B8, 4, none⟩ = some (.slice hc.la (s.glob.length + (St.queueOf x).length) hc.lc)) := Lib.hid fun v hv => by have := st4 (hv.blk HBS8.out); rw [HCL.out] at this; exact this
        have K10 : Hid (∀ v, Ext wc8 v → v.cell? ⟨W0, 4, none⟩ = some (.slice h.la s.glob.length h.lc)) := Lib.hid fun v hv => st4 (hv.blk BS.out)
        refine region_rgw ([(2, (fun u => ∃ A c, u = .slice A 0 c : Value → Prop), (fun _ _ => True : (Nat → GV) → World → Prop)), (8, (fun u => ∃ g, u = .slice (some ⟨g, 0, none⟩) 0 0 : Value → Prop), (fun u w => OwnG wc8 w (u 8).v [] [u 8] : (Nat → GV) → World → Prop)), (11, (fun u => ∃ A c, u = .slice A s.glob.length c : Value → Prop), (fun u w => OwnG wc8 w (u 11).v s.glob [u 11, u 8] : (Nat → GV) → World → Prop)), (14, (fun u => ∃ A c, u = .slice A (St.queueOf x).length c : Value → Prop), (fun u w => OwnG wc8 w (u 14).v (St.queueOf x) [u 14] : (Nat → GV) → World → Prop)), (15, (fun u => ∃ A c, u = .slice A (s.glob.length + (St.queueOf x).length) c : Value → Prop), (fun u w => OwnG wc8 w (u 15).v (s.glob ++ St.queueOf x) [u 15, u 11, u 8] : (Nat → GV) → World → Prop)), (16, (fun u => u = .bool true : Value → Prop), (fun _ _ => True : (Nat → GV) → World → Prop))]) (wc8) ([(11, 0, [8]), (15, s.glob.length, [11, 8])]) (by kernel_rfl) (by kernel_rfl) ?_ ?_ ?_ ?_
        · exact List.forall_mem_cons.2 ⟨List.forall_mem_cons.2 ⟨by kernel_rfl, List.forall_mem_nil _⟩, List.forall_mem_cons.2 ⟨List.forall_mem_cons.2 ⟨by kernel_rfl, List.forall_mem_cons.2 ⟨by kernel_rfl, List.forall_mem_nil _⟩⟩, List.forall_mem_nil _⟩⟩
        · exact List.forall_mem_cons.2 ⟨⟨⟨_, none, 0, rfl⟩, fun _ _ _ _ _ => trivial, fun _ _ _ _ _ => trivial, List.forall_mem_cons.2 ⟨fun _ _ _ _ _ _ _ _ _ => trivial, List.forall_mem_cons.2 ⟨fun _ _ _ _ _ _ _ _ _ => trivial, List.forall_mem_nil _⟩⟩⟩, List.forall_mem_cons.2 ⟨⟨⟨_, 0, rfl⟩, fun u v w h ht => by show (fun u w => OwnG wc8 w (u 8).v [] [u 8] : (Nat → GV) → World → Prop) v w; dsimp only; rw [← h 8 (.inl rfl) (by kernel_rfl)]; exact ht, fun u w w2 hx ht => ht.ext hx, List.forall_mem_cons.2 ⟨fun _ hp => by first | (intro u w w2 hap haq hc ht; refine ht.chg hc ?_; simp; done) | exact rg_vac hp (by kernel_rfl), List.forall_mem_cons.2 ⟨fun _ hp => by first | (intro u w w2 hap haq hc ht; refine ht.chg hc ?_; simp; done) | exact rg_vac hp (by kernel_rfl), List.forall_mem_nil _⟩⟩⟩, List.forall_mem_cons.2 ⟨⟨⟨_, none, 0, rfl⟩, fun u v w h ht => by show (fun u w => OwnG wc8 w (u 11).v s.glob [u 11, u 8] : (Nat → GV) → World → Prop) v w; dsimp only; rw [← h 11 (.inl rfl) (by kernel_rfl), ← h 8 (.inr (by kernel_rfl)) (by kernel_rfl)]; exact ht, fun u w w2 hx ht => ht.ext hx, List.forall_mem_cons.2 ⟨fun hne => absurd rfl hne, List.forall_mem_cons.2 ⟨fun _ hp => by first | (intro u w w2 hap haq hc ht; refine ht.chg hc ?_; simp; done) | exact rg_vac hp (by kernel_rfl), List.forall_mem_nil _⟩⟩⟩, List.forall_mem_cons.2 ⟨⟨⟨_, none, 0, rfl⟩, fun u v w h ht => by show (fun u w => OwnG wc8 w (u 14).v (St.queueOf x) [u 14] : (Nat → GV) → World → Prop) v w; dsimp only; rw [← h 14 (.inl rfl) (by kernel_rfl)]; exact ht, fun u w w2 hx ht => ht.ext hx, List.forall_mem_cons.2 ⟨fun _ hp => by first | (intro u w w2 hap haq hc ht; (refine ht.far hc ?_; simpa using hap); done) | exact rg_vac hp (by kernel_rfl), List.forall_mem_cons.2 ⟨fun _ hp => by first | (intro u w w2 hap haq hc ht; (refine ht.far hc ?_; simpa using hap); done) | exact rg_vac hp (by kernel_rfl), List.forall_mem_nil _⟩⟩⟩, List.forall_mem_cons.2 ⟨⟨⟨_, none, 0, rfl⟩, fun u v w h ht => by show (fun u w => OwnG wc8 w (u 15).v (s.glob ++ St.queueOf x) [u 15, u 11, u 8] : (Nat → GV) → World → Prop) v w; dsimp only; rw [← h 15 (.inl rfl) (by kernel_rfl), ← h 11 (.inr (by kernel_rfl)) (by kernel_rfl), ← h 8 (.inr (by kernel_rfl)) (by kernel_rfl)]; exact ht, fun u w w2 hx ht => ht.ext hx, List.forall_mem_cons.2 ⟨fun _ hp => by first | (intro u w w2 hap haq hc ht; refine ht.chg hc ?_; simp; done) | exact rg_vac hp (by kernel_rfl), List.forall_mem_cons.2 ⟨fun hne => absurd rfl hne, List.forall_mem_nil _⟩⟩⟩, List.forall_mem_cons.2 ⟨⟨⟨_, rfl⟩, fun _ _ _ _ _ => trivial, fun _ _ _ _ _ => trivial, List.forall_mem_cons.2 ⟨fun _ _ _ _ _ _ _ _ _ => trivial, List.forall_mem_cons.2 ⟨fun _ _ _ _ _ _ _ _ _ => trivial, List.forall_mem_nil _⟩⟩⟩, List.forall_mem_nil _⟩⟩⟩⟩⟩⟩
        · first | assumption | exact Ext.refl _
        refine rg_pure (v := stV hc sc) rfl (by kernel_rfl) (by kernel_rfl) (fun w hS hN => ?_) ?_
        · clear hN
          exact givesP_load 32 _ rfl _ (by go_simp) (stL hc sc) _ rfl _ (range_row (hS.blk HBS8.out)) Try.underlying32 rfl (by kernel_rfl)
        refine rg_pure (v := ?_) rfl (by kernel_rfl) (by kernel_rfl) (fun w hS hN => ?_) ?_
        rotate_left 1
        · clear hN
          go_simp
          refine givesP_mk ?_
          with_reducible rfl
        refine rg_mem (fun u => ∃ A c, u = .slice A 0 c : Value → Prop) (fun _ _ => True : (Nat → GV) → World → Prop) (fun _ => Ext) rfl rfl rfl rfl (by kernel_rfl) (by kernel_rfl) (fun w hS hN R hR => ?_) ?_
        · have HR := Lib.hid hR
          clear hR
          (try clear hN)
          go_simp
          refine givesM_call ((rQueue_any hc sc p [] HQC.out w (KC.out.ext hS) HFC.out).mono ?_)
          rintro e w' ⟨A, c, rfl, -, hx⟩
          exact ⟨_, rfl, HR.out _ _ ⟨A, c, rfl⟩ trivial hx⟩
        rintro u2 s2 t2 ⟨A2, c2, rfl⟩
        refine rg_pure (v := ?_) rfl (by kernel_rfl) (by kernel_rfl) (fun w hS hN => ?_) ?_
        rotate_left 1
        · clear hN
          go_simp
          refine givesP_mk ?_
          with_reducible rfl
        refine rg_pure (v := ?_) rfl (by kernel_rfl) (by kernel_rfl) (fun w hS hN => ?_) ?_
        rotate_left 1
        · clear hN
          go_simp
          refine givesP_mk ?_
          with_reducible rfl
        refine rg_pure (v := ?_) rfl (by kernel_rfl) (by kernel_rfl) (fun w hS hN => ?_) ?_
        rotate_left 1
        · clear hN
          go_simp
          refine givesP_mk ?_
          with_reducible rfl
        refine rg_pure (v := ?_) rfl (by kernel_rfl) (by kernel_rfl) (fun w hS hN => ?_) ?_
        rotate_left 1
        · clear hN
          go_simp
          refine givesP_mk ?_
          with_reducible rfl
        refine rg_pure (v := ?_) rfl (by kernel_rfl) (by kernel_rfl) (fun w hS hN => ?_) ?_
        rotate_left 1
        · have k7 := K7.out w hS
          clear hN
          go_simp
          refine givesP_mk ?_
          with_reducible rfl
        refine rg_mem (fun u => ∃ g, u = .slice (some ⟨g, 0, none⟩) 0 0 : Value → Prop) (fun u w => OwnG wc8 w (u 8).v [] [u 8] : (Nat → GV) → World → Prop) (fun _ => Ext) rfl rfl rfl rfl (by kernel_rfl) (by kernel_rfl) (fun w hS hN R hR => ?_) ?_
        · have HR := Lib.hid hR
          clear hR
          (try clear hN)
          go_simp
          exact givesM_val (HR.out _ _ ⟨_, rfl⟩ (OwnG.made hS _) ((Ext.refl w).alloc _))
        rintro u8 s8 t8 ⟨g8, rfl⟩
        refine rg_pure (v := ?_) rfl (by kernel_rfl) (by kernel_rfl) (fun w hS hN => ?_) ?_
        rotate_left 1
        · clear hN
          go_simp
          refine givesP_mk ?_
          with_reducible rfl
        refine rg_pure (v := ?_) rfl (by kernel_rfl) (by kernel_rfl) (fun w hS hN => ?_) ?_
        rotate_left 1
        · have k10 := K10.out w hS
          clear hN
          go_simp
          refine givesP_mk ?_
          with_reducible rfl
        refine rg_mem (fun u => ∃ A c, u = .slice A s.glob.length c : Value → Prop) (fun u w => OwnG wc8 w (u 11).v s.glob [u 11, u 8] : (Nat → GV) → World → Prop) (fun u => ChgIn (wc8) (0) ([8].map u)) rfl rfl rfl rfl (by kernel_rfl) (by kernel_rfl) (fun w hS hN R hR => ?_) ?_
        · have HR := Lib.hid hR
          clear hR
          have h3 : OwnG wc8 w (.slice (some ⟨g8, 0, none⟩) 0 0) [] _ := hN.get 8 rfl (by kernel_rfl)
          have hgl := HGL.out
          obtain ⟨u', w', hr, ⟨A', c', rfl⟩, ho, hin, hc⟩ := OwnInts.append_chg 27 hS h3.1 h3.2 ((KS.out.ext hS).glob) (by simp; omega)
          simp only [List.length_nil, Nat.zero_add, List.nil_append] at hr ho hin hc
          refine givesM_append _ _ 27 rfl _ _ (by go_simp) (by go_simp) hr ?_
          exact HR.out _ _ ⟨_, _, rfl⟩ ⟨ho, hin⟩ hc
        rintro u11 s11 t11 ⟨A11, c11, rfl⟩
        refine rg_pure (v := stV h s) rfl (by kernel_rfl) (by kernel_rfl) (fun w hS hN => ?_) ?_
        · clear hN
          exact givesP_load 32 _ rfl _ (by go_simp) (stL h s) _ rfl _ (range_row (hS.blk BS.out)) Try.underlying32 rfl (by kernel_rfl)
        refine rg_pure (v := ?_) rfl (by kernel_rfl) (by kernel_rfl) (fun w hS hN => ?_) ?_
        rotate_left 1
        · clear hN
          go_simp
          refine givesP_mk ?_
          with_reducible rfl
        refine rg_mem (fun u => ∃ A c, u = .slice A (St.queueOf x).length c : Value → Prop) (fun u w => OwnG wc8 w (u 14).v (St.queueOf x) [u 14] : (Nat → GV) → World → Prop) (fun _ => Ext) rfl rfl rfl rfl (by kernel_rfl) (by kernel_rfl) (fun w hS hN R hR => ?_) ?_
        · have HR := Lib.hid hR
          clear hR
          (try clear hN)
          go_simp
          refine givesM_call ((rQueue_any h s p _ HQS.out w (KS.out.ext hS) HF.out).mono ?_)
          rintro e w' ⟨A, c, rfl, ho, hx⟩
          exact ⟨_, rfl, HR.out _ _ ⟨_, _, rfl⟩ ⟨OwnInts.lower ho hS.size, InB.of_lt fun k hk => World.ownsRow.lt ho k hk⟩ hx⟩
        rintro u14 s14 t14 ⟨A14, c14, rfl⟩
        refine rg_mem (fun u => ∃ A c, u = .slice A (s.glob.length + (St.queueOf x).length) c : Value → Prop) (fun u w => OwnG wc8 w (u 15).v (s.glob ++ St.queueOf x) [u 15, u 11, u 8] : (Nat → GV) → World → Prop) (fun u => ChgIn (wc8) (s.glob.length) ([11, 8].map u)) rfl rfl rfl rfl (by kernel_rfl) (by kernel_rfl) (fun w hS hN R hR => ?_) ?_
        · have HR := Lib.hid hR
          clear hR
          have h5 : OwnG wc8 w (.slice A11 s.glob.length c11) s.glob _ := hN.get 11 rfl (by kernel_rfl)
          have h14 : OwnG wc8 w (.slice A14 (St.queueOf x).length c14) (St.queueOf x) _ := hN.get 14 rfl (by kernel_rfl)
          have hss := HSS.out
          obtain ⟨u', w', hr, ⟨A', c', rfl⟩, ho, hin, hc⟩ := OwnInts.append_chg 27 hS h5.1 h5.2 h14.ints (by omega)
          refine givesM_append _ _ 27 rfl _ _ (by go_simp) (by go_simp) hr ?_
          exact HR.out _ _ ⟨_, _, rfl⟩ ⟨ho, hin⟩ hc
        rintro u15 s15 t15 ⟨A15, c15, rfl⟩
        refine rg_mem (fun u => u = .bool true : Value → Prop) (fun _ _ => True : (Nat → GV) → World → Prop) (fun _ => Ext) rfl rfl rfl rfl (by kernel_rfl) (by kernel_rfl) (fun w hS hN R hR => ?_) ?_
        · have HR := Lib.hid hR
          clear hR
          have h7 : OwnG wc8 w (.slice A15 (s.glob.length + (St.queueOf x).length) c15) (s.glob ++ St.queueOf x) _ := hN.get 15 rfl (by kernel_rfl)
          (try clear hN)
          go_simp
          have i7 := h7.ints
          rw [List.length_append] at i7
          have ig := (KC.out.ext hS).glob
          rw [HGC.out, List.length_append] at ig
          have hss := HSS.out
          refine givesM_call ((rints_self' _ _ (s.glob ++ St.queueOf x) w ig i7 (by rw [List.length_append]; omega)).mono ?_)
          rintro e w' ⟨rfl, hx⟩
          exact ⟨_, rfl, HR.out _ _ rfl trivial hx⟩
        rintro u16 s16 t16 rfl
        refine rg_pure (v := ?_) rfl (by kernel_rfl) (by kernel_rfl) (fun w hS hN => ?_) ?_
        rotate_left 1
        · clear hN
          go_simp
          refine givesP_mk ?_
          with_reducible rfl
        refine rg_pure (v := ?_) rfl (by kernel_rfl) (by kernel_rfl) (fun w hS hN => ?_) ?_
        rotate_left 1
        · clear hN
          go_simp
          refine givesP_mk ?_
          with_reducible rfl
        refine rg_done rfl (Nat.le_of_ble_eq_true (by kernel_rfl)) ?_
        intro w8 hS hT
        have HS := Lib.hid (HX1.out.trans (XE.out.trans hS))
        clear hT hS
        go_simp
        go_wp2
        go_ret
        exact ⟨rfl, HS.out⟩
    · refine (rdYield_any h s n _ hy wz (HK1.out.ext XZ.out) HF.out).mono ?_
      rintro e wx ⟨hb, rfl, ⟨I, hap⟩, hxx⟩
      simp only at hap ⊢
      have HXX := Lib.hid (XZ.out.trans hxx)
      obtain ⟨wb5, wc5, hwb, hwc, hth, hbc, hxc⟩ := st_box wx hb sb
      obtain ⟨B5, hB⟩ : ∃ B5, wx.heap.size = B5 := ⟨_, rfl⟩
      rw [hB] at hwc hth hbc
      have HWB5 := Lib.hid hwb
      have HB5 := Lib.hid hB
      have HWC5 := Lib.hid hwc
      have HTH5 := Lib.hid hth
      have HBS5 := Lib.hid hbc
      have HXC5 := Lib.hid hxc
      clear hwb hwc hth hbc hxc hB
      have X5 : Hid (Ext w1 wc5) := Lib.hid (HXX.out.trans HXC5.out)
      have hjl := (List.getElem?_eq_some_iff.1 hmj).1
      have hgi : IntsAt wc5 (.slice hb.la (s.glob.length + 1) hb.lc) (s.glob ++ [(k : Int) + 1]) := by have := (hap.glob.1.at.2).ext HXC5.out; rw [hgl, List.length_append] at this; exact this
      obtain ⟨bl, ol, hbl, hblt, hblc⟩ := ints_get hgi (k := s.glob.length) (x := (k : Int) + 1) (by simp)
      obtain ⟨bm, om, hbm, hbmt, hbmc⟩ := ((OwnRows.rows pairL_len hap.ms.1).ext HXC5.out).get hmb
      obtain ⟨bn, on, hbn, hbnt, hbnc⟩ := ((HK1.out.ext X5.out).ms).get hmj
      have KB4 : Hid (∀ v, Ext wc5 v → v.cell? ⟨B5, 4, none⟩ = some (.slice (some ⟨bl, ol, none⟩) (s.glob.length + 1) hb.lc)) := Lib.hid fun v hv => by have := st4 (hv.blk HBS5.out); rw [hgl, hbl, List.length_append] at this; exact this
      have KS4 : Hid (∀ v, Ext wc5 v → v.cell? ⟨W0, 4, none⟩ = some (.slice h.la s.glob.length h.lc)) := Lib.hid fun v hv => st4 (hv.blk (X5.out.blk HB1.out))
      have KB15 : Hid (∀ v, Ext wc5 v → v.cell? ⟨bl, ol + s.glob.length, none⟩ = some (.int .i64 ((k : Int) + 1))) := Lib.hid fun v hv => by rw [Below.cell (p := ⟨bl, ol + s.glob.length, none⟩) hv hblt]; exact hblc
      have KB3 : Hid (∀ v, Ext wc5 v → v.cell? ⟨B5, 3, none⟩ = some (.slice (some ⟨bm, om, none⟩) s.ms.length hb.mc)) := Lib.hid fun v hv => by have := st3 (hv.blk HBS5.out); rw [hml, hbm] at this; exact this
      have KB26 : Hid (∀ v, Ext wc5 v → v.cell? ⟨bm, om + j * 2 + 1, none⟩ = some (.int .i64 0)) := Lib.hid fun v hv => by rw [Below.cell (p := ⟨bm, om + j * 2 + 1, none⟩) hv hbmt]; exact hbmc 1 _ rfl
      have KB36 : Hid (∀ v, Ext wc5 v → v.cell? ⟨bm, om + j * 2, none⟩ = some (.int .i64 mp)) := Lib.hid fun v hv => by rw [Below.cell (p := ⟨bm, om + j * 2, none⟩) hv hbmt]; exact hbmc 0 _ rfl
      have KS3 : Hid (∀ v, Ext wc5 v → v.cell? ⟨W0, 3, none⟩ = some (.slice (some ⟨bn, on, none⟩) s.ms.length h.mc)) := Lib.hid fun v hv => by have := st3 (hv.blk (X5.out.blk HB1.out)); rw [hbn] at this; exact this
      have KS43 : Hid (∀ v, Ext wc5 v → v.cell? ⟨bn, on + j * 2, none⟩ = some (.int .i64 mp)) := Lib.hid fun v hv => by rw [Below.cell (p := ⟨bn, on + j * 2, none⟩) hv hbnt]; exact hbnc 0 _ rfl
      have KS8 : Hid (∀ v, Ext wc5 v → v.cell? ⟨bn, on + j * 2 + 1, none⟩ = some (.int .i64 ((k : Int) + 1))) := Lib.hid fun v hv => by rw [Below.cell (p := ⟨bn, on + j * 2 + 1, none⟩) hv hbnt]; exact hbnc 1 _ rfl
      have e1 : (j : Int) + 1 - 1 = (j : Int) := by omega
      have e4 : (j : Int) < (s.ms.length : Int) := by omega
      have e5 : (j : Int) < 100000 := by have := HF.out.ms; omega
      have e6 : (s.glob.length : Int) ≤ 80 := by have := HGL.out; omega
      have e7 : (s.glob.length : Int) < (s.glob.length : Int) + 1 := by omega
      have hwg : IntKind.i64.wrap ((s.glob.length : Int) + 1) = (s.glob.length : Int) + 1 := IntWalk.i64_in _ (by omega)
      have hwj : IntKind.i64.wrap (j : Int) = (j : Int) := IntWalk.i64_in _ (by omega)
      have q3 := KS3.out wc5 (Ext.refl _)
      have q8 := KS8.out wc5 (Ext.refl _)
      rw [hnj]
      clear hxx HLD hy hjl hgi hbl hblt hblc hbm hbmt hbmc hbn hbnt hbnc hmj hyk hgl hmb hml hap
      go_upto_region 9 with (first | rw [HWB5.out, HB5.out] | (refine wpList_store_row rfl 32 _ _ rfl B5 (stL hb sb) (stV hb sb) (by go_simp) (by go_simp) rfl HTH5.out (by kernel_rfl) (stL_one _ _) HWC5.out ?_))
      clear q3 q8
      refine region_rgx ([]) (wc5) (by kernel_rfl) (by kernel_rfl) ?_ ?_ ?_
      · exact List.forall_mem_nil _
      · first | assumption | exact Ext.refl _
      refine rg_pure (v := ?_) rfl (by kernel_rfl) (by kernel_rfl) (fun w hS hN => ?_) ?_
      rotate_left 1
      · clear hN
        go_simp
        refine givesP_mk ?_
        with_reducible rfl
      refine rg_pure (v := ?_) rfl (by kernel_rfl) (by kernel_rfl) (fun w hS hN => ?_) ?_
      rotate_left 1
      · have k1 := KB4.out w hS
        clear hN
        go_simp
        refine givesP_mk ?_
        with_reducible rfl
      refine rg_pure (v := ?_) rfl (by kernel_rfl) (by kernel_rfl) (fun w hS hN => ?_) ?_
      rotate_left 1
      · clear hN
        go_simp
        refine givesP_mk ?_
        with_reducible rfl
      refine rg_pure (v := ?_) rfl (by kernel_rfl) (by kernel_rfl) (fun w hS hN => ?_) ?_
      rotate_left 1
      · clear hN
        go_simp
        refine givesP_mk ?_
        with_reducible rfl
      refine rg_pure (v := ?_) rfl (by kernel_rfl) (by kernel_rfl) (fun w hS hN => ?_) ?_
      rotate_left 1
      · have k1 := KS4.out w hS
        clear hN
        go_simp
        refine givesP_mk ?_
        with_reducible rfl
      refine rg_pure (v := ?_) rfl (by kernel_rfl) (by kernel_rfl) (fun w hS hN => ?_) ?_
      rotate_left 1
      · clear hN
        go_simp
        refine givesP_mk ?_
        with_reducible rfl
      refine rg_pure (v := ?_) rfl (by kernel_rfl) (by kernel_rfl) (fun w hS hN => ?_) ?_
      rotate_left 1
      · clear hN
        go_simp
        refine givesP_mk ?_
        with_reducible rfl
      refine rg_pure (v := ?_) rfl (by kernel_rfl) (by kernel_rfl) (fun w hS hN => ?_) ?_
      rotate_left 1
      · clear hN
        go_simp
        refine givesP_mk ?_
        with_reducible rfl
      refine rg_pure (v := ?_) rfl (by kernel_rfl) (by kernel_rfl) (fun w hS hN => ?_) ?_
      rotate_left 1
      · clear hN
        go_simp
        refine givesP_mk ?_
        with_reducible rfl
      refine rg_pure (v := ?_) rfl (by kernel_rfl) (by kernel_rfl) (fun w hS hN => ?_) ?_
      rotate_left 1
      · clear hN
        go_simp
        refine givesP_mk ?_
        with_reducible rfl
      refine rg_pure (v := ?_) rfl (by kernel_rfl) (by kernel_rfl) (fun w hS hN => ?_) ?_
      rotate_left 1
      · have k1 := KB4.out w hS
        clear hN
        go_simp
        refine givesP_mk ?_
        with_reducible rfl
      refine rg_pure (v := ?_) rfl (by kernel_rfl) (by kernel_rfl) (fun w hS hN => ?_) ?_
      rotate_left 1
      · clear hN
        go_simp
        refine givesP_mk ?_
        with_reducible rfl
      refine rg_pure (v := ?_) rfl (by kernel_rfl) (by kernel_rfl) (fun w hS hN => ?_) ?_
      rotate_left 1
      · have k1 := KS4.out w hS
        clear hN
        go_simp
        refine givesP_mk ?_
        with_reducible rfl
      refine rg_pure (v := ?_) rfl (by kernel_rfl) (by kernel_rfl) (fun w hS hN => ?_) ?_
      rotate_left 1
      · clear hN
        go_simp
        refine givesP_mk ?_
        with_reducible rfl
      refine rg_pure (v := ?_) rfl (by kernel_rfl) (by kernel_rfl) (fun w hS hN => ?_) ?_
      rotate_left 1
      · clear hN
        go_simp
        refine givesP_mk ?_
        with_reducible rfl
      refine rg_pure (v := ?_) rfl (by kernel_rfl) (by kernel_rfl) (fun w hS hN => ?_) ?_
      rotate_left 1
      · have k1 := KB15.out w hS
        clear hN
        go_simp
        refine givesP_mk ?_
        with_reducible rfl
      refine rg_pure (v := ?_) rfl (by kernel_rfl) (by kernel_rfl) (fun w hS hN => ?_) ?_
      rotate_left 1
      · clear hN
        go_simp
        refine givesP_mk ?_
        with_reducible rfl
      refine rg_pure (v := ?_) rfl (by kernel_rfl) (by kernel_rfl) (fun w hS hN => ?_) ?_
      rotate_left 1
      · clear hN
        go_simp
        refine givesP_mk ?_
        with_reducible rfl
      refine rg_pure (v := ?_) rfl (by kernel_rfl) (by kernel_rfl) (fun w hS hN => ?_) ?_
      rotate_left 1
      · clear hN
        go_simp
        refine givesP_mk ?_
        with_reducible rfl
      refine rg_pure (v := ?_) rfl (by kernel_rfl) (by kernel_rfl) (fun w hS hN => ?_) ?_
      rotate_left 1
      · clear hN
        go_simp
        refine givesP_mk ?_
        with_reducible rfl
      refine rg_pure (v := ?_) rfl (by kernel_rfl) (by kernel_rfl) (fun w hS hN => ?_) ?_
      rotate_left 1
      · clear hN
        go_simp
        refine givesP_mk ?_
        with_reducible rfl
      refine rg_pure (v := ?_) rfl (by kernel_rfl) (by kernel_rfl) (fun w hS hN => ?_) ?_
      rotate_left 1
      · have k1 := KB3.out w hS
        clear hN
        go_simp
        refine givesP_mk ?_
        with_reducible rfl
      refine rg_pure (v := ?_) rfl (by kernel_rfl) (by kernel_rfl) (fun w hS hN => ?_) ?_
      rotate_left 1
      · clear hN
        go_simp
        refine givesP_mk ?_
        with_reducible rfl
      refine rg_pure (v := ?_) rfl (by kernel_rfl) (by kernel_rfl) (fun w hS hN => ?_) ?_
      rotate_left 1
      · clear hN
        go_simp
        refine givesP_mk ?_
        with_reducible rfl
      refine rg_pure (v := ?_) rfl (by kernel_rfl) (by kernel_rfl) (fun w hS hN => ?_) ?_
      rotate_left 1
      · clear hN
        go_simp
        refine givesP_mk ?_
        with_reducible rfl
      refine rg_pure (v := ?_) rfl (by kernel_rfl) (by kernel_rfl) (fun w hS hN => ?_) ?_
      rotate_left 1
      · clear hN
        go_simp
        refine givesP_mk ?_
        with_reducible rfl
      refine rg_pure (v := ?_) rfl (by kernel_rfl) (by kernel_rfl) (fun w hS hN => ?_) ?_
      rotate_left 1
      · have k1 := KB26.out w hS
        clear hN
        go_simp
        refine givesP_mk ?_
        with_reducible rfl
      refine rg_pure (v := ?_) rfl (by kernel_rfl) (by kernel_rfl) (fun w hS hN => ?_) ?_
      rotate_left 1
      · clear hN
        go_simp
        refine givesP_mk ?_
        with_reducible rfl
      refine rg_pure (v := ?_) rfl (by kernel_rfl) (by kernel_rfl) (fun w hS hN => ?_) ?_
      rotate_left 1
      · clear hN
        go_simp
        refine givesP_mk ?_
        with_reducible rfl
      refine rg_pure (v := ?_) rfl (by kernel_rfl) (by kernel_rfl) (fun w hS hN => ?_) ?_
      rotate_left 1
      · clear hN
        go_simp
        refine givesP_mk ?_
        with_reducible rfl
      refine rg_pure (v := ?_) rfl (by kernel_rfl) (by kernel_rfl) (fun w hS hN => ?_) ?_
      rotate_left 1
      · clear hN
        go_simp
        refine givesP_mk ?_
        with_reducible rfl
      refine rg_pure (v := ?_) rfl (by kernel_rfl) (by kernel_rfl) (fun w hS hN => ?_) ?_
      rotate_left 1
      · have k1 := KB3.out w hS
        clear hN
        go_simp
        refine givesP_mk ?_
        with_reducible rfl
      refine rg_pure (v := ?_) rfl (by kernel_rfl) (by kernel_rfl) (fun w hS hN => ?_) ?_
      rotate_left 1
      · clear hN
        go_simp
        refine givesP_mk ?_
        with_reducible rfl
      refine rg_pure (v := ?_) rfl (by kernel_rfl) (by kernel_rfl) (fun w hS hN => ?_) ?_
      rotate_left 1
      · clear hN
        go_simp
        refine givesP_mk ?_
        with_reducible rfl
      refine rg_pure (v := ?_) rfl (by kernel_rfl) (by kernel_rfl) (fun w hS hN => ?_) ?_
      rotate_left 1
      · clear hN
        go_simp
        refine givesP_mk ?_
        with_reducible rfl
      refine rg_pure (v := ?_) rfl (by kernel_rfl) (by kernel_rfl) (fun w hS hN => ?_) ?_
      rotate_left 1
      · clear hN
        go_simp
        refine givesP_mk ?_
        with_reducible rfl
      refine rg_pure (v := ?_) rfl (by kernel_rfl) (by kernel_rfl) (fun w hS hN => ?_) ?_
      rotate_left 1
      · have k1 := KB36.out w hS
        clear hN
        go_simp
        refine givesP_mk ?_
        with_reducible rfl
      refine rg_pure (v := ?_) rfl (by kernel_rfl) (by kernel_rfl) (fun w hS hN => ?_) ?_
      rotate_left 1
      · clear hN
        go_simp
        refine givesP_mk ?_
        with_reducible rfl
      refine rg_pure (v := ?_) rfl (by kernel_rfl) (by kernel_rfl) (fun w hS hN => ?_) ?_
      rotate_left 1
      · have k1 := KS3.out w hS
        clear hN
        go_simp
        refine givesP_mk ?_
        with_reducible rfl
      refine rg_pure (v := ?_) rfl (by kernel_rfl) (by kernel_rfl) (fun w hS hN => ?_) ?_
      rotate_left 1
      · clear hN
        go_simp
        refine givesP_mk ?_
        with_reducible rfl
      refine rg_pure (v := ?_) rfl (by kernel_rfl) (by kernel_rfl) (fun w hS hN => ?_) ?_
      rotate_left 1
      · clear hN
        go_simp
        refine givesP_mk ?_
        with_reducible rfl
      refine rg_pure (v := ?_) rfl (by kernel_rfl) (by kernel_rfl) (fun w hS hN => ?_) ?_
      rotate_left 1
      · clear hN
        go_simp
        refine givesP_mk ?_
        with_reducible rfl
      refine rg_pure (v := ?_) rfl (by kernel_rfl) (by kernel_rfl) (fun w hS hN => ?_) ?_
      rotate_left 1
      · clear hN
        go_simp
        refine givesP_mk ?_
        with_reducible rfl
      refine rg_pure (v := ?_) rfl (by kernel_rfl) (by kernel_rfl) (fun w hS hN => ?_) ?_
      rotate_left 1
      · have k1 := KS43.out w hS
        clear hN
        go_simp
        refine givesP_mk ?_
        with_reducible rfl
      refine rg_pure (v := ?_) rfl (by kernel_rfl) (by kernel_rfl) (fun w hS hN => ?_) ?_
      rotate_left 1
      · clear hN
        go_simp
        refine givesP_mk ?_
        with_reducible rfl
      refine rg_pure (v := ?_) rfl (by kernel_rfl) (by kernel_rfl) (fun w hS hN => ?_) ?_
      rotate_left 1
      · clear hN
        go_simp
        refine givesP_mk ?_
        with_reducible rfl
      refine rg_done rfl (Nat.le_of_ble_eq_true (by kernel_rfl)) ?_
      intro wy hS hT
      have XY := Lib.hid (X5.out.trans hS)
      clear hT hS KB4 KS4 KB15 KB3 KB26 KB36 KS3 KS43 KS8
      go_simp
      go_upto_region 11 with fail
      clear e1 e4 e5 e6 e7 hwj hwg
      have HLD := Lib.hid (XY.out.blk HB1.out)
      go_wp2_with (refine wpList_load_rowW (by rfl) 32 _ rfl W0 (by go_simp) (stL h s) (stV h s) rfl _ (range_row HLD.out) Try.underlying32 rfl (by kernel_rfl) ?_)
      rcases St.drain_cases s p with hd | ⟨i, x, hpi, hm, hpp, hx, hd⟩
      · refine (rdDrain_any h s p _ hd wy (HK1.out.ext XY.out) HF.out).mono ?_
        rintro e wx ⟨hc, rfl, -, hxx⟩
        simp only
        have HXX := Lib.hid (XY.out.trans hxx)
        obtain ⟨wb7, wc7, hwb, hwc, hth, hbc, hxc⟩ := st_box wx hc St.nil
        obtain ⟨B7, hB⟩ : ∃ B7, wx.heap.size = B7 := ⟨_, rfl⟩
        rw [hB] at hwc hth hbc
        have HWB7 := Lib.hid hwb
        have HB7 := Lib.hid hB
        have HWC7 := Lib.hid hwc
        have HTH7 := Lib.hid hth
        have HBS7 := Lib.hid hbc
        have HXC7 := Lib.hid hxc
        clear hwb hwc hth hbc hxc hB
        clear hxx HLD
        have HEND := Lib.hid (HX1.out.trans (HXX.out.trans HXC7.out))
        go_wp2_with (first | rw [HWB7.out, HB7.out] | (refine wpList_store_row rfl 32 _ _ rfl B7 (stL hc St.nil) (stV hc St.nil) (by go_simp) (by go_simp) rfl HTH7.out (by kernel_rfl) (stL_one _ _) HWC7.out ?_))
        go_ret
        exact ⟨rfl, HEND.out⟩
      · refine (rdDrain_any h s p _ hd wy (HK1.out.ext XY.out) HF.out).mono ?_
        rintro e wx ⟨hc, rfl, ⟨I, hap⟩, hxx⟩
        simp only at hap ⊢
        have hkb := St.dried_buf (i := i) (x := x) HK1.out.buf
        have HPI := Lib.hid hpi
        have HQS : Hid (s.queue p = St.queueOf x) := Lib.hid (by rw [hpi]; exact St.queue_yes hpp.2 hm hx)
        obtain ⟨sc, hsc⟩ : ∃ sc, s.dried i x = sc := ⟨_, rfl⟩
        have HQC : Hid (sc.queue p = []) := Lib.hid (by rw [← hsc, hpi]; exact queue_dry hm hpp hx)
        have HFC : Hid (StFew sc) := Lib.hid (by rw [← hsc]; exact St.dried_few HF.out HGL.out)
        have HGC : Hid (sc.glob = s.glob ++ St.queueOf x) := Lib.hid (by rw [← hsc]; rfl)
        have HQL := Lib.hid (queueOf_len x)
        rw [hsc] at hap hkb ⊢
        have HKC := Lib.hid (hap.ok hkb)
        have HXX := Lib.hid (XY.out.trans hxx)
        obtain ⟨wb8, wc8, hwb, hwc, hth, hbc, hxc⟩ := st_box wx hc sc
        obtain ⟨B8, hB⟩ : ∃ B8, wx.heap.size = B8 := ⟨_, rfl⟩
        rw [hB] at hwc hth hbc
        have HWB8 := Lib.hid hwb
        have HB8 := Lib.hid hB
        have HWC8 := Lib.hid hwc
        have HTH8 := Lib.hid hth
        have HBS8 := Lib.hid hbc
        have HXC8 := Lib.hid hxc
        clear hwb hwc hth hbc hxc hB
        clear hap hkb hpi hm hpp hx hd hsc hxx HLD
        go_upto_region 14 with (first | rw [HWB8.out, HB8.out] | (refine wpList_store_row rfl 32 _ _ rfl B8 (stL hc sc) (stV hc sc) (by go_simp) (by go_simp) rfl HTH8.out (by kernel_rfl) (stL_one _ _) HWC8.out ?_))
        have XE : Hid (Ext w1 wc8) := Lib.hid (HXX.out.trans HXC8.out)
        have KC := Lib.hid (HKC.out.ext HXC8.out)
        have KS := Lib.hid (HK1.out.ext XE.out)
        have BS := Lib.hid (XE.out.blk HB1.out)
        have HCL : Hid (sc.glob.length = s.glob.length + (St.queueOf x).length) := Lib.hid (by rw [HGC.out, List.length_append])
        have HSS : Hid (s.glob.length + (St.queueOf x).length ≤ 100) := Lib.hid (by have := HGL.out; have := HQL.out; omega)
        have K7 : Hid (∀ v, Ext wc8 v → v.cell? ⟨B8, 4, none⟩ = some (.slice hc.la (s.glob.length + (St.queueOf x).length) hc.lc)) := Lib.hid fun v hv => by have := st4 (hv.blk HBS8.out); rw [HCL.out] at this; exact this
        have K10 : Hid (∀ v, Ext wc8 v → v.cell? ⟨W0, 4, none⟩ = some (.slice h.la s.glob.length h.lc)) := Lib.hid fun v hv => st4 (hv.blk BS.out)
        refine region_rgw ([(2, (fun u => ∃ A c, u = .slice A 0 c : Value → Prop), (fun _ _ => True : (Nat → GV) → World → Prop)), (8, (fun u => ∃ g, u = .slice (some ⟨g, 0, none⟩) 0 0 : Value → Prop), (fun u w => OwnG wc8 w (u 8).v [] [u 8] : (Nat → GV) → World → Prop)), (11, (fun u => ∃ A c, u = .slice A s.glob.length c : Value → Prop), (fun u w => OwnG wc8 w (u 11).v s.glob [u 11, u 8] : (Nat → GV) → World → Prop)), (14, (fun u => ∃ A c, u = .slice A (St.queueOf x).length c : Value → Prop), (fun u w => OwnG wc8 w (u 14).v (St.queueOf x) [u 14] : (Nat → GV) → World → Prop)), (15, (fun u => ∃ A c, u = .slice A (s.glob.length + (St.queueOf x).length) c : Value → Prop), (fun u w => OwnG wc8 w (u 15).v (s.glob ++ St.queueOf x) [u 15, u 11, u 8] : (Nat → GV) → World → Prop)), (16, (fun u => u = .bool true : Value → Prop), (fun _ _ => True : (Nat → GV) → World → Prop))]) (wc8) ([(11, 0, [8]), (15, s.glob.length, [11, 8])]) (by kernel_rfl) (by kernel_rfl) ?_ ?_ ?_ ?_
        · exact List.forall_mem_cons.2 ⟨List.forall_mem_cons.2 ⟨by kernel_rfl, List.forall_mem_nil _⟩, List.forall_mem_cons.2 ⟨List.forall_mem_cons.2 ⟨by kernel_rfl, List.forall_mem_cons.2 ⟨by kernel_rfl, List.forall_mem_nil _⟩⟩, List.forall_mem_nil _⟩⟩
        · exact List.forall_mem_cons.2 ⟨⟨⟨_, none, 0, rfl⟩, fun _ _ _ _ _ => trivial, fun _ _ _ _ _ => trivial, List.forall_mem_cons.2 ⟨fun _ _ _ _ _ _ _ _ _ => trivial, List.forall_mem_cons.2 ⟨fun _ _ _ _ _ _ _ _ _ => trivial, List.forall_mem_nil _⟩⟩⟩, List.forall_mem_cons.2 ⟨⟨⟨_, 0, rfl⟩, fun u v w h ht => by show (fun u w => OwnG wc8 w (u 8).v [] [u 8] : (Nat → GV) → World → Prop) v w; dsimp only; rw [← h 8 (.inl rfl) (by kernel_rfl)]; exact ht, fun u w w2 hx ht => ht.ext hx, List.forall_mem_cons.2 ⟨fun _ hp => by first | (intro u w w2 hap haq hc ht; refine ht.chg hc ?_; simp; done) | exact rg_vac hp (by kernel_rfl), List.forall_mem_cons.2 ⟨fun _ hp => by first | (intro u w w2 hap haq hc ht; refine ht.chg hc ?_; simp; done) | exact rg_vac hp (by kernel_rfl), List.forall_mem_nil _⟩⟩⟩, List.forall_mem_cons.2 ⟨⟨⟨_, none, 0, rfl⟩, fun u v w h ht => by show (fun u w => OwnG wc8 w (u 11).v s.glob [u 11, u 8] : (Nat → GV) → World → Prop) v w; dsimp only; rw [← h 11 (.inl rfl) (by kernel_rfl), ← h 8 (.inr (by kernel_rfl)) (by kernel_rfl)]; exact ht, fun u w w2 hx ht => ht.ext hx, List.forall_mem_cons.2 ⟨fun hne => absurd rfl hne, List.forall_mem_cons.2 ⟨fun _ hp => by first | (intro u w w2 hap haq hc ht; refine ht.chg hc ?_; simp; done) | exact rg_vac hp (by kernel_rfl), List.forall_mem_nil _⟩⟩⟩, List.forall_mem_cons.2 ⟨⟨⟨_, none, 0, rfl⟩, fun u v w h ht => by show (fun u w => OwnG wc8 w (u 14).v (St.queueOf x) [u 14] : (Nat → GV) → World → Prop) v w; dsimp only; rw [← h 14 (.inl rfl) (by kernel_rfl)]; exact ht, fun u w w2 hx ht => ht.ext hx, List.forall_mem_cons.2 ⟨fun _ hp => by first | (intro u w w2 hap haq hc ht; (refine ht.far hc ?_; simpa using hap); done) | exact rg_vac hp (by kernel_rfl), List.forall_mem_cons.2 ⟨fun _ hp => by first | (intro u w w2 hap haq hc ht; (refine ht.far hc ?_; simpa using hap); done) | exact rg_vac hp (by kernel_rfl), List.forall_mem_nil _⟩⟩⟩, List.forall_mem_cons.2 ⟨⟨⟨_, none, 0, rfl⟩, fun u v w h ht => by show (fun u w => OwnG wc8 w (u 15).v (s.glob ++ St.queueOf x) [u 15, u 11, u 8] : (Nat → GV) → World → Prop) v w; dsimp only; rw [← h 15 (.inl rfl) (by kernel_rfl), ← h 11 (.inr (by kernel_rfl)) (by kernel_rfl), ← h 8 (.inr (by kernel_rfl)) (by kernel_rfl)]; exact ht, fun u w w2 hx ht => ht.ext hx, List.forall_mem_cons.2 ⟨fun _ hp => by first | (intro u w w2 hap haq hc ht; refine ht.chg hc ?_; simp; done) | exact rg_vac hp (by kernel_rfl), List.forall_mem_cons.2 ⟨fun hne => absurd rfl hne, List.forall_mem_nil _⟩⟩⟩, List.forall_mem_cons.2 ⟨⟨⟨_, rfl⟩, fun _ _ _ _ _ => trivial, fun _ _ _ _ _ => trivial, List.forall_mem_cons.2 ⟨fun _ _ _ _ _ _ _ _ _ => trivial, List.forall_mem_cons.2 ⟨fun _ _ _ _ _ _ _ _ _ => trivial, List.forall_mem_nil _⟩⟩⟩, List.forall_mem_nil _⟩⟩⟩⟩⟩⟩
        · first | assumption | exact Ext.refl _
        refine rg_pure (v := stV hc sc) rfl (by kernel_rfl) (by kernel_rfl) (fun w hS hN => ?_) ?_
        · clear hN
          exact givesP_load 32 _ rfl _ (by go_simp) (stL hc sc) _ rfl _ (range_row (hS.blk HBS8.out)) Try.underlying32 rfl (by kernel_rfl)
        refine rg_pure (v := ?_) rfl (by kernel_rfl) (by kernel_rfl) (fun w hS hN => ?_) ?_
        rotate_left 1
        · clear hN
          go_simp
          refine givesP_mk ?_
          with_reducible rfl
        refine rg_mem (fun u => ∃ A c, u = .slice A 0 c : Value → Prop) (fun _ _ => True : (Nat → GV) → World → Prop) (fun _ => Ext) rfl rfl rfl rfl (by kernel_rfl) (by kernel_rfl) (fun w hS hN R hR => ?_) ?_
        · have HR := Lib.hid hR
          clear hR
          (try clear hN)
          go_simp
          refine givesM_call ((rQueue_any hc sc p [] HQC.out w (KC.out.ext hS) HFC.out).mono ?_)
          rintro e w' ⟨A, c, rfl, -, hx⟩
          exact ⟨_, rfl, HR.out _ _ ⟨A, c, rfl⟩ trivial hx⟩
        rintro u2 s2 t2 ⟨A2, c2, rfl⟩
        refine rg_pure (v := ?_) rfl (by kernel_rfl) (by kernel_rfl) (fun w hS hN => ?_) ?_
        rotate_left 1
        · clear hN
          go_simp
          refine givesP_mk ?_
          with_reducible rfl
        refine rg_pure (v := ?_) rfl (by kernel_rfl) (by kernel_rfl) (fun w hS hN => ?_) ?_
        rotate_left 1
        · clear hN
          go_simp
          refine givesP_mk ?_
          with_reducible rfl
        refine rg_pure (v := ?_) rfl (by kernel_rfl) (by kernel_rfl) (fun w hS hN => ?_) ?_
        rotate_left 1
        · clear hN
          go_simp
          refine givesP_mk ?_
          with_reducible rfl
        refine rg_pure (v := ?_) rfl (by kernel_rfl) (by kernel_rfl) (fun w hS hN => ?_) ?_
        rotate_left 1
        · clear hN
          go_simp
          refine givesP_mk ?_
          with_reducible rfl
        refine rg_pure (v := ?_) rfl (by kernel_rfl) (by kernel_rfl) (fun w hS hN => ?_) ?_
        rotate_left 1
        · have k7 := K7.out w hS
          clear hN
          go_simp
          refine givesP_mk ?_
          with_reducible rfl
        refine rg_mem (fun u => ∃ g, u = .slice (some ⟨g, 0, none⟩) 0 0 : Value → Prop) (fun u w => OwnG wc8 w (u 8).v [] [u 8] : (Nat → GV) → World → Prop) (fun _ => Ext) rfl rfl rfl rfl (by kernel_rfl) (by kernel_rfl) (fun w hS hN R hR => ?_) ?_
        · have HR := Lib.hid hR
          clear hR
          (try clear hN)
          go_simp
          exact givesM_val (HR.out _ _ ⟨_, rfl⟩ (OwnG.made hS _) ((Ext.refl w).alloc _))
        rintro u8 s8 t8 ⟨g8, rfl⟩
        refine rg_pure (v := ?_) rfl (by kernel_rfl) (by kernel_rfl) (fun w hS hN => ?_) ?_
        rotate_left 1
        · clear hN
          go_simp
          refine givesP_mk ?_
          with_reducible rfl
        refine rg_pure (v := ?_) rfl (by kernel_rfl) (by kernel_rfl) (fun w hS hN => ?_) ?_
        rotate_left 1
        · have k10 := K10.out w hS
          clear hN
          go_simp
          refine givesP_mk ?_
          with_reducible rfl
        refine rg_mem (fun u => ∃ A c, u = .slice A s.glob.length c : Value → Prop) (fun u w => OwnG wc8 w (u 11).v s.glob [u 11, u 8] : (Nat → GV) → World → Prop) (fun u => ChgIn (wc8) (0) ([8].map u)) rfl rfl rfl rfl (by kernel_rfl) (by kernel_rfl) (fun w hS hN R hR => ?_) ?_
        · have HR := Lib.hid hR
          clear hR
          have h3 : OwnG wc8 w (.slice (some ⟨g8, 0, none⟩) 0 0) [] _ := hN.get 8 rfl (by kernel_rfl)
          have hgl := HGL.out
          obtain ⟨u', w', hr, ⟨A', c', rfl⟩, ho, hin, hc⟩ := OwnInts.append_chg 27 hS h3.1 h3.2 ((KS.out.ext hS).glob) (by simp; omega)
          simp only [List.length_nil, Nat.zero_add, List.nil_append] at hr ho hin hc
          refine givesM_append _ _ 27 rfl _ _ (by go_simp) (by go_simp) hr ?_
          exact HR.out _ _ ⟨_, _, rfl⟩ ⟨ho, hin⟩ hc
        rintro u11 s11 t11 ⟨A11, c11, rfl⟩
        refine rg_pure (v := stV h s) rfl (by kernel_rfl) (by kernel_rfl) (fun w hS hN => ?_) ?_
        · clear hN
          exact givesP_load 32 _ rfl _ (by go_simp) (stL h s) _ rfl _ (range_row (hS.blk BS.out)) Try.underlying32 rfl (by kernel_rfl)
        refine rg_pure (v := ?_) rfl (by kernel_rfl) (by kernel_rfl) (fun w hS hN => ?_) ?_
        rotate_left 1
        · clear hN
          go_simp
          refine givesP_mk ?_
          with_reducible rfl
        refine rg_mem (fun u => ∃ A c, u = .slice A (St.queueOf x).length c : Value → Prop) (fun u w => OwnG wc8 w (u 14).v (St.queueOf x) [u 14] : (Nat → GV) → World → Prop) (fun _ => Ext) rfl rfl rfl rfl (by kernel_rfl) (by kernel_rfl) (fun w hS hN R hR => ?_) ?_
        · have HR := Lib.hid hR
          clear hR
          (try clear hN)
          go_simp
          refine givesM_call ((rQueue_any h s p _ HQS.out w (KS.out.ext hS) HF.out).mono ?_)
          rintro e w' ⟨A, c, rfl, ho, hx⟩
          exact ⟨_, rfl, HR.out _ _ ⟨_, _, rfl⟩ ⟨OwnInts.lower ho hS.size, InB.of_lt fun k hk => World.ownsRow.lt ho k hk⟩ hx⟩
        rintro u14 s14 t14 ⟨A14, c14, rfl⟩
        refine rg_mem (fun u => ∃ A c, u = .slice A (s.glob.length + (St.queueOf x).length) c : Value → Prop) (fun u w => OwnG wc8 w (u 15).v (s.glob ++ St.queueOf x) [u 15, u 11, u 8] : (Nat → GV) → World → Prop) (fun u => ChgIn (wc8) (s.glob.length) ([11, 8].map u)) rfl rfl rfl rfl (by kernel_rfl) (by kernel_rfl) (fun w hS hN R hR => ?_) ?_
        · have HR := Lib.hid hR
          clear hR
          have h5 : OwnG wc8 w (.slice A11 s.glob.length c11) s.glob _ := hN.get 11 rfl (by kernel_rfl)
          have h14 : OwnG wc8 w (.slice A14 (St.queueOf x).length c14) (St.queueOf x) _ := hN.get 14 rfl (by kernel_rfl)
          have hss := HSS.out
          obtain ⟨u', w', hr, ⟨A', c', rfl⟩, ho, hin, hc⟩ := OwnInts.append_chg 27 hS h5.1 h5.2 h14.ints (by omega)
          refine givesM_append _ _ 27 rfl _ _ (by go_simp) (by go_simp) hr ?_
          exact HR.out _ _ ⟨_, _, rfl⟩ ⟨ho, hin⟩ hc
        rintro u15 s15 t15 ⟨A15, c15, rfl⟩
        refine rg_mem (fun u => u = .bool true : Value → Prop) (fun _ _ => True : (Nat → GV) → World → Prop) (fun _ => Ext) rfl rfl rfl rfl (by kernel_rfl) (by kernel_rfl) (fun w hS hN R hR => ?_) ?_
        · have HR := Lib.hid hR
          clear hR
          have h7 : OwnG wc8 w (.slice A15 (s.glob.length + (St.queueOf x).length) c15) (s.glob ++ St.queueOf x) _ := hN.get 15 rfl (by kernel_rfl)
          (try clear hN)
          go_simp
          have i7 := h7.ints
          rw [List.length_append] at i7
          have ig := (KC.out.ext hS).glob
          rw [HGC.out, List.length_append] at ig
          have hss := HSS.out
          refine givesM_call ((rints_self' _ _ (s.glob ++ St.queueOf x) w ig i7 (by rw [List.length_append]; omega)).mono ?_)
          rintro e w' ⟨rfl, hx⟩
          exact ⟨_, rfl, HR.out _ _ rfl trivial hx⟩
        rintro u16 s16 t16 rfl
        refine rg_pure (v := ?_) rfl (by kernel_rfl) (by kernel_rfl) (fun w hS hN => ?_) ?_
        rotate_left 1
        · clear hN
          go_simp
          refine givesP_mk ?_
          with_reducible rfl
        refine rg_pure (v := ?_) rfl (by kernel_rfl) (by kernel_rfl) (fun w hS hN => ?_) ?_
        rotate_left 1
        · clear hN
          go_simp
          refine givesP_mk ?_
          with_reducible rfl
        refine rg_done rfl (Nat.le_of_ble_eq_true (by kernel_rfl)) ?_
        intro w8 hS hT
        have HS := Lib.hid (HX1.out.trans (XE.out.trans hS))
        clear hT hS
        go_simp
        go_wp2
        go_ret
        exact ⟨rfl, HS.out⟩
end Go.Proofs.Ytogcfndhcphpaaa
