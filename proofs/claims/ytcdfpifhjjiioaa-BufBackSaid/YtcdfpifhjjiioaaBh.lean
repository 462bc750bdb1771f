/-
  The document's answers, of batches: Events.
-/
import Derived.Test.YtcdfpifhjjiioaaBe
import Derived.Test.YtcdfpifhjjiioaaBf
set_option linter.unusedVariables false
set_option linter.unusedSimpArgs false
namespace Go.Proofs.Ytcdfpifhjjiioaa
open Go.RowKit

theorem RunAt.made {g st ba : Int} {bo : ByteArray} {w w1 : World} (hb : w1.heap[w.heap.size]? = some (.cells #[.int .i64 g, .int .i64 st, .int .i64 ba, .string bo] 35 (0, 0))) (hx : Ext w w1) :
    RunAt g st ba bo w (.slice (some ⟨w1.heap.size, 0, none⟩) 0 0) (.slice (some ⟨w1.heap.size + 1, 0, none⟩) 0 0) [] [] ((w1.alloc (.cells #[] 28)).alloc (.cells #[] 3)) := by
  have hlt := blk_lt hb
  have h1 := World.ownsRow_made (base := w.heap.size + 1) (e := 28) (size := 4) w1 #[] 0 (by omega) (by decide) rfl
  have h2 := World.ownsRow_made (base := w.heap.size + 1) (e := 3) (size := 1) (w1.alloc (.cells #[] 28)) #[] 0 (by simp; omega) (by decide) rfl
  rw [World.size_alloc] at h2
  exact ⟨⟨[], World.ownsRow.alloc h1 _, rfl, fun j e h => by simp at h⟩, h2, .inr (by simp [Value.ownBlock]), blk_alloc (blk_alloc hb _) _, (hx.alloc _).alloc _⟩
set_option maxRecDepth 100000 in
set_option maxHeartbeats 1000000 in
theorem rbevents_in (g st ba : Int) (bo : ByteArray) (w : World) (hm : Bt.may ⟨g, st, ba, bo⟩ = true) (out : List Ev × List Int × Nat × Nat) (hout : Bt.run bo (bo.size + 1) ba 0 = out) : Calls Try.prog 15 #[.agg #[.int .i64 g, .int .i64 st, .int .i64 ba, .string bo]] w (EvsPost out w) := by
  have HM := Lib.hid hm
  have HOUT := Lib.hid hout
  obtain ⟨_, hoks, hbo⟩ := Bt.may_parts hm
  have HST := Lib.hid (EvsRun.start (s := bo) (base := ba) (hoks ba (by simp)))
  simp only at hbo
  clear hm hout hoks
  obtain ⟨i0, hi, hz0, hz1, hz2⟩ := info_parts Try.infoInt
  have I0 := Lib.hid hi
  have I1 := Lib.hid hz0
  have I2 := Lib.hid hz1
  have I3 := Lib.hid hz2
  clear hi hz0 hz1 hz2
  obtain ⟨j0, hi, hz0, hz1, hz2⟩ := info_parts Try.infoEvent
  have J0 := Lib.hid hi
  have J1 := Lib.hid hz0
  have J2 := Lib.hid hz1
  have J3 := Lib.hid hz2
  clear hi hz0 hz1 hz2
  go_enter Try.func15, Try.ntmps15
  go_wp2_with fail
  refine (rbmay_eq g st ba bo true HM.out _).mono ?_
  rintro r w1 ⟨rfl, hx1⟩
  have HB1 := Lib.hid (hx1.blk (blk_new w (.cells #[.int .i64 g, .int .i64 st, .int .i64 ba, .string bo] 35)))
  have HX1 : Hid (Ext w w1) := Lib.hid (((Ext.refl w).alloc _).trans hx1)
  clear hx1
  have c2 := blk_cell (blk_alloc (blk_alloc HB1.out (.cells #[] 28)) (.cells #[] 3)) 2 _ rfl
  go_wp2
  clear c2
  go_loopw [6, 7, 8, 9] (fun evv tvv nv av wr => ∃ (ev tv : Value) (now : Int) (a : Nat), ev = evv ∧ tv = tvv ∧ nv = .int .i64 now ∧ av = .int .i64 a ∧ ∃ l ts, EvsRun bo ba l ts now a ∧ RunAt g st ba bo w ev tv l ts wr) (fun _ _ _ av _ => bo.size - (intOf av).toNat)
  case atStart => exact ⟨_, _, ba, 0, rfl, rfl, rfl, rfl, [], [], HST.out, RunAt.made HB1.out HX1.out⟩
  case round =>
    obtain ⟨ev, tv, now, a, rfl, rfl, rfl, rfl, l, ts, hrun, hra⟩ := hrel
    have HRUN := Lib.hid hrun
    have HRA := Lib.hid hra
    have hal := hrun.at_
    have hll := hrun.len
    have HTL := Lib.hid hrun.lens
    have hok := Ev.ok_wi.1 hrun.ok
    unfold Wi.ok at hok
    clear hrun hra
    have c3 := blk_cell HRA.out.2.2.2.1 3 _ rfl
    by_cases hlt : a < bo.size
    · rcases hp : Ev.decP bo a with ⟨⟨k, d, xs, t⟩, p, q⟩
      have HP := Lib.hid hp
      clear hp
      go_wp2_with fail
      refine (rdecode_n bo a k d xs t p q HP.out _ (by unfold maxLen; omega)).mono ?_
      rintro r w4 ⟨A, c, rfl, hI, hfr, hx4⟩
      have HI := Lib.hid hI
      have HFR := Lib.hid hfr
      have HX4 := Lib.hid hx4
      clear hI hfr hx4 c3
      by_cases hq : q = 0
      · subst hq
        obtain ⟨kk, rfl, hk0, hkz, hdk, hgo, hno⟩ := HRUN.out.good hlt HP.out
        have hd := Ev.ok_wi.1 hdk
        unfold Wi.ok at hd
        have hwr : IntKind.i64.wrap (now + d) = now + d := IntWalk.i64_in _ (by simp only at hd; omega)
        have HGO := Lib.hid hgo
        have HNO := Lib.hid hno
        simp only at HGO HNO
        clear hgo hno hdk hd hok
        cases ho : Ev.ok (now + d) with
        | false =>
          have HO := Lib.hid ho
          have HE := Lib.hid (HOUT.out.symm.trans (HNO.out ho))
          clear ho
          go_wp2_with fail
          refine (fits_eq (now + d) false HO.out _).mono ?_
          rintro r w5 ⟨rfl, rfl⟩
          go_wp2
          (try simp only [Exit.inBlock, Exit.then]); refine bodyPost_ret (results_tmp4 rfl _ _ _) rfl ?_
          refine ⟨.slice none 0 0, .slice none 0 0, ?_, ?_, ?_, ?_⟩
          · rw [HE.out]; rfl
          · rw [HE.out]; exact evs_nil _
          · rw [HE.out]; exact ints_nil' _
          · exact ⟨(HRA.out.2.2.2.2.trans HX4.out).alloc _, .inl rfl⟩
        | true =>
          have HO := Lib.hid ho
          have HNX := Lib.hid (HGO.out ho)
          clear ho HGO HNO
          go_wp2_with fail
          refine (fits_eq (now + d) true HO.out _).mono ?_
          rintro r w5 ⟨rfl, rfl⟩
          have HRA4 := Lib.hid (HRA.out.ext ((HX4.out.alloc (.cells #[.int .i64 k, .int .i64 d, .slice A xs.length c, .string t] 28)).alloc (.cells #[.int .i64 k, .int .i64 d, .slice A xs.length c, .string t] 28)))
          have HI4 := Lib.hid (HI.out.ext (((Ext.refl w4).alloc (.cells #[.int .i64 k, .int .i64 d, .slice A xs.length c, .string t] 28)).alloc (.cells #[.int .i64 k, .int .i64 d, .slice A xs.length c, .string t] 28)))
          have HFF : Hid (∀ b o, 0 < xs.length → A = some ⟨b, o, none⟩ → ev.ownBlock ≠ some b ∧ tv.ownBlock ≠ some b) := Lib.hid fun b o h0 hA => by
            have h1 := HFR.out b o h0 hA
            obtain ⟨⟨_, ho, _⟩, hi, _⟩ := HRA.out
            exact ⟨fun he => by have := (World.ownsRow.lt ho b he).2; omega, fun he => by have := (World.ownsRow.lt hi b he).2; omega⟩
          obtain ⟨cs, hown, hrow⟩ := HRA4.out.1
          have HOWN := Lib.hid hown
          have HROW := Lib.hid hrow
          have hsz4 := HRA4.out.2.2.2.2.size
          have hbl4 := blk_lt HRA4.out.2.2.2.1
          clear hown hrow
          go_wp2_with (at_builtin; refine wpList_append_lies _ rfl _ _ 30 rfl (w.heap.size + 1) 28 j0 (.agg #[.int .i64 0, .int .i64 0, .slice none 0 0, .string ⟨#[]⟩]) 4 56 Try.underlying30 J0.out J1.out J2.out J3.out rfl (by decide) ev l.length cs rfl HOWN.out ⟨w4.heap.size + 1, 0, none⟩ 1 1 [.int .i64 k, .int .i64 d, .slice A xs.length c, .string t] rfl rfl ?c1 ?c2 (by decide) ?c3 ?c4 ?c5 _ rfl ?_)
          case c1 => exact World.news_of_block (cs := #[.int .i64 k, .int .i64 d, .slice A xs.length c, .string t]) (by have := blk_new (w4.alloc (.cells #[.int .i64 k, .int .i64 d, .slice A xs.length c, .string t] 28)) (.cells #[.int .i64 k, .int .i64 d, .slice A xs.length c, .string t] 28); simpa using this)
          case c2 => simp [Value.oneCell']
          case c3 => unfold maxLen; omega
          case c4 => omega
          case c5 => omega
          intro g1 cap1 w6 hown6 hgrow6 hg6 _
          have HRA6 := Lib.hid (HRA4.out.event (e := ⟨k, d, xs, t⟩) HROW.out HI4.out HFF.out hown6 hgrow6 (by simpa using hg6))
          clear hown6 hgrow6 hg6 HOWN HROW hsz4 hbl4
          have hsz6 := HRA6.out.2.2.2.2.size
          have hbl6 := blk_lt HRA6.out.2.2.2.1
          go_wp2_with (at_builtin; refine wpList_append_lies _ rfl _ _ 26 rfl (w.heap.size + 1) 3 i0 (.int .i64 0) 1 8 Try.underlying26 I0.out I1.out I2.out I3.out rfl (by decide) tv ts.length (intsV ts) rfl (HRA6.out.2.1.alloc _) ⟨w6.heap.size, 0, none⟩ 1 1 [.int .i64 (now + d)] rfl rfl ?c1 ?c2 (by decide) ?c3 ?c4 ?c5 _ rfl ?_)
          case c1 => exact one_new _ _ _
          case c2 => simp [Value.oneCell']
          case c3 => have := HTL.out; unfold maxLen; omega
          case c4 => have := HTL.out; omega
          case c5 => simp; omega
          intro g2 cap2 w7 hown7 hgrow7 hg7 _
          have HRA7 := Lib.hid ((HRA6.out.ext ((Ext.refl w6).alloc (.cells #[.int .i64 (now + d)] 3))).time hown7 hgrow7 (by simpa using hg7))
          clear hown7 hgrow7 hg7 hsz6 hbl6
          go_wp2
          go_roundw
          case rel => exact ⟨_, _, now + d, a + kk, rfl, rfl, rfl, rfl, _, _, HNX.out, HRA7.out⟩
          case measure => simp [intOf]; omega
      · obtain ⟨cc, rfl, hrr⟩ := HRUN.out.bad hlt HP.out hq
        have HE := Lib.hid (HOUT.out.symm.trans hrr)
        have hc1 : ((cc : Int) == 0) = false := by simpa using hq
        have hc2 : ((cc : Int) != 0) = true := by simpa using hq
        clear hrr
        go_wp2
        (try simp only [Exit.inBlock, Exit.then]); refine bodyPost_ret (results_tmp4 rfl _ _ _) rfl ?_
        refine ⟨.slice none 0 0, .slice none 0 0, ?_, ?_, ?_, ?_⟩
        · rw [HE.out]; rfl
        · rw [HE.out]; exact evs_nil _
        · rw [HE.out]; exact ints_nil' _
        · exact ⟨(HRA.out.2.2.2.2.trans HX4.out).alloc _, .inl rfl⟩
    · obtain rfl : a = bo.size := by omega
      have HE := Lib.hid (HOUT.out.symm.trans HRUN.out.done)
      go_wp2
      (try simp only [Exit.inBlock, Exit.then]); refine bodyPost_ret (results_tmp4 rfl _ _ _) rfl ?_
      refine ⟨ev, tv, ?_, ?_, ?_, ?_⟩
      · rw [HE.out]; rfl
      · rw [HE.out]; exact HRA.out.1.evs
      · rw [HE.out]
        obtain ⟨A, c, h1, h2⟩ := HRA.out.2.1.ints
        rw [h1]; exact h2
      · exact ⟨HRA.out.2.2.2.2, Capped.of HRA.out.2.1⟩
set_option maxRecDepth 100000 in
set_option maxHeartbeats 1000000 in
theorem rbevents_any (g st ba : Int) (bo : ByteArray) (w : World) : Calls Try.prog 15 #[.agg #[.int .i64 g, .int .i64 st, .int .i64 ba, .string bo]] w (EvsPost (Bt.events ⟨g, st, ba, bo⟩) w) := by
  cases hm : Bt.may ⟨g, st, ba, bo⟩ with
  | true => exact rbevents_in g st ba bo w hm _ (by unfold Bt.events; rw [if_pos hm])
  | false =>
    have he : Bt.events ⟨g, st, ba, bo⟩ = ([], [], 0, 50) := by unfold Bt.events; rw [hm]; rfl
    rw [he]
    have HM := Lib.hid hm
    clear hm he
    go_enter Try.func15, Try.ntmps15
    go_wp2_with fail
    refine (rbmay_eq g st ba bo false HM.out _).mono ?_
    rintro r w1 ⟨rfl, hx1⟩
    go_wp2
    (try simp only [Exit.inBlock, Exit.then]); refine bodyPost_ret (results_tmp4 rfl _ _ _) rfl ?_
    exact ⟨.slice none 0 0, .slice none 0 0, rfl, evs_nil _, ints_nil' _, ((Ext.refl w).alloc _).trans hx1, .inl rfl⟩

end Go.Proofs.Ytcdfpifhjjiioaa
