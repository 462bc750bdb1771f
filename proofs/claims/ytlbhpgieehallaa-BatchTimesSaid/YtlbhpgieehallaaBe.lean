/-
  The contract of batch.Events.
-/
import Derived.Test.YtlbhpgieehallaaBd
set_option linter.unusedVariables false
set_option linter.unusedSimpArgs false
namespace Go.Proofs.Ytlbhpgieehallaa
open Go.RowKit

/-- What a call of event.Decode answers, part by part, its numbers in new blocks. -/
def DecN (k d : Int) (xs : List Int) (t : ByteArray) (p q : Int) (w : World) (r : Ending) (w' : World) : Prop :=
  ∃ A c, r = .returned (.tuple #[.agg #[.int .i64 k, .int .i64 d, .slice A xs.length c, .string t], .int .i64 p, .int .i64 q]) ∧ IntsAt w' (.slice A xs.length c) xs ∧ (∀ b o, 0 < xs.length → A = some ⟨b, o, none⟩ → w.heap.size ≤ b) ∧ Ext w w'
theorem decode_n (s : ByteArray) (a : Int) (k d : Int) (xs : List Int) (t : ByteArray) (p q : Int) (h : Ev.decP s a = (⟨k, d, xs, t⟩, p, q)) (w : World) (hs : s.size ≤ maxLen) : Calls Try.prog 30 #[.string s, .int .i64 a] w (DecN k d xs t p q w) :=
  (decode_any s a w hs).mono fun r w' hd => by
    rw [h] at hd
    obtain ⟨v, rfl, ⟨A, c, rfl, hI, hf⟩, hx⟩ := hd
    exact ⟨A, c, rfl, hI, hf, hx⟩
theorem rdecode_n (s : ByteArray) (a : Int) (k d : Int) (xs : List Int) (t : ByteArray) (p q : Int) (h : Ev.decP s a = (⟨k, d, xs, t⟩, p, q)) (w : World) (hs : s.size ≤ maxLen) : Calls Try.prog 32 #[.string s, .int .i64 a] w (DecN k d xs t p q w) :=
  (rdec_any s a w hs).mono fun r w' hd => by
    rw [h] at hd
    obtain ⟨v, rfl, ⟨A, c, rfl, hI, hf⟩, hx⟩ := hd
    exact ⟨A, c, rfl, hI, hf, hx⟩
theorem results_tmp4 {fn : Func} {t u v x : Tmp} (h : fn.results = #[.tmp t, .tmp u, .tmp v, .tmp x]) (tmps : Array Value) (P : Program) (w : World) :
    (results fn tmps).run P w = .ok (.tuple #[tmps.getD t undef, tmps.getD u undef, tmps.getD v undef, tmps.getD x undef]) w := by
  simp [results, h]
/-- A slice that is nil, or has room for all that is in it. -/
def Capped (v : Value) : Prop := v = .slice none 0 0 ∨ ∃ g n c, v = .slice (some ⟨g, 0, none⟩) n c ∧ n ≤ c
theorem Capped.of {w : World} {B : Nat} {v : Value} {xs : List Int} (h : OwnInts w B v xs) : Capped v := by
  rcases h.2 with ⟨rfl, _⟩ | ⟨g, cap, cur, rfl, _, _, hle, _⟩
  · exact .inl rfl
  · exact .inr ⟨g, _, cap, rfl, hle⟩
/-- What a call of Events answers. -/
def EvsPost (p : List Ev × List Int × Nat × Nat) (w : World) (r : Ending) (w' : World) : Prop :=
  ∃ ev tv, r = .returned (.tuple #[ev, tv, .int .i64 (p.2.2.1 : Int), .int .i64 (p.2.2.2 : Int)]) ∧ EvsAt w' ev p.1 ∧ IntsAt w' tv p.2.1 ∧ Ext w w' ∧ Capped tv
theorem evs_nil (w : World) : EvsAt w (.slice none 0 0) [] := ⟨none, 0, rfl, fun h => by simp at h⟩
theorem ints_nil' (w : World) : IntsAt w (.slice none 0 0) [] := ⟨none, 0, rfl, fun h => by simp at h⟩
/-- The state at each round's head: the slices, where their blocks are. -/
def RunAt (g st ba : Int) (bo : ByteArray) (w : World) (ev tv : Value) (l : List Ev) (ts : List Int) (wr : World) : Prop :=
  OwnEvs wr (w.heap.size + 1) ev l tv.ownBlock ∧ OwnInts wr (w.heap.size + 1) tv ts ∧ (ev.ownBlock = none ∨ ev.ownBlock ≠ tv.ownBlock) ∧ wr.heap[w.heap.size]? = some (.cells #[.int .i64 g, .int .i64 st, .int .i64 ba, .string bo] 23 (0, 0)) ∧ Ext w wr
theorem RunAt.ext {g st ba : Int} {bo : ByteArray} {w : World} {ev tv : Value} {l : List Ev} {ts : List Int} {wr v : World} (h : RunAt g st ba bo w ev tv l ts wr) (hx : Ext wr v) : RunAt g st ba bo w ev tv l ts v :=
  ⟨h.1.ext hx, h.2.1.ext hx, h.2.2.1, hx.blk h.2.2.2.1, h.2.2.2.2.trans hx⟩
/-- Behind the append of an event. -/
theorem RunAt.event {g st ba : Int} {bo : ByteArray} {w : World} {ev tv : Value} {l : List Ev} {ts : List Int} {w1 w2 : World} {cs : List Value} {e : Ev} {A : Option Addr} {c gn cap : Nat} (h : RunAt g st ba bo w ev tv l ts w1) (hrow : EvRow w1 ev tv.ownBlock l cs)
    (hi : IntsAt w1 (.slice A e.args.length c) e.args) (hf : ∀ b o, 0 < e.args.length → A = some ⟨b, o, none⟩ → ev.ownBlock ≠ some b ∧ tv.ownBlock ≠ some b)
    (hown : w2.ownsRow (w.heap.size + 1) 41 4 (.slice (some ⟨gn, 0, none⟩) (l.length + 1) cap) (l.length + 1) (cs ++ [.int .i64 e.kind, .int .i64 e.dt, .slice A e.args.length c, .string e.text])) (hg : w1.grownBy w2 ev.ownBlock) (hgH : ev.ownBlock = some gn ∨ gn = w1.heap.size) :
    RunAt g st ba bo w (.slice (some ⟨gn, 0, none⟩) (l.length + 1) cap) tv (l ++ [e]) ts w2 := by
  obtain ⟨h1, h2, h3, h4, h5⟩ := h
  obtain ⟨_, ho, _⟩ := h1
  have hne : ∀ r, ev.ownBlock = some r → w.heap.size + 1 ≤ r := fun r hr => (World.ownsRow.lt ho r hr).1
  refine ⟨⟨_, by rw [List.length_append]; exact hown, hrow.snoc hg hgH hi hf⟩, ?_, ?_, ?_, ?_⟩
  · exact World.ownsRow.kept h2 hg (by
      cases hv : tv.ownBlock with
      | none => exact .inl rfl
      | some b =>
        right
        rcases h3 with h3 | h3
        · rw [h3]; simp
        · rw [← hv]; exact Ne.symm h3)
  · right
    intro he
    have hb := (World.ownsRow.lt h2 gn he.symm).2
    rcases hgH with hh | hh
    · rcases h3 with h3 | h3
      · rw [h3] at hh; cases hh
      · exact h3 (by rw [hh]; exact he)
    · omega
  · exact (hg.block _ (blk_lt h4) (fun e => by have := hne _ e.symm; omega)).trans h4
  · exact Below.grown h5 hg h5.size (fun r hr => by have := hne r hr; omega)
/-- Behind the append of a time. -/
theorem RunAt.time {g st ba : Int} {bo : ByteArray} {w : World} {ev tv : Value} {l : List Ev} {ts : List Int} {w1 w2 : World} {x : Int} {gn cap : Nat} (h : RunAt g st ba bo w ev tv l ts w1)
    (hown : w2.ownsRow (w.heap.size + 1) 3 1 (.slice (some ⟨gn, 0, none⟩) (ts.length + 1) cap) (ts.length + 1) (intsV ts ++ [.int .i64 x])) (hg : w1.grownBy w2 tv.ownBlock) (hgH : tv.ownBlock = some gn ∨ gn = w1.heap.size) :
    RunAt g st ba bo w ev (.slice (some ⟨gn, 0, none⟩) (ts.length + 1) cap) l (ts ++ [x]) w2 := by
  obtain ⟨h1, h2, h3, h4, h5⟩ := h
  have hne : ∀ r, tv.ownBlock = some r → w.heap.size + 1 ≤ r := fun r hr => (World.ownsRow.lt h2 r hr).1
  obtain ⟨k1, k2⟩ := h1.beside hg hgH h3
  refine ⟨k1, ?_, k2, ?_, ?_⟩
  · unfold OwnInts; rw [intsV_snoc, List.length_append]; exact hown
  · exact (hg.block _ (blk_lt h4) (fun e => by have := hne _ e.symm; omega)).trans h4
  · exact Below.grown h5 hg h5.size (fun r hr => by have := hne r hr; omega)
set_option maxRecDepth 100000 in
set_option maxHeartbeats 1000000 in
theorem bevents_in (g st ba : Int) (bo : ByteArray) (w : World) (hm : Bt.may ⟨g, st, ba, bo⟩ = true) (out : List Ev × List Int × Nat × Nat) (hout : Bt.run bo (bo.size + 1) ba 0 = out) : Calls Try.prog 11 #[.agg #[.int .i64 g, .int .i64 st, .int .i64 ba, .string bo]] w (EvsPost out w) := by
  have HM := Lib.hid hm
  have HOUT := Lib.hid hout
  obtain ⟨_, hoks, hbo⟩ := Bt.may_parts hm
  have HST := Lib.hid (EvsRun.start (s := bo) (base := ba) (hoks ba (by simp)))
  simp only at hbo
  clear hm hout hoks
  obtain ⟨i0, hi, hz0, hz1, hz2⟩ := info_parts Try.infoInt
  have I0 := Lib.hid hi
  have I1 := Lib.hid hz0
  have I2 := Lib.hid hz1
  have I3 := Lib.hid hz2
  clear hi hz0 hz1 hz2
  obtain ⟨j0, hi, hz0, hz1, hz2⟩ := info_parts Try.infoEvent
  have J0 := Lib.hid hi
  have J1 := Lib.hid hz0
  have J2 := Lib.hid hz1
  have J3 := Lib.hid hz2
  clear hi hz0 hz1 hz2
  go_enter Try.func11, Try.ntmps11
  go_wp2_with fail
  refine (bmay_eq g st ba bo true HM.out _).mono ?_
  rintro r w1 ⟨rfl, hx1⟩
  have HB1 := Lib.hid (hx1.blk (blk_new w (.cells #[.int .i64 g, .int .i64 st, .int .i64 ba, .string bo] 23)))
  have HX1 : Hid (Ext w w1) := Lib.hid (((Ext.refl w).alloc _).trans hx1)
  clear hx1
  have c2 := blk_cell HB1.out 2 _ rfl
  go_wp2
  clear c2
  go_loopw [6, 7, 8, 9] (fun evv tvv nv av wr => ∃ (ev tv : Value) (now : Int) (a : Nat), ev = evv ∧ tv = tvv ∧ nv = .int .i64 now ∧ av = .int .i64 a ∧ ∃ l ts, EvsRun bo ba l ts now a ∧ RunAt g st ba bo w ev tv l ts wr) (fun _ _ _ av _ => bo.size - (intOf av).toNat)
  case atStart => exact ⟨_, _, ba, 0, rfl, rfl, rfl, rfl, [], [], HST.out, OwnEvs.nil _ _ _, OwnInts.nil _ _, .inl rfl, HB1.out, HX1.out⟩
  case round =>
    obtain ⟨ev, tv, now, a, rfl, rfl, rfl, rfl, l, ts, hrun, hra⟩ := hrel
    have HRUN := Lib.hid hrun
    have HRA := Lib.hid hra
    have hal := hrun.at_
    have hll := hrun.len
    have HTL := Lib.hid hrun.lens
    have hok := Ev.ok_wi.1 hrun.ok
    unfold Wi.ok at hok
    clear hrun hra
    have c3 := blk_cell HRA.out.2.2.2.1 3 _ rfl
    by_cases hlt : a < bo.size
    · rcases hp : Ev.decP bo a with ⟨⟨k, d, xs, t⟩, p, q⟩
      have HP := Lib.hid hp
      clear hp
      go_wp2_with fail
      refine (decode_n bo a k d xs t p q HP.out _ (by unfold maxLen; omega)).mono ?_
      rintro r w4 ⟨A, c, rfl, hI, hfr, hx4⟩
      have HI := Lib.hid hI
      have HFR := Lib.hid hfr
      have HX4 := Lib.hid hx4
      clear hI hfr hx4 c3
      by_cases hq : q = 0
      · subst hq
        obtain ⟨kk, rfl, hk0, hkz, hdk, hgo, hno⟩ := HRUN.out.good hlt HP.out
        have hd := Ev.ok_wi.1 hdk
        unfold Wi.ok at hd
        have hwr : IntKind.i64.wrap (now + d) = now + d := IntWalk.i64_in _ (by simp only at hd; omega)
        have HGO := Lib.hid hgo
        have HNO := Lib.hid hno
        simp only at HGO HNO
        clear hgo hno hdk hd hok
        cases ho : Ev.ok (now + d) with
        | false =>
          have HO := Lib.hid ho
          have HE := Lib.hid (HOUT.out.symm.trans (HNO.out ho))
          clear ho
          go_wp2_with fail
          refine (bnumber_eq (now + d) false HO.out _).mono ?_
          rintro r w5 ⟨rfl, rfl⟩
          go_wp2
          (try simp only [Exit.inBlock, Exit.then]); refine bodyPost_ret (results_tmp4 rfl _ _ _) rfl ?_
          refine ⟨.slice none 0 0, .slice none 0 0, ?_, ?_, ?_, ?_⟩
          · rw [HE.out]; rfl
          · rw [HE.out]; exact evs_nil _
          · rw [HE.out]; exact ints_nil' _
          · exact ⟨(HRA.out.2.2.2.2.trans HX4.out).alloc _, .inl rfl⟩
        | true =>
          have HO := Lib.hid ho
          have HNX := Lib.hid (HGO.out ho)
          clear ho HGO HNO
          go_wp2_with fail
          refine (bnumber_eq (now + d) true HO.out _).mono ?_
          rintro r w5 ⟨rfl, rfl⟩
          have HRA4 := Lib.hid (HRA.out.ext ((HX4.out.alloc (.cells #[.int .i64 k, .int .i64 d, .slice A xs.length c, .string t] 41)).alloc (.cells #[.int .i64 k, .int .i64 d, .slice A xs.length c, .string t] 41)))
          have HI4 := Lib.hid (HI.out.ext (((Ext.refl w4).alloc (.cells #[.int .i64 k, .int .i64 d, .slice A xs.length c, .string t] 41)).alloc (.cells #[.int .i64 k, .int .i64 d, .slice A xs.length c, .string t] 41)))
          have HFF : Hid (∀ b o, 0 < xs.length → A = some ⟨b, o, none⟩ → ev.ownBlock ≠ some b ∧ tv.ownBlock ≠ some b) := Lib.hid fun b o h0 hA => by
            have h1 := HFR.out b o h0 hA
            obtain ⟨⟨_, ho, _⟩, hi, _⟩ := HRA.out
            exact ⟨fun he => by have := (World.ownsRow.lt ho b he).2; omega, fun he => by have := (World.ownsRow.lt hi b he).2; omega⟩
          obtain ⟨cs, hown, hrow⟩ := HRA4.out.1
          have HOWN := Lib.hid hown
          have HROW := Lib.hid hrow
          have hsz4 := HRA4.out.2.2.2.2.size
          have hbl4 := blk_lt HRA4.out.2.2.2.1
          clear hown hrow
          go_wp2_with (at_builtin; refine wpList_append_lies _ rfl _ _ 28 rfl (w.heap.size + 1) 41 j0 (.agg #[.int .i64 0, .int .i64 0, .slice none 0 0, .string ⟨#[]⟩]) 4 56 Try.underlying28 J0.out J1.out J2.out J3.out rfl (by decide) ev l.length cs rfl HOWN.out ⟨w4.heap.size + 1, 0, none⟩ 1 1 [.int .i64 k, .int .i64 d, .slice A xs.length c, .string t] rfl rfl ?c1 ?c2 (by decide) ?c3 ?c4 ?c5 _ rfl ?_)
          case c1 => exact World.news_of_block (cs := #[.int .i64 k, .int .i64 d, .slice A xs.length c, .string t]) (by have := blk_new (w4.alloc (.cells #[.int .i64 k, .int .i64 d, .slice A xs.length c, .string t] 41)) (.cells #[.int .i64 k, .int .i64 d, .slice A xs.length c, .string t] 41); simpa using this)
          case c2 => simp [Value.oneCell']
          case c3 => unfold maxLen; omega
          case c4 => omega
          case c5 => omega
          intro g1 cap1 w6 hown6 hgrow6 hg6 _
          have HRA6 := Lib.hid (HRA4.out.event (e := ⟨k, d, xs, t⟩) HROW.out HI4.out HFF.out hown6 hgrow6 (by simpa using hg6))
          clear hown6 hgrow6 hg6 HOWN HROW hsz4 hbl4
          have hsz6 := HRA6.out.2.2.2.2.size
          have hbl6 := blk_lt HRA6.out.2.2.2.1
          go_wp2_with (at_builtin; refine wpList_append_lies _ rfl _ _ 29 rfl (w.heap.size + 1) 3 i0 (.int .i64 0) 1 8 Try.underlying29 I0.out I1.out I2.out I3.out rfl (by decide) tv ts.length (intsV ts) rfl (HRA6.out.2.1.alloc _) ⟨w6.heap.size, 0, none⟩ 1 1 [.int .i64 (now + d)] rfl rfl ?c1 ?c2 (by decide) ?c3 ?c4 ?c5 _ rfl ?_)
          case c1 => exact one_new _ _ _
          case c2 => simp [Value.oneCell']
          case c3 => have := HTL.out; unfold maxLen; omega
          case c4 => have := HTL.out; omega
          case c5 => simp; omega
          intro g2 cap2 w7 hown7 hgrow7 hg7 _
          have HRA7 := Lib.hid ((HRA6.out.ext ((Ext.refl w6).alloc (.cells #[.int .i64 (now + d)] 3))).time hown7 hgrow7 (by simpa using hg7))
          clear hown7 hgrow7 hg7 hsz6 hbl6
          go_wp2
          go_roundw
          case rel => exact ⟨_, _, now + d, a + kk, rfl, rfl, rfl, rfl, _, _, HNX.out, HRA7.out⟩
          case measure => simp [intOf]; omega
      · obtain ⟨cc, rfl, hrr⟩ := HRUN.out.bad hlt HP.out hq
        have HE := Lib.hid (HOUT.out.symm.trans hrr)
        have hc1 : ((cc : Int) == 0) = false := by simpa using hq
        have hc2 : ((cc : Int) != 0) = true := by simpa using hq
        clear hrr
        go_wp2
        (try simp only [Exit.inBlock, Exit.then]); refine bodyPost_ret (results_tmp4 rfl _ _ _) rfl ?_
        refine ⟨.slice none 0 0, .slice none 0 0, ?_, ?_, ?_, ?_⟩
        · rw [HE.out]; rfl
        · rw [HE.out]; exact evs_nil _
        · rw [HE.out]; exact ints_nil' _
        · exact ⟨(HRA.out.2.2.2.2.trans HX4.out).alloc _, .inl rfl⟩
    · obtain rfl : a = bo.size := by omega
      have HE := Lib.hid (HOUT.out.symm.trans HRUN.out.done)
      go_wp2
      (try simp only [Exit.inBlock, Exit.then]); refine bodyPost_ret (results_tmp4 rfl _ _ _) rfl ?_
      refine ⟨ev, tv, ?_, ?_, ?_, ?_⟩
      · rw [HE.out]; rfl
      · rw [HE.out]; exact HRA.out.1.evs
      · rw [HE.out]
        obtain ⟨A, c, h1, h2⟩ := HRA.out.2.1.ints
        rw [h1]; exact h2
      · exact ⟨HRA.out.2.2.2.2, Capped.of HRA.out.2.1⟩
/-- What Events answers of a batch. -/
def Bt.events (b : Bt) : List Ev × List Int × Nat × Nat := if b.may then Bt.run b.body (b.body.size + 1) b.base 0 else ([], [], 0, 50)
set_option maxRecDepth 100000 in
set_option maxHeartbeats 1000000 in
theorem bevents_any (g st ba : Int) (bo : ByteArray) (w : World) : Calls Try.prog 11 #[.agg #[.int .i64 g, .int .i64 st, .int .i64 ba, .string bo]] w (EvsPost (Bt.events ⟨g, st, ba, bo⟩) w) := by
  cases hm : Bt.may ⟨g, st, ba, bo⟩ with
  | true => exact bevents_in g st ba bo w hm _ (by unfold Bt.events; rw [if_pos hm])
  | false =>
    have he : Bt.events ⟨g, st, ba, bo⟩ = ([], [], 0, 50) := by unfold Bt.events; rw [hm]; rfl
    rw [he]
    have HM := Lib.hid hm
    clear hm he
    go_enter Try.func11, Try.ntmps11
    go_wp2_with fail
    refine (bmay_eq g st ba bo false HM.out _).mono ?_
    rintro r w1 ⟨rfl, hx1⟩
    go_wp2
    (try simp only [Exit.inBlock, Exit.then]); refine bodyPost_ret (results_tmp4 rfl _ _ _) rfl ?_
    exact ⟨.slice none 0 0, .slice none 0 0, rfl, evs_nil _, ints_nil' _, ((Ext.refl w).alloc _).trans hx1, .inl rfl⟩

end Go.Proofs.Ytlbhpgieehallaa
