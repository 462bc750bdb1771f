/-
  Several texts in one: Fi, Fjp, Fn, Fo, Fp.
-/
import Derived.Test.YtcdfpifhjjiioaaFh
import Derived.Test.YtcdfpifhjjiioaaBf
import Derived.Test.YtcdfpifhjjiioaaLc
import Derived.Test.YtcdfpifhjjiioaaLe
set_option linter.unusedVariables false
set_option linter.unusedSimpArgs false
namespace Go.Proofs.Ytcdfpifhjjiioaa
open Go.RowKit

theorem Bu.seal_two (m ba la : Int) (bo : ByteArray) (g : Int) : Bu.seal ⟨m, ba, la, bo⟩ g = (⟨0, 0, 0, ⟨#[]⟩⟩, ⟨0, 0, 0, ⟨#[]⟩⟩, false) ∨ ∃ s, Bu.seal ⟨m, ba, la, bo⟩ g = (⟨g, s, ba, bo⟩, ⟨m, 0, 0, ⟨#[]⟩⟩, true) := by
  unfold Bu.seal
  split
  · exact .inl rfl
  · split
    · exact .inr ⟨_, rfl⟩
    · exact .inl rfl
theorem C4'.of {x : Nat} {g st ba : Int} {bo : ByteArray} {wx v : World} (h : wx.heap[x]? = some (.cells #[.int .i64 g, .int .i64 st, .int .i64 ba, .string bo] 23 (0, 0))) (hv : Ext wx v) : C4' x g st ba bo v :=
  ⟨blk_cell (hv.blk h) 0 _ rfl, blk_cell (hv.blk h) 1 _ rfl, blk_cell (hv.blk h) 2 _ rfl, blk_cell (hv.blk h) 3 _ rfl⟩
set_option maxRecDepth 100000 in
set_option maxHeartbeats 1000000 in
theorem ufull_out (m ba la : Int) (bo : ByteArray) (g : Int) (w : World) (hbo : bo.size ≤ maxLen) (h1 : 3000 < bo.size) :
    Calls Try.prog 6 #[.agg #[.int .i64 m, .int .i64 ba, .int .i64 la, .string bo], .int .i64 g] w fun e w' => e = .returned (.bool true) ∧ Ext w w' := by
  unfold maxLen at hbo
  have HA : Hid (∀ v, Ext (w.alloc (.cells #[.int .i64 m, .int .i64 ba, .int .i64 la, .string bo] 23)) v → C4' w.heap.size m ba la bo v) := Lib.hid fun v hv => C4'.of (blk_new w _) hv
  go_enter Try.func6, Try.ntmps6
  go_wp2_with fail
  refine (ufixed_yes _).mono ?_
  rintro r w1 ⟨rfl, hx1⟩
  obtain ⟨a0, a1, a2, a3⟩ := HA.out _ hx1
  go_wp2_with fail
  refine (ufixed_yes _).mono ?_
  rintro r w2 ⟨rfl, hx2⟩
  go_wp2
  go_ret
  exact ⟨rfl, ((Ext.refl w).alloc _).trans (hx1.trans hx2)⟩
set_option maxRecDepth 100000 in
set_option maxHeartbeats 1000000 in
theorem ufull_no (m ba la : Int) (bo : ByteArray) (g : Int) (w : World) (h1 : bo.size ≤ 3000) (hs : Bu.seal ⟨m, ba, la, bo⟩ g = (⟨0, 0, 0, ⟨#[]⟩⟩, ⟨0, 0, 0, ⟨#[]⟩⟩, false)) :
    Calls Try.prog 6 #[.agg #[.int .i64 m, .int .i64 ba, .int .i64 la, .string bo], .int .i64 g] w fun e w' => e = .returned (.bool true) ∧ Ext w w' := by
  have HS := Lib.hid hs
  clear hs
  have hf1 : decide ((bo.size : Int) + 1 ≤ (bo.size : Int)) = false := by simp; omega
  have hf2 : decide ((bo.size : Int) ≤ (bo.size : Int)) = true := by simp
  have HF1 := Lib.hid hf1
  have HF2 := Lib.hid hf2
  clear hf1 hf2
  have HA : Hid (∀ v, Ext (w.alloc (.cells #[.int .i64 m, .int .i64 ba, .int .i64 la, .string bo] 23)) v → C4' w.heap.size m ba la bo v) := Lib.hid fun v hv => C4'.of (blk_new w _) hv
  go_enter Try.func6, Try.ntmps6
  go_wp2_with fail
  refine (ufixed_yes _).mono ?_
  rintro r w1 ⟨rfl, hx1⟩
  have HX1 := Lib.hid hx1
  clear hx1
  obtain ⟨a0, a1, a2, a3⟩ := HA.out _ HX1.out
  go_wp2_with fail
  refine (bseal_k m ba la bo g _ _ _ _ _ _ _ _ _ HS.out _).mono ?_
  rintro r w2 ⟨rfl, hx2⟩
  have HX2 := Lib.hid ((HX1.out.trans hx2).alloc (.cells #[.int .i64 0, .int .i64 0, .int .i64 0, .string ⟨#[]⟩] 35) |>.alloc (.cells #[.int .i64 0, .int .i64 0, .int .i64 0, .string ⟨#[]⟩] 23))
  clear a0 a1 a2 a3 hx2
  obtain ⟨a0, a1, a2, a3⟩ := HA.out _ HX2.out
  go_wp2_with fail
  refine (bfull_eq m ba la bo _ false HF1.out _).mono ?_
  rintro r w3 ⟨rfl, hx3⟩
  have HX3 := Lib.hid (HX2.out.trans hx3)
  clear a0 a1 a2 a3 hx3
  obtain ⟨a0, a1, a2, a3⟩ := HA.out _ HX3.out
  go_wp2_with fail
  refine (bfull_eq m ba la bo _ true HF2.out _).mono ?_
  rintro r w4 ⟨rfl, hx4⟩
  go_wp2
  go_ret
  exact ⟨rfl, ((Ext.refl w).alloc _).trans (HX3.out.trans hx4)⟩
set_option maxRecDepth 100000 in
set_option maxHeartbeats 1000000 in
theorem ufull_ok (m ba la : Int) (bo : ByteArray) (g s : Int) (w : World) (h1 : bo.size ≤ 3000) (hs : Bu.seal ⟨m, ba, la, bo⟩ g = (⟨g, s, ba, bo⟩, ⟨m, 0, 0, ⟨#[]⟩⟩, true)) :
    Calls Try.prog 6 #[.agg #[.int .i64 m, .int .i64 ba, .int .i64 la, .string bo], .int .i64 g] w fun e w' => e = .returned (.bool true) ∧ Ext w w' := by
  have HS := Lib.hid hs
  clear hs
  have hf1 : decide ((bo.size : Int) + 1 ≤ (bo.size : Int)) = false := by simp; omega
  have hf2 : decide ((bo.size : Int) ≤ (bo.size : Int)) = true := by simp
  have HF1 := Lib.hid hf1
  have HF2 := Lib.hid hf2
  clear hf1 hf2
  have HA : Hid (∀ v, Ext (w.alloc (.cells #[.int .i64 m, .int .i64 ba, .int .i64 la, .string bo] 23)) v → C4' w.heap.size m ba la bo v) := Lib.hid fun v hv => C4'.of (blk_new w _) hv
  go_enter Try.func6, Try.ntmps6
  go_wp2_with fail
  refine (ufixed_yes _).mono ?_
  rintro r w1 ⟨rfl, hx1⟩
  have HX1 := Lib.hid hx1
  clear hx1
  obtain ⟨a0, a1, a2, a3⟩ := HA.out _ HX1.out
  go_wp2_with fail
  refine (bseal_k m ba la bo g _ _ _ _ _ _ _ _ _ HS.out _).mono ?_
  rintro r w2 ⟨rfl, hx2⟩
  have HX2 := Lib.hid ((HX1.out.trans hx2).alloc (.cells #[.int .i64 g, .int .i64 s, .int .i64 ba, .string bo] 35) |>.alloc (.cells #[.int .i64 m, .int .i64 0, .int .i64 0, .string ⟨#[]⟩] 23))
  clear a0 a1 a2 a3 hx2
  obtain ⟨a0, a1, a2, a3⟩ := HA.out _ HX2.out
  go_wp2_with fail
  refine (bfull_eq m ba la bo _ false HF1.out _).mono ?_
  rintro r w3 ⟨rfl, hx3⟩
  have HX3 := Lib.hid (HX2.out.trans hx3)
  have HC3 := Lib.hid hx3
  clear a0 a1 a2 a3 hx3
  obtain ⟨a0, a1, a2, a3⟩ := HA.out _ HX3.out
  go_wp2_with fail
  refine (bfull_eq m ba la bo _ true HF2.out _).mono ?_
  rintro r w4 ⟨rfl, hx4⟩
  have HX4 := Lib.hid (HX3.out.trans hx4)
  have HC4 : Hid (Ext ((w2.alloc (.cells #[.int .i64 g, .int .i64 s, .int .i64 ba, .string bo] 35)).alloc (.cells #[.int .i64 m, .int .i64 0, .int .i64 0, .string ⟨#[]⟩] 23)) w4) := Lib.hid (HC3.out.trans hx4)
  have HD4 : Hid (Ext (w2.alloc (.cells #[.int .i64 g, .int .i64 s, .int .i64 ba, .string bo] 35)) w4) := Lib.hid (((Ext.refl _).alloc _).trans HC4.out)
  clear a0 a1 a2 a3 hx4
  have c0 := Ext.box HC4.out 0 (.int .i64 m) rfl
  have c1 := Ext.box HC4.out 1 (.int .i64 0) rfl
  have c2 := Ext.box HC4.out 2 (.int .i64 0) rfl
  have c3 := Ext.box HC4.out 3 (.string ⟨#[]⟩) rfl
  rw [World.size_alloc] at c0 c1 c2 c3
  go_wp2_with fail
  refine (bfull_eq m 0 0 _ 1 false rfl _).mono ?_
  rintro r w5 ⟨rfl, hx5⟩
  clear c0 c1 c2 c3
  obtain ⟨a0, a1, a2, a3⟩ := HA.out _ (HX4.out.trans hx5)
  have x0 := Ext.box (HD4.out.trans hx5) 0 (.int .i64 g) rfl
  have x1 := Ext.box (HD4.out.trans hx5) 1 (.int .i64 s) rfl
  have x2 := Ext.box (HD4.out.trans hx5) 2 (.int .i64 ba) rfl
  have x3 := Ext.box (HD4.out.trans hx5) 3 (.string bo) rfl
  go_wp2
  go_ret
  exact ⟨by simp, ((Ext.refl w).alloc _).trans (HX4.out.trans hx5)⟩
theorem walk_BufFull (b : Bt) (g : Int) (w : World) (hb : BtIn b) (_ : (Lit.int .i64 g).wf = true) :
    Calls Try.prog 6 #[b.val, .int .i64 g] w fun e w' => e = .returned (.bool true) ∧ Ext w w' := by
  obtain ⟨m, ba, la, bo⟩ := b
  by_cases h1 : bo.size ≤ 3000
  · rcases Bu.seal_two m ba la bo g with hs | ⟨s, hs⟩
    · exact ufull_no m ba la bo g w h1 hs
    · exact ufull_ok m ba la bo g s w h1 hs
  · exact ufull_out m ba la bo g w hb.1 (by omega)
theorem Bu.later_may {d : Int} (h : Ev.ok d = true) : Ev.may ⟨8, d, [], ⟨#[]⟩⟩ = true := by
  rw [Ev.may_eq2 (e := ⟨8, d, [], ⟨#[]⟩⟩) h rfl rfl]
  rfl
theorem Bu.enc_pos {e : Ev} (h : e.may = true) : 0 < e.enc.size := by
  rw [Ev.enc_size h]; unfold Ev.encL; simp
theorem Bu.cut (a b : ByteArray) : (a ++ b).extract 0 a.size = a := by
  apply ByteArray.ext
  apply Array.toList_inj.1
  rw [Lib.extract_data]
  simp
/-- What is put behind the last one, or first. -/
theorem Bu.later_put (m ba la : Int) (bo : ByteArray) (t : Int) (h1 : bo.size ≤ 3000) (h0 : 0 ≤ t) (h2 : t < 4611686018427387904) (hl : 0 ≤ la) :
    (¬ bo.size = 0 → la ≤ t → ∃ bq : ByteArray, Bu.put ⟨m, ba, la, bo⟩ t ⟨8, 7, [], ⟨#[]⟩⟩ = (⟨m, ba, t, bq⟩, true) ∧ bo.size < bq.size ∧ bq.size ≤ 100000 ∧ bq.extract 0 bo.size = bo) ∧
    (bo.size = 0 → ∃ bq : ByteArray, Bu.put ⟨m, ba, la, bo⟩ t ⟨8, 7, [], ⟨#[]⟩⟩ = (⟨m, t, t, bq⟩, true) ∧ bo.size < bq.size ∧ bq.size ≤ 100000 ∧ bq.extract 0 bo.size = bo) := by
  have hok : Ev.ok t = true := Ev.ok_wi.2 (by unfold Wi.ok; omega)
  have key : ∀ d, Ev.ok d = true → bo.size < (bo ++ Ev.enc ⟨8, d, [], ⟨#[]⟩⟩).size ∧ (bo ++ Ev.enc ⟨8, d, [], ⟨#[]⟩⟩).size ≤ 100000 ∧ (bo ++ Ev.enc ⟨8, d, [], ⟨#[]⟩⟩).extract 0 bo.size = bo := fun d hd => by
    have hm := Bu.later_may hd
    have h3 := Bu.enc_pos hm
    have h4 := Ev.encL_le hm (show (0 : Nat) < Va.most by decide)
    rw [← Ev.enc_size hm] at h4
    have h5 : (⟨8, d, [], ⟨#[]⟩⟩ : Ev).text.size = 0 := rfl
    have h6 : (⟨8, d, [], ⟨#[]⟩⟩ : Ev).args.length = 0 := rfl
    rw [ByteArray.size_append]
    exact ⟨by omega, by omega, Bu.cut _ _⟩
  refine ⟨fun hb hle => ?_, fun hb => ?_⟩
  · have hw : IntKind.i64.wrap (t - la) = t - la := IntWalk.i64_in _ (by omega)
    have hd : Ev.ok (t - la) = true := Ev.ok_wi.2 (by unfold Wi.ok; omega)
    have e := Bu.put_more (b := ⟨m, ba, la, bo⟩) (t := t) (e := ⟨8, 7, [], ⟨#[]⟩⟩) hb hok hle
    simp only [hw, Bu.later_may hd, if_true] at e
    exact ⟨_, e, key _ hd⟩
  · have hd : Ev.ok 0 = true := by decide
    have e := Bu.put_empty (b := ⟨m, ba, la, bo⟩) (t := t) (e := ⟨8, 7, [], ⟨#[]⟩⟩) hb hok
    simp only [Bu.later_may hd, if_true] at e
    exact ⟨_, e, key _ hd⟩

theorem urenc_x (k d : Int) (xs : List Int) (t b : ByteArray) (h : Ev.enc ⟨k, d, xs, t⟩ = b) (A : Option Addr) (c : Nat) (w : World) (hI : IntsAt w (.slice A xs.length c) xs) (hn : xs.length ≤ 1000) (ht : t.size ≤ 1000000) :
    Calls Try.prog 22 #[.agg #[.int .i64 k, .int .i64 d, .slice A xs.length c, .string t]] w fun r w' => r = .returned (.string b) ∧ Ext w w' := by
  subst h; exact renc_e _ ⟨k, d, xs, t⟩ w ⟨A, c, rfl, hI⟩ hn ht
theorem urput_enc_T (w : World) (k dt : Int) (xs : List Int) (tx en : ByteArray) (hen : Ev.enc ⟨k, dt, xs, tx⟩ = en) (cb ce : Array Value) (A : Option Addr) (c : Nat) (v : World) (h : PC w cb ce A c xs v) (hn : xs.length ≤ 1000) (ht : tx.size ≤ 1000000) :
    Calls Try.prog 22 #[.agg #[.int .i64 k, .int .i64 dt, .slice A xs.length c, .string tx]] v fun e w' => ∃ x, e = .returned x ∧ PC3 w en cb ce A c xs x w' :=
  (urenc_x k dt xs tx en hen A c v h.2.2.2.1 hn ht).mono fun _ _ ⟨he, hx⟩ => ⟨_, he, rfl, h.ext hx⟩
theorem rmay_k (k dt : Int) (xs : List Int) (tx : ByteArray) (b : Bool) (hb : Ev.may ⟨k, dt, xs, tx⟩ = b) (A : Option Addr) (c : Nat) (w : World) (hI : IntsAt w (.slice A xs.length c) xs) (hn : xs.length ≤ 1000) :
    Calls Try.prog 21 #[.agg #[.int .i64 k, .int .i64 dt, .slice A xs.length c, .string tx]] w fun r w' => r = .returned (.bool b) ∧ Ext w w' := by
  subst hb
  exact rmay_e _ ⟨k, dt, xs, tx⟩ w ⟨A, c, rfl, hI⟩ (by simp only; omega)
set_option maxRecDepth 100000 in
set_option maxHeartbeats 1000000 in
theorem urput_no (m ba la : Int) (bo : ByteArray) (t : Int) (k d : Int) (xs : List Int) (tx : ByteArray) (A : Option Addr) (c : Nat) (w : World) (h : Ev.ok t = false) :
    Calls Try.prog 11 #[.agg #[.int .i64 m, .int .i64 ba, .int .i64 la, .string bo], .int .i64 t, .agg #[.int .i64 k, .int .i64 d, .slice A xs.length c, .string tx]] w (BPut (Bu.zero, false) w) := by
  have hzb := (three_new w (.cells #[.int .i64 m, .int .i64 ba, .int .i64 la, .string bo] 23) (.cells #[.int .i64 k, .int .i64 d, .slice A xs.length c, .string tx] 28) ((.cells #[.int .i64 0, .int .i64 0, .int .i64 0, .string ⟨#[]⟩] 23))).2.2
  have z0 := blk_cell hzb 0 (.int .i64 0) rfl
  have z1 := blk_cell hzb 1 (.int .i64 0) rfl
  have z2 := blk_cell hzb 2 (.int .i64 0) rfl
  have z3 := blk_cell hzb 3 (.string ⟨#[]⟩) rfl
  have y0 := frozen_of_row _ _ 0 _ _ hzb
  have y1 := frozen_of_row _ _ 1 _ _ hzb
  have y2 := frozen_of_row _ _ 2 _ _ hzb
  have y3 := frozen_of_row _ _ 3 _ _ hzb
  have HZB := Lib.hid hzb
  clear hzb
  have H := Lib.hid h
  clear h
  go_enter Try.func11, Try.ntmps11
  go_wp2_with fail
  refine (fits_eq t false H.out _).mono ?_
  rintro r w1 ⟨rfl, rfl⟩
  go_wp2
  clear z0 z1 z2 z3 y0 y1 y2 y3
  have t0 := blk_cell HZB.out 0 (.int .i64 0) rfl
  have t1 := blk_cell HZB.out 1 (.int .i64 0) rfl
  have t2 := blk_cell HZB.out 2 (.int .i64 0) rfl
  have t3 := blk_cell HZB.out 3 (.string ⟨#[]⟩) rfl
  refine bodyPost_ret (v := .tuple #[(.agg #[.int .i64 0, .int .i64 0, .int .i64 0, .string ⟨#[]⟩]), .bool false]) (by simp [results, Try.results11, go_sem, t0, t1, t2, t3]) rfl ⟨rfl, ?_⟩
  exact (((Ext.refl w).alloc _).alloc _).alloc _
set_option maxRecDepth 100000 in
set_option maxHeartbeats 1000000 in
theorem urput_early (m ba la : Int) (bo : ByteArray) (t : Int) (k d : Int) (xs : List Int) (tx : ByteArray) (A : Option Addr) (c : Nat) (w : World) (h : Ev.ok t = true) (hb : ¬ bo.size = 0) (hbz : bo.size ≤ 1000000) (hl : t < la) :
    Calls Try.prog 11 #[.agg #[.int .i64 m, .int .i64 ba, .int .i64 la, .string bo], .int .i64 t, .agg #[.int .i64 k, .int .i64 d, .slice A xs.length c, .string tx]] w (BPut (Bu.zero, false) w) := by
  have hb1 : 0 < bo.size := by omega
  have hzb := (three_new w (.cells #[.int .i64 m, .int .i64 ba, .int .i64 la, .string bo] 23) (.cells #[.int .i64 k, .int .i64 d, .slice A xs.length c, .string tx] 28) ((.cells #[.int .i64 0, .int .i64 0, .int .i64 0, .string ⟨#[]⟩] 23))).2.2
  have z0 := blk_cell hzb 0 (.int .i64 0) rfl
  have z1 := blk_cell hzb 1 (.int .i64 0) rfl
  have z2 := blk_cell hzb 2 (.int .i64 0) rfl
  have z3 := blk_cell hzb 3 (.string ⟨#[]⟩) rfl
  have y0 := frozen_of_row _ _ 0 _ _ hzb
  have y1 := frozen_of_row _ _ 1 _ _ hzb
  have y2 := frozen_of_row _ _ 2 _ _ hzb
  have y3 := frozen_of_row _ _ 3 _ _ hzb
  have HZB := Lib.hid hzb
  clear hzb
  have H := Lib.hid h
  clear h hb
  go_enter Try.func11, Try.ntmps11
  go_wp2_with fail
  refine (fits_eq t true H.out _).mono ?_
  rintro r w1 ⟨rfl, rfl⟩
  go_wp2
  clear z0 z1 z2 z3 y0 y1 y2 y3
  have t0 := blk_cell HZB.out 0 (.int .i64 0) rfl
  have t1 := blk_cell HZB.out 1 (.int .i64 0) rfl
  have t2 := blk_cell HZB.out 2 (.int .i64 0) rfl
  have t3 := blk_cell HZB.out 3 (.string ⟨#[]⟩) rfl
  refine bodyPost_ret (v := .tuple #[(.agg #[.int .i64 0, .int .i64 0, .int .i64 0, .string ⟨#[]⟩]), .bool false]) (by simp [results, Try.results11, go_sem, t0, t1, t2, t3]) rfl ⟨rfl, ?_⟩
  exact (((Ext.refl w).alloc _).alloc _).alloc _
set_option maxRecDepth 100000 in
set_option maxHeartbeats 1000000 in
theorem urput_bad (m ba la : Int) (bo : ByteArray) (t : Int) (k d : Int) (xs : List Int) (tx : ByteArray) (A : Option Addr) (c : Nat) (w : World) (hok : Ev.ok t = true) (hb : ¬ bo.size = 0) (hl : la ≤ t)
    (hI : IntsAt w (.slice A xs.length c) xs) (hn : xs.length ≤ 1000) (dt : Int) (hdt : IntKind.i64.wrap (t - la) = dt) (hm : Ev.may ⟨k, dt, xs, tx⟩ = false) :
    Calls Try.prog 11 #[.agg #[.int .i64 m, .int .i64 ba, .int .i64 la, .string bo], .int .i64 t, .agg #[.int .i64 k, .int .i64 d, .slice A xs.length c, .string tx]] w (BPut (Bu.zero, false) w) := by
  have hb1 : 0 < bo.size := by omega
  have hb3 : ((bo.size : Int) == 0) = false := by rw [beq_eq_false_iff_ne]; omega
  have HN := Lib.hid hn
  have HT := Lib.hid hok
  have HI := Lib.hid (hI.ext ((((Ext.refl w).alloc (.cells #[.int .i64 m, .int .i64 ba, .int .i64 la, .string bo] 23)).alloc (.cells #[.int .i64 k, .int .i64 dt, .slice A xs.length c, .string tx] 28)).alloc ((.cells #[.int .i64 0, .int .i64 0, .int .i64 0, .string ⟨#[]⟩] 23))))
  have HM := Lib.hid hm
  clear hok hm hI hn
  go_enter Try.func11, Try.ntmps11
  go_wp2_with fail
  refine (fits_eq t true HT.out _).mono ?_
  rintro r w1 ⟨rfl, rfl⟩
  go_wp2_with fail
  refine (rmay_k k dt xs tx false HM.out A c _ HI.out HN.out).mono ?_
  rintro r w1 ⟨rfl, hx1⟩
  have hzb := hx1.blk (three_new w (.cells #[.int .i64 m, .int .i64 ba, .int .i64 la, .string bo] 23) (.cells #[.int .i64 k, .int .i64 dt, .slice A xs.length c, .string tx] 28) ((.cells #[.int .i64 0, .int .i64 0, .int .i64 0, .string ⟨#[]⟩] 23))).2.2
  have HX1 := Lib.hid hx1
  clear hx1
  have z0 := blk_cell hzb 0 (.int .i64 0) rfl
  have z1 := blk_cell hzb 1 (.int .i64 0) rfl
  have z2 := blk_cell hzb 2 (.int .i64 0) rfl
  have z3 := blk_cell hzb 3 (.string ⟨#[]⟩) rfl
  have y0 := frozen_of_row _ _ 0 _ _ hzb
  have y1 := frozen_of_row _ _ 1 _ _ hzb
  have y2 := frozen_of_row _ _ 2 _ _ hzb
  have y3 := frozen_of_row _ _ 3 _ _ hzb
  have HZB := Lib.hid hzb
  clear hzb
  go_wp2
  clear z0 z1 z2 z3 y0 y1 y2 y3
  have hzz := uzero4 HZB.out
  have t0 := blk_cell hzz 0 (.int .i64 0) rfl
  have t1 := blk_cell hzz 1 (.int .i64 0) rfl
  have t2 := blk_cell hzz 2 (.int .i64 0) rfl
  have t3 := blk_cell hzz 3 (.string ⟨#[]⟩) rfl
  refine bodyPost_ret (v := .tuple #[(.agg #[.int .i64 0, .int .i64 0, .int .i64 0, .string ⟨#[]⟩]), .bool false]) (by simp [results, Try.results11, go_sem, t0, t1, t2, t3]) rfl ⟨rfl, ?_⟩
  have hg : w.heap.size ≤ w.heap.size + 1 + 1 := by omega
  exact ((((((((Ext.refl w).alloc _).alloc _).alloc _).trans HX1.out).setCell hg _).setCell hg _).setCell hg _).setCell hg _
set_option maxRecDepth 100000 in
set_option maxHeartbeats 1000000 in
theorem urput_ok (m ba la : Int) (bo : ByteArray) (t : Int) (k d : Int) (xs : List Int) (tx : ByteArray) (A : Option Addr) (c : Nat) (w : World) (hok : Ev.ok t = true) (hb : ¬ bo.size = 0) (hbz : bo.size ≤ 1000000) (hl : la ≤ t)
    (hI : IntsAt w (.slice A xs.length c) xs) (hn : xs.length ≤ 1000) (htx : tx.size ≤ 1000000) (dt : Int) (hdt : IntKind.i64.wrap (t - la) = dt) (hm : Ev.may ⟨k, dt, xs, tx⟩ = true) (en bq : ByteArray) (hen : Ev.enc ⟨k, dt, xs, tx⟩ = en) (henz : en.size ≤ 140737488351300) (hbq : bo ++ en = bq) :
    Calls Try.prog 11 #[.agg #[.int .i64 m, .int .i64 ba, .int .i64 la, .string bo], .int .i64 t, .agg #[.int .i64 k, .int .i64 d, .slice A xs.length c, .string tx]] w (BPut (⟨m, ba, t, bq⟩, true) w) := by
  have hb1 : 0 < bo.size := by omega
  have hb3 : ((bo.size : Int) == 0) = false := by rw [beq_eq_false_iff_ne]; omega
  have HN := Lib.hid hn
  have HT := Lib.hid hok
  have HTX := Lib.hid htx
  have HI := Lib.hid (hI.ext ((((Ext.refl w).alloc (.cells #[.int .i64 m, .int .i64 ba, .int .i64 la, .string bo] 23)).alloc (.cells #[.int .i64 k, .int .i64 dt, .slice A xs.length c, .string tx] 28)).alloc ((.cells #[.int .i64 0, .int .i64 0, .int .i64 0, .string ⟨#[]⟩] 23))))
  have HM := Lib.hid hm
  have HEN := Lib.hid hen
  have HBQ := Lib.hid hbq
  have HLT : Hid (∀ b o, 0 < xs.length → A = some ⟨b, o, none⟩ → b < w.heap.size) := Lib.hid fun b o hz hA => by
    obtain ⟨A', c', hv, hh⟩ := hI
    simp only [Value.slice.injEq, true_and] at hv
    obtain ⟨rfl, rfl⟩ := hv
    obtain ⟨b', o', hb', hlt, _⟩ := hh hz
    rw [hA] at hb'
    simp only [Option.some.injEq, Addr.mk.injEq, and_true] at hb'
    omega
  have HEZ := Lib.hid henz
  clear hok hm hI hn htx hen hbq henz
  go_enter Try.func11, Try.ntmps11
  go_wp2_with fail
  refine (fits_eq t true HT.out _).mono ?_
  rintro r w1 ⟨rfl, rfl⟩
  go_wp2_with fail
  refine (rmay_k k dt xs tx true HM.out A c _ HI.out HN.out).mono ?_
  rintro r w1 ⟨rfl, hx1⟩
  have HPC : Hid (PC w #[.int .i64 m, .int .i64 ba, .int .i64 la, .string bo] #[.int .i64 k, .int .i64 dt, .slice A xs.length c, .string tx] A c xs w1.drew) := Lib.hid (by
    have hx : Ext w w1 := ((((Ext.refl w).alloc _).alloc _).alloc _).trans hx1
    obtain ⟨g1, g2, g3⟩ := three_new w (.cells #[.int .i64 m, .int .i64 ba, .int .i64 la, .string bo] 23) (.cells #[.int .i64 k, .int .i64 dt, .slice A xs.length c, .string tx] 28) ((.cells #[.int .i64 0, .int .i64 0, .int .i64 0, .string ⟨#[]⟩] 23))
    exact ⟨hx1.blk g1, hx1.blk g2, hx1.blk g3, HI.out.ext hx1.drew, hx.drew⟩)
  clear hx1
  go_wp2
  generalize hq : w1.drew = w5 at *
  refine region_g 6 (PC w #[.int .i64 m, .int .i64 ba, .int .i64 la, .string bo] #[.int .i64 k, .int .i64 dt, .slice A xs.length c, .string tx] A c xs) (fun v => v = w5) (by kernel_rfl) hq ?_
  clear hq
  have HG : ∀ (l : Array Bool) v, v = w5 → l.getD 6 false = false → PC w #[.int .i64 m, .int .i64 ba, .int .i64 la, .string bo] #[.int .i64 k, .int .i64 dt, .slice A xs.length c, .string tx] A c xs v := fun _ v h _ => h ▸ HPC.out
  have K0 : ∀ v, PC w #[.int .i64 m, .int .i64 ba, .int .i64 la, .string bo] #[.int .i64 k, .int .i64 dt, .slice A xs.length c, .string tx] A c xs v → v.cell? ⟨w.heap.size, 3, none⟩ = some (.string bo) := fun v hv => blk_cell hv.1 3 _ rfl
  have K1 : ∀ v, PC w #[.int .i64 m, .int .i64 ba, .int .i64 la, .string bo] #[.int .i64 k, .int .i64 dt, .slice A xs.length c, .string tx] A c xs v → v.cell? ⟨w.heap.size + 1, 0, none⟩ = some (.int .i64 k) := fun v hv => blk_cell hv.2.1 0 _ rfl
  have K2 : ∀ v, PC w #[.int .i64 m, .int .i64 ba, .int .i64 la, .string bo] #[.int .i64 k, .int .i64 dt, .slice A xs.length c, .string tx] A c xs v → v.cell? ⟨w.heap.size + 1, 1, none⟩ = some (.int .i64 dt) := fun v hv => blk_cell hv.2.1 1 _ rfl
  have K3 : ∀ v, PC w #[.int .i64 m, .int .i64 ba, .int .i64 la, .string bo] #[.int .i64 k, .int .i64 dt, .slice A xs.length c, .string tx] A c xs v → v.cell? ⟨w.heap.size + 1, 2, none⟩ = some (.slice A xs.length c) := fun v hv => blk_cell hv.2.1 2 _ rfl
  have K4 : ∀ v, PC w #[.int .i64 m, .int .i64 ba, .int .i64 la, .string bo] #[.int .i64 k, .int .i64 dt, .slice A xs.length c, .string tx] A c xs v → v.cell? ⟨w.heap.size + 1, 3, none⟩ = some (.string tx) := fun v hv => blk_cell hv.2.1 3 _ rfl
  have h99 : (9223372036854775807 < bo.size + en.size) = False := by have := HEZ.out; simp; omega
  have hbq := HBQ.out
  refine g_take (HG _) (i := 0) (v := ?_) rfl (by kernel_rfl) (by kernel_rfl) (by kernel_rfl) (by kernel_rfl) (by kernel_rfl) (fun _ _ _ h => h) (Still.yes (by kernel_rfl) fun w hS => ?_) ?_
  rotate_left 1
  · skip
    go_simp
    refine gives_mk ?_ rfl
    with_reducible rfl
  refine g_take (HG _) (i := 1) (v := ?_) rfl (by kernel_rfl) (by kernel_rfl) (by kernel_rfl) (by kernel_rfl) (by kernel_rfl) (fun _ _ _ h => h) (Still.yes (by kernel_rfl) fun w hS => ?_) ?_
  rotate_left 1
  · skip
    go_simp
    refine gives_mk ?_ rfl
    with_reducible rfl
  refine g_take (HG _) (i := 2) (v := ?_) rfl (by kernel_rfl) (by kernel_rfl) (by kernel_rfl) (by kernel_rfl) (by kernel_rfl) (fun _ _ _ h => h) (Still.yes (by kernel_rfl) fun w hS => ?_) ?_
  rotate_left 1
  · skip
    go_simp
    refine gives_mk ?_ rfl
    with_reducible rfl
  refine g_turn (PC3 w en #[.int .i64 m, .int .i64 ba, .int .i64 la, .string bo] #[.int .i64 k, .int .i64 dt, .slice A xs.length c, .string tx] A c xs) (k := 3) (by kernel_rfl) (fun _ _ h _ => h.2) (fun v hv => ?_)
  refine at_call (S := fun _ => True) rfl (by kernel_rfl) (by go_simp; (try exact ⟨rfl, rfl⟩)) (urput_enc_T w k dt xs tx en HEN.out _ _ A c v (hv ▸ HPC.out) HN.out HTX.out) ?_
  rintro u ⟨_, rfl, _⟩
  replace HG : ∀ (l : Array Bool) v, PC3 w en #[.int .i64 m, .int .i64 ba, .int .i64 la, .string bo] #[.int .i64 k, .int .i64 dt, .slice A xs.length c, .string tx] A c xs (.string en) v → l.getD 6 false = false → PC w #[.int .i64 m, .int .i64 ba, .int .i64 la, .string bo] #[.int .i64 k, .int .i64 dt, .slice A xs.length c, .string tx] A c xs v := fun _ _ h _ => h.2
  refine g_free (HG _) (i := 4) (v := ?_) rfl (by kernel_rfl) (by kernel_rfl) (by kernel_rfl) (by kernel_rfl) (fun _ _ _ h => h) (Still.yes (by kernel_rfl) fun w hS => ?_) ?_
  rotate_left 1
  · skip
    go_simp
    try simp only [h99, if_false, hbq]
    refine gives_mk ?_ rfl
    with_reducible rfl
  refine g_free (HG _) (i := 5) (v := ?_) rfl (by kernel_rfl) (by kernel_rfl) (by kernel_rfl) (by kernel_rfl) (fun _ _ _ h => h) (Still.yes (by kernel_rfl) fun w hS => ?_) ?_
  rotate_left 1
  · skip
    go_simp
    refine gives_mk ?_ rfl
    with_reducible rfl
  refine g_turn (PC6 w #[.int .i64 m, .int .i64 ba, .int .i64 la, .string bq]) (k := 6) (by kernel_rfl) (fun _ _ _ hz => absurd hz (by decide +kernel)) (fun v hv => ?_)
  refine at_skip rfl (by kernel_rfl) ?_ ?_
  · have HV := Lib.hid hv.2
    have z3 := blk_cell HV.out.1 3 (.string bo) rfl
    have y3 := frozen_of_row _ _ 3 _ _ HV.out.1
    clear hv K0 K1 K2 K3 K4 h99 hbq HG
    go_simp
    first | exact ⟨blk_set HV.out.1 3 (.string bq), blk_set_other HV.out.2.2.1 _ (by simp; omega) _, HV.out.2.2.2.2.setCell (Nat.le_refl _) _⟩ | exact ⟨_, rfl, blk_set HV.out.1 3 (.string bq), blk_set_other HV.out.2.2.1 _ (by simp; omega) _, HV.out.2.2.2.2.setCell (Nat.le_refl _) _⟩
  refine g_done (by kernel_rfl) ?_ _
  intro w6 hw6
  have HW6 := Lib.hid hw6
  clear K0 K1 K2 K3 K4 h99 hbq HG hw6
  have a0 := blk_cell HW6.out.1 0 (.int .i64 m) rfl
  have a1 := blk_cell HW6.out.1 1 (.int .i64 ba) rfl
  have a2 := blk_cell HW6.out.1 2 (.int .i64 la) rfl
  have a3 := blk_cell HW6.out.1 3 (.string bq) rfl
  have f2 := frozen_of_row _ _ 2 _ _ HW6.out.1
  have hzb := HW6.out.2.1
  have z0 := blk_cell hzb 0 (.int .i64 0) rfl
  have z1 := blk_cell hzb 1 (.int .i64 0) rfl
  have z2 := blk_cell hzb 2 (.int .i64 0) rfl
  have z3 := blk_cell hzb 3 (.string ⟨#[]⟩) rfl
  have y0 := frozen_of_row _ _ 0 _ _ hzb
  have y1 := frozen_of_row _ _ 1 _ _ hzb
  have y2 := frozen_of_row _ _ 2 _ _ hzb
  have y3 := frozen_of_row _ _ 3 _ _ hzb
  have HZB := Lib.hid hzb
  clear hzb
  go_simp
  go_wp2
  have hzz := blk_set (blk_set (blk_set (blk_set (blk_set_other HZB.out ⟨w.heap.size, 2, none⟩ (by simp; omega) (.int .i64 t)) 0 (.int .i64 m)) 1 (.int .i64 ba)) 2 (.int .i64 t)) 3 (.string bq)
  clear z0 z1 z2 z3 y0 y1 y2 y3 a0 a1 a2 a3 f2
  have t0 := blk_cell hzz 0 (.int .i64 m) rfl
  have t1 := blk_cell hzz 1 (.int .i64 ba) rfl
  have t2 := blk_cell hzz 2 (.int .i64 t) rfl
  have t3 := blk_cell hzz 3 (.string bq) rfl
  refine bodyPost_ret (v := .tuple #[.agg #[.int .i64 m, .int .i64 ba, .int .i64 t, .string bq], .bool true]) (by simp [results, Try.results11, go_sem, t0, t1, t2, t3]) rfl ⟨rfl, ?_⟩
  have hg : w.heap.size ≤ w.heap.size + 1 + 1 := by omega
  exact ((((HW6.out.2.2.setCell (Nat.le_refl _) _).setCell hg _).setCell hg _).setCell hg _).setCell hg _
set_option maxRecDepth 100000 in
set_option maxHeartbeats 1000000 in
theorem urput_bad0 (m ba la : Int) (bo : ByteArray) (t : Int) (k d : Int) (xs : List Int) (tx : ByteArray) (A : Option Addr) (c : Nat) (w : World) (hok : Ev.ok t = true) (hb : bo.size = 0)
    (hI : IntsAt w (.slice A xs.length c) xs) (hn : xs.length ≤ 1000) (hm : Ev.may ⟨k, 0, xs, tx⟩ = false) :
    Calls Try.prog 11 #[.agg #[.int .i64 m, .int .i64 ba, .int .i64 la, .string bo], .int .i64 t, .agg #[.int .i64 k, .int .i64 d, .slice A xs.length c, .string tx]] w (BPut (Bu.zero, false) w) := by
  have hb1 : ((bo.size : Int) == 0) = true := by rw [beq_iff_eq]; omega
  have hb3 : bo.size ≤ 0 := by omega
  have hdt : IntKind.i64.wrap (t - t) = 0 := by rw [Int.sub_self]; rfl
  have hdt0 : IntKind.i64.wrap 0 = 0 := rfl
  clear hb
  have HN := Lib.hid hn
  have HT := Lib.hid hok
  have HI := Lib.hid (hI.ext ((((Ext.refl w).alloc (.cells #[.int .i64 m, .int .i64 t, .int .i64 t, .string bo] 23)).alloc (.cells #[.int .i64 k, .int .i64 0, .slice A xs.length c, .string tx] 28)).alloc ((.cells #[.int .i64 0, .int .i64 0, .int .i64 0, .string ⟨#[]⟩] 23))))
  have HM := Lib.hid hm
  clear hok hm hI hn
  go_enter Try.func11, Try.ntmps11
  go_wp2_with fail
  refine (fits_eq t true HT.out _).mono ?_
  rintro r w1 ⟨rfl, rfl⟩
  go_wp2_with fail
  refine (rmay_k k 0 xs tx false HM.out A c _ HI.out HN.out).mono ?_
  rintro r w1 ⟨rfl, hx1⟩
  have hzb := hx1.blk (three_new w (.cells #[.int .i64 m, .int .i64 t, .int .i64 t, .string bo] 23) (.cells #[.int .i64 k, .int .i64 0, .slice A xs.length c, .string tx] 28) ((.cells #[.int .i64 0, .int .i64 0, .int .i64 0, .string ⟨#[]⟩] 23))).2.2
  have HX1 := Lib.hid hx1
  clear hx1
  have z0 := blk_cell hzb 0 (.int .i64 0) rfl
  have z1 := blk_cell hzb 1 (.int .i64 0) rfl
  have z2 := blk_cell hzb 2 (.int .i64 0) rfl
  have z3 := blk_cell hzb 3 (.string ⟨#[]⟩) rfl
  have y0 := frozen_of_row _ _ 0 _ _ hzb
  have y1 := frozen_of_row _ _ 1 _ _ hzb
  have y2 := frozen_of_row _ _ 2 _ _ hzb
  have y3 := frozen_of_row _ _ 3 _ _ hzb
  have HZB := Lib.hid hzb
  clear hzb
  go_wp2
  clear z0 z1 z2 z3 y0 y1 y2 y3
  have hzz := uzero4 HZB.out
  have t0 := blk_cell hzz 0 (.int .i64 0) rfl
  have t1 := blk_cell hzz 1 (.int .i64 0) rfl
  have t2 := blk_cell hzz 2 (.int .i64 0) rfl
  have t3 := blk_cell hzz 3 (.string ⟨#[]⟩) rfl
  refine bodyPost_ret (v := .tuple #[(.agg #[.int .i64 0, .int .i64 0, .int .i64 0, .string ⟨#[]⟩]), .bool false]) (by simp [results, Try.results11, go_sem, t0, t1, t2, t3]) rfl ⟨rfl, ?_⟩
  have hg : w.heap.size ≤ w.heap.size + 1 + 1 := by omega
  exact ((((((((Ext.refl w).alloc _).alloc _).alloc _).trans HX1.out).setCell hg _).setCell hg _).setCell hg _).setCell hg _
set_option maxRecDepth 100000 in
set_option maxHeartbeats 1000000 in
theorem urput_ok0 (m ba la : Int) (bo : ByteArray) (t : Int) (k d : Int) (xs : List Int) (tx : ByteArray) (A : Option Addr) (c : Nat) (w : World) (hok : Ev.ok t = true) (hb : bo.size = 0) (hbz : bo.size ≤ 1000000)
    (hI : IntsAt w (.slice A xs.length c) xs) (hn : xs.length ≤ 1000) (htx : tx.size ≤ 1000000) (hm : Ev.may ⟨k, 0, xs, tx⟩ = true) (en bq : ByteArray) (hen : Ev.enc ⟨k, 0, xs, tx⟩ = en) (henz : en.size ≤ 140737488351300) (hbq : bo ++ en = bq) :
    Calls Try.prog 11 #[.agg #[.int .i64 m, .int .i64 ba, .int .i64 la, .string bo], .int .i64 t, .agg #[.int .i64 k, .int .i64 d, .slice A xs.length c, .string tx]] w (BPut (⟨m, t, t, bq⟩, true) w) := by
  have hb1 : ((bo.size : Int) == 0) = true := by rw [beq_iff_eq]; omega
  have hb3 : bo.size ≤ 0 := by omega
  have hdt : IntKind.i64.wrap (t - t) = 0 := by rw [Int.sub_self]; rfl
  have hdt0 : IntKind.i64.wrap 0 = 0 := rfl
  clear hb
  have HN := Lib.hid hn
  have HT := Lib.hid hok
  have HTX := Lib.hid htx
  have HI := Lib.hid (hI.ext ((((Ext.refl w).alloc (.cells #[.int .i64 m, .int .i64 t, .int .i64 t, .string bo] 23)).alloc (.cells #[.int .i64 k, .int .i64 0, .slice A xs.length c, .string tx] 28)).alloc ((.cells #[.int .i64 0, .int .i64 0, .int .i64 0, .string ⟨#[]⟩] 23))))
  have HM := Lib.hid hm
  have HEN := Lib.hid hen
  have HBQ := Lib.hid hbq
  have HLT : Hid (∀ b o, 0 < xs.length → A = some ⟨b, o, none⟩ → b < w.heap.size) := Lib.hid fun b o hz hA => by
    obtain ⟨A', c', hv, hh⟩ := hI
    simp only [Value.slice.injEq, true_and] at hv
    obtain ⟨rfl, rfl⟩ := hv
    obtain ⟨b', o', hb', hlt, _⟩ := hh hz
    rw [hA] at hb'
    simp only [Option.some.injEq, Addr.mk.injEq, and_true] at hb'
    omega
  have HEZ := Lib.hid henz
  clear hok hm hI hn htx hen hbq henz
  go_enter Try.func11, Try.ntmps11
  go_wp2_with fail
  refine (fits_eq t true HT.out _).mono ?_
  rintro r w1 ⟨rfl, rfl⟩
  go_wp2_with fail
  refine (rmay_k k 0 xs tx true HM.out A c _ HI.out HN.out).mono ?_
  rintro r w1 ⟨rfl, hx1⟩
  have HPC : Hid (PC w #[.int .i64 m, .int .i64 t, .int .i64 t, .string bo] #[.int .i64 k, .int .i64 0, .slice A xs.length c, .string tx] A c xs w1.drew) := Lib.hid (by
    have hx : Ext w w1 := ((((Ext.refl w).alloc _).alloc _).alloc _).trans hx1
    obtain ⟨g1, g2, g3⟩ := three_new w (.cells #[.int .i64 m, .int .i64 t, .int .i64 t, .string bo] 23) (.cells #[.int .i64 k, .int .i64 0, .slice A xs.length c, .string tx] 28) ((.cells #[.int .i64 0, .int .i64 0, .int .i64 0, .string ⟨#[]⟩] 23))
    exact ⟨hx1.blk g1, hx1.blk g2, hx1.blk g3, HI.out.ext hx1.drew, hx.drew⟩)
  clear hx1
  go_wp2
  generalize hq : w1.drew = w5 at *
  refine region_g 6 (PC w #[.int .i64 m, .int .i64 t, .int .i64 t, .string bo] #[.int .i64 k, .int .i64 0, .slice A xs.length c, .string tx] A c xs) (fun v => v = w5) (by kernel_rfl) hq ?_
  clear hq
  have HG : ∀ (l : Array Bool) v, v = w5 → l.getD 6 false = false → PC w #[.int .i64 m, .int .i64 t, .int .i64 t, .string bo] #[.int .i64 k, .int .i64 0, .slice A xs.length c, .string tx] A c xs v := fun _ v h _ => h ▸ HPC.out
  have K0 : ∀ v, PC w #[.int .i64 m, .int .i64 t, .int .i64 t, .string bo] #[.int .i64 k, .int .i64 0, .slice A xs.length c, .string tx] A c xs v → v.cell? ⟨w.heap.size, 3, none⟩ = some (.string bo) := fun v hv => blk_cell hv.1 3 _ rfl
  have K1 : ∀ v, PC w #[.int .i64 m, .int .i64 t, .int .i64 t, .string bo] #[.int .i64 k, .int .i64 0, .slice A xs.length c, .string tx] A c xs v → v.cell? ⟨w.heap.size + 1, 0, none⟩ = some (.int .i64 k) := fun v hv => blk_cell hv.2.1 0 _ rfl
  have K2 : ∀ v, PC w #[.int .i64 m, .int .i64 t, .int .i64 t, .string bo] #[.int .i64 k, .int .i64 0, .slice A xs.length c, .string tx] A c xs v → v.cell? ⟨w.heap.size + 1, 1, none⟩ = some (.int .i64 0) := fun v hv => blk_cell hv.2.1 1 _ rfl
  have K3 : ∀ v, PC w #[.int .i64 m, .int .i64 t, .int .i64 t, .string bo] #[.int .i64 k, .int .i64 0, .slice A xs.length c, .string tx] A c xs v → v.cell? ⟨w.heap.size + 1, 2, none⟩ = some (.slice A xs.length c) := fun v hv => blk_cell hv.2.1 2 _ rfl
  have K4 : ∀ v, PC w #[.int .i64 m, .int .i64 t, .int .i64 t, .string bo] #[.int .i64 k, .int .i64 0, .slice A xs.length c, .string tx] A c xs v → v.cell? ⟨w.heap.size + 1, 3, none⟩ = some (.string tx) := fun v hv => blk_cell hv.2.1 3 _ rfl
  have h99 : (9223372036854775807 < bo.size + en.size) = False := by have := HEZ.out; simp; omega
  have hbq := HBQ.out
  refine g_take (HG _) (i := 0) (v := ?_) rfl (by kernel_rfl) (by kernel_rfl) (by kernel_rfl) (by kernel_rfl) (by kernel_rfl) (fun _ _ _ h => h) (Still.yes (by kernel_rfl) fun w hS => ?_) ?_
  rotate_left 1
  · skip
    go_simp
    refine gives_mk ?_ rfl
    with_reducible rfl
  refine g_take (HG _) (i := 1) (v := ?_) rfl (by kernel_rfl) (by kernel_rfl) (by kernel_rfl) (by kernel_rfl) (by kernel_rfl) (fun _ _ _ h => h) (Still.yes (by kernel_rfl) fun w hS => ?_) ?_
  rotate_left 1
  · skip
    go_simp
    refine gives_mk ?_ rfl
    with_reducible rfl
  refine g_take (HG _) (i := 2) (v := ?_) rfl (by kernel_rfl) (by kernel_rfl) (by kernel_rfl) (by kernel_rfl) (by kernel_rfl) (fun _ _ _ h => h) (Still.yes (by kernel_rfl) fun w hS => ?_) ?_
  rotate_left 1
  · skip
    go_simp
    refine gives_mk ?_ rfl
    with_reducible rfl
  refine g_turn (PC3 w en #[.int .i64 m, .int .i64 t, .int .i64 t, .string bo] #[.int .i64 k, .int .i64 0, .slice A xs.length c, .string tx] A c xs) (k := 3) (by kernel_rfl) (fun _ _ h _ => h.2) (fun v hv => ?_)
  refine at_call (S := fun _ => True) rfl (by kernel_rfl) (by go_simp; (try exact ⟨rfl, rfl⟩)) (urput_enc_T w k 0 xs tx en HEN.out _ _ A c v (hv ▸ HPC.out) HN.out HTX.out) ?_
  rintro u ⟨_, rfl, _⟩
  replace HG : ∀ (l : Array Bool) v, PC3 w en #[.int .i64 m, .int .i64 t, .int .i64 t, .string bo] #[.int .i64 k, .int .i64 0, .slice A xs.length c, .string tx] A c xs (.string en) v → l.getD 6 false = false → PC w #[.int .i64 m, .int .i64 t, .int .i64 t, .string bo] #[.int .i64 k, .int .i64 0, .slice A xs.length c, .string tx] A c xs v := fun _ _ h _ => h.2
  refine g_free (HG _) (i := 4) (v := ?_) rfl (by kernel_rfl) (by kernel_rfl) (by kernel_rfl) (by kernel_rfl) (fun _ _ _ h => h) (Still.yes (by kernel_rfl) fun w hS => ?_) ?_
  rotate_left 1
  · skip
    go_simp
    try simp only [h99, if_false, hbq]
    refine gives_mk ?_ rfl
    with_reducible rfl
  refine g_free (HG _) (i := 5) (v := ?_) rfl (by kernel_rfl) (by kernel_rfl) (by kernel_rfl) (by kernel_rfl) (fun _ _ _ h => h) (Still.yes (by kernel_rfl) fun w hS => ?_) ?_
  rotate_left 1
  · skip
    go_simp
    refine gives_mk ?_ rfl
    with_reducible rfl
  refine g_turn (PC6 w #[.int .i64 m, .int .i64 t, .int .i64 t, .string bq]) (k := 6) (by kernel_rfl) (fun _ _ _ hz => absurd hz (by decide +kernel)) (fun v hv => ?_)
  refine at_skip rfl (by kernel_rfl) ?_ ?_
  · have HV := Lib.hid hv.2
    have z3 := blk_cell HV.out.1 3 (.string bo) rfl
    have y3 := frozen_of_row _ _ 3 _ _ HV.out.1
    clear hv K0 K1 K2 K3 K4 h99 hbq HG
    go_simp
    first | exact ⟨blk_set HV.out.1 3 (.string bq), blk_set_other HV.out.2.2.1 _ (by simp; omega) _, HV.out.2.2.2.2.setCell (Nat.le_refl _) _⟩ | exact ⟨_, rfl, blk_set HV.out.1 3 (.string bq), blk_set_other HV.out.2.2.1 _ (by simp; omega) _, HV.out.2.2.2.2.setCell (Nat.le_refl _) _⟩
  refine g_done (by kernel_rfl) ?_ _
  intro w6 hw6
  have HW6 := Lib.hid hw6
  clear K0 K1 K2 K3 K4 h99 hbq HG hw6
  have a0 := blk_cell HW6.out.1 0 (.int .i64 m) rfl
  have a1 := blk_cell HW6.out.1 1 (.int .i64 t) rfl
  have a2 := blk_cell HW6.out.1 2 (.int .i64 t) rfl
  have a3 := blk_cell HW6.out.1 3 (.string bq) rfl
  have f2 := frozen_of_row _ _ 2 _ _ HW6.out.1
  have hzb := HW6.out.2.1
  have z0 := blk_cell hzb 0 (.int .i64 0) rfl
  have z1 := blk_cell hzb 1 (.int .i64 0) rfl
  have z2 := blk_cell hzb 2 (.int .i64 0) rfl
  have z3 := blk_cell hzb 3 (.string ⟨#[]⟩) rfl
  have y0 := frozen_of_row _ _ 0 _ _ hzb
  have y1 := frozen_of_row _ _ 1 _ _ hzb
  have y2 := frozen_of_row _ _ 2 _ _ hzb
  have y3 := frozen_of_row _ _ 3 _ _ hzb
  have HZB := Lib.hid hzb
  clear hzb
  go_simp
  go_wp2
  have hzz := blk_set (blk_set (blk_set (blk_set (blk_set_other HZB.out ⟨w.heap.size, 2, none⟩ (by simp; omega) (.int .i64 t)) 0 (.int .i64 m)) 1 (.int .i64 t)) 2 (.int .i64 t)) 3 (.string bq)
  clear z0 z1 z2 z3 y0 y1 y2 y3 a0 a1 a2 a3 f2
  have t0 := blk_cell hzz 0 (.int .i64 m) rfl
  have t1 := blk_cell hzz 1 (.int .i64 t) rfl
  have t2 := blk_cell hzz 2 (.int .i64 t) rfl
  have t3 := blk_cell hzz 3 (.string bq) rfl
  refine bodyPost_ret (v := .tuple #[.agg #[.int .i64 m, .int .i64 t, .int .i64 t, .string bq], .bool true]) (by simp [results, Try.results11, go_sem, t0, t1, t2, t3]) rfl ⟨rfl, ?_⟩
  have hg : w.heap.size ≤ w.heap.size + 1 + 1 := by omega
  exact ((((HW6.out.2.2.setCell (Nat.le_refl _) _).setCell hg _).setCell hg _).setCell hg _).setCell hg _
theorem urput_any (m ba la : Int) (bo : ByteArray) (t : Int) (k d : Int) (xs : List Int) (tx : ByteArray) (A : Option Addr) (c : Nat) (w : World) (hbz : bo.size ≤ 1000000) (hI : IntsAt w (.slice A xs.length c) xs) (hn : xs.length ≤ 1000) (htx : tx.size ≤ 1000000) :
    Calls Try.prog 11 #[.agg #[.int .i64 m, .int .i64 ba, .int .i64 la, .string bo], .int .i64 t, .agg #[.int .i64 k, .int .i64 d, .slice A xs.length c, .string tx]] w (BPut (Bu.put ⟨m, ba, la, bo⟩ t ⟨k, d, xs, tx⟩) w) := by
  have hez : ∀ dt, (Ev.enc ⟨k, dt, xs, tx⟩).size ≤ 140737488351300 := fun dt => by
    cases hm : Ev.may ⟨k, dt, xs, tx⟩ with
    | false => unfold Ev.enc; rw [hm]; exact Nat.zero_le _
    | true =>
      rw [Ev.enc_size hm]
      have := Ev.encL_le hm (by unfold Va.most; simp only; omega)
      simp only at this
      omega
  cases ht : Ev.ok t with
  | false => rw [Bu.put_no ht]; exact urput_no m ba la bo t k d xs tx A c w ht
  | true =>
    by_cases hb : bo.size = 0
    · have e := Bu.put_empty (b := ⟨m, ba, la, bo⟩) (t := t) (e := ⟨k, d, xs, tx⟩) hb ht
      cases hm : Ev.may ⟨k, 0, xs, tx⟩ with
      | false => simp only [hm] at e; rw [e]; exact urput_bad0 m ba la bo t k d xs tx A c w ht hb hI (by omega) hm
      | true => simp only [hm] at e; rw [e]; exact urput_ok0 m ba la bo t k d xs tx A c w ht hb (by omega) hI (by omega) (by omega) hm _ _ rfl (hez 0) rfl
    · by_cases hl : la ≤ t
      · have e := Bu.put_more (b := ⟨m, ba, la, bo⟩) (t := t) (e := ⟨k, d, xs, tx⟩) hb ht hl
        simp only at e
        cases hm : Ev.may ⟨k, IntKind.i64.wrap (t - la), xs, tx⟩ with
        | false => simp only [hm] at e; rw [e]; exact urput_bad m ba la bo t k d xs tx A c w ht hb hl hI (by omega) _ rfl hm
        | true => simp only [hm] at e; rw [e]; exact urput_ok m ba la bo t k d xs tx A c w ht hb (by omega) hl hI (by omega) (by omega) _ rfl hm _ _ rfl (hez _) rfl
      · rw [Bu.put_early (b := ⟨m, ba, la, bo⟩) hb (by simp only; omega)]
        exact urput_early m ba la bo t k d xs tx A c w ht hb hbz (by omega)

set_option maxRecDepth 100000 in
set_option maxHeartbeats 1000000 in
theorem ubseal_out (m ba la : Int) (bo : ByteArray) (g m' : Int) (hm' : IntKind.i64.wrap (m + 1) = m') (w : World) (ho : bo.size = 0 ∨ (¬ bo.size = 0 ∧ m < 1)) :
    Calls Try.prog 13 #[.agg #[.int .i64 m, .int .i64 ba, .int .i64 la, .string bo], .int .i64 g] w (BSeal (Bt.zero, Bu.zero, false) w) := by
  have hzb := (three_new w (.cells #[.int .i64 m, .int .i64 ba, .int .i64 la, .string bo] 23) (.cells #[.int .i64 0, .int .i64 0, .int .i64 0, .string ⟨#[]⟩] 35) ((.cells #[.int .i64 0, .int .i64 0, .int .i64 0, .string ⟨#[]⟩] 23))).2.1
  have hzu := (three_new w (.cells #[.int .i64 m, .int .i64 ba, .int .i64 la, .string bo] 23) (.cells #[.int .i64 0, .int .i64 0, .int .i64 0, .string ⟨#[]⟩] 35) ((.cells #[.int .i64 0, .int .i64 0, .int .i64 0, .string ⟨#[]⟩] 23))).2.2
  have z0 := blk_cell hzb 0 (.int .i64 0) rfl
  have z1 := blk_cell hzb 1 (.int .i64 0) rfl
  have z2 := blk_cell hzb 2 (.int .i64 0) rfl
  have z3 := blk_cell hzb 3 (.string ⟨#[]⟩) rfl
  have y0 := frozen_of_row _ _ 0 _ _ hzb
  have y1 := frozen_of_row _ _ 1 _ _ hzb
  have y2 := frozen_of_row _ _ 2 _ _ hzb
  have y3 := frozen_of_row _ _ 3 _ _ hzb
  have x0 := blk_cell hzu 0 (.int .i64 0) rfl
  have x1 := blk_cell hzu 1 (.int .i64 0) rfl
  have x2 := blk_cell hzu 2 (.int .i64 0) rfl
  have x3 := blk_cell hzu 3 (.string ⟨#[]⟩) rfl
  have v0 := frozen_of_row _ _ 0 _ _ hzu
  have v1 := frozen_of_row _ _ 1 _ _ hzu
  have v2 := frozen_of_row _ _ 2 _ _ hzu
  have v3 := frozen_of_row _ _ 3 _ _ hzu
  have HZB := Lib.hid hzb
  have HZU := Lib.hid hzu
  clear hzb hzu
  rcases ho with hb | ⟨hb, h1⟩
  · by_cases h1 : m < 1
    all_goals
      have hb1 : ((bo.size : Int) == 0) = true := by rw [beq_iff_eq]; omega
      clear hb
      go_enter Try.func13, Try.ntmps13
      go_wp2
      clear z0 z1 z2 z3 y0 y1 y2 y3 x0 x1 x2 x3 v0 v1 v2 v3
      have t0 := blk_cell HZB.out 0 (.int .i64 0) rfl
      have t1 := blk_cell HZB.out 1 (.int .i64 0) rfl
      have t2 := blk_cell HZB.out 2 (.int .i64 0) rfl
      have t3 := blk_cell HZB.out 3 (.string ⟨#[]⟩) rfl
      have u0 := blk_cell HZU.out 0 (.int .i64 0) rfl
      have u1 := blk_cell HZU.out 1 (.int .i64 0) rfl
      have u2 := blk_cell HZU.out 2 (.int .i64 0) rfl
      have u3 := blk_cell HZU.out 3 (.string ⟨#[]⟩) rfl
      refine bodyPost_ret (v := .tuple #[(.agg #[.int .i64 0, .int .i64 0, .int .i64 0, .string ⟨#[]⟩]), (.agg #[.int .i64 0, .int .i64 0, .int .i64 0, .string ⟨#[]⟩]), .bool false]) (by simp [results, Try.results13, go_sem, t0, t1, t2, t3, u0, u1, u2, u3]) rfl ⟨rfl, ?_⟩
      exact (((Ext.refl w).alloc _).alloc _).alloc _
  · clear hb
    go_enter Try.func13, Try.ntmps13
    go_wp2
    clear z0 z1 z2 z3 y0 y1 y2 y3 x0 x1 x2 x3 v0 v1 v2 v3
    have t0 := blk_cell HZB.out 0 (.int .i64 0) rfl
    have t1 := blk_cell HZB.out 1 (.int .i64 0) rfl
    have t2 := blk_cell HZB.out 2 (.int .i64 0) rfl
    have t3 := blk_cell HZB.out 3 (.string ⟨#[]⟩) rfl
    have u0 := blk_cell HZU.out 0 (.int .i64 0) rfl
    have u1 := blk_cell HZU.out 1 (.int .i64 0) rfl
    have u2 := blk_cell HZU.out 2 (.int .i64 0) rfl
    have u3 := blk_cell HZU.out 3 (.string ⟨#[]⟩) rfl
    refine bodyPost_ret (v := .tuple #[(.agg #[.int .i64 0, .int .i64 0, .int .i64 0, .string ⟨#[]⟩]), (.agg #[.int .i64 0, .int .i64 0, .int .i64 0, .string ⟨#[]⟩]), .bool false]) (by simp [results, Try.results13, go_sem, t0, t1, t2, t3, u0, u1, u2, u3]) rfl ⟨rfl, ?_⟩
    exact (((Ext.refl w).alloc _).alloc _).alloc _
set_option maxRecDepth 100000 in
set_option maxHeartbeats 1000000 in
theorem ubseal_bad (m ba la : Int) (bo : ByteArray) (g m' : Int) (hm' : IntKind.i64.wrap (m + 1) = m') (w : World) (hb : ¬ bo.size = 0) (h1 : 1 ≤ m) (hm : Bt.may ⟨g, m', ba, bo⟩ = false) :
    Calls Try.prog 13 #[.agg #[.int .i64 m, .int .i64 ba, .int .i64 la, .string bo], .int .i64 g] w (BSeal (Bt.zero, Bu.zero, false) w) := by
  have hb1 : ((bo.size : Int) == 0) = false := by rw [beq_eq_false_iff_ne]; omega
  have HM := Lib.hid hm
  clear hb hm
  go_enter Try.func13, Try.ntmps13
  go_wp2_with fail
  refine (rbmay_eq g m' ba bo false HM.out _).mono ?_
  rintro r w1 ⟨rfl, hx1⟩
  have hzb := hx1.blk (four_new w (.cells #[.int .i64 m, .int .i64 ba, .int .i64 la, .string bo] 23) (.cells #[.int .i64 0, .int .i64 0, .int .i64 0, .string ⟨#[]⟩] 35) ((.cells #[.int .i64 0, .int .i64 0, .int .i64 0, .string ⟨#[]⟩] 23)) (.cells #[.int .i64 g, .int .i64 m', .int .i64 ba, .string bo] 35)).2.1
  have hzu := hx1.blk (four_new w (.cells #[.int .i64 m, .int .i64 ba, .int .i64 la, .string bo] 23) (.cells #[.int .i64 0, .int .i64 0, .int .i64 0, .string ⟨#[]⟩] 35) ((.cells #[.int .i64 0, .int .i64 0, .int .i64 0, .string ⟨#[]⟩] 23)) (.cells #[.int .i64 g, .int .i64 m', .int .i64 ba, .string bo] 35)).2.2.1
  have HX1 : Hid (Ext w w1) := Lib.hid (((((Ext.refl w).alloc _).alloc _).alloc _).alloc _ |>.trans hx1)
  clear hx1
  have z0 := blk_cell hzb 0 (.int .i64 0) rfl
  have z1 := blk_cell hzb 1 (.int .i64 0) rfl
  have z2 := blk_cell hzb 2 (.int .i64 0) rfl
  have z3 := blk_cell hzb 3 (.string ⟨#[]⟩) rfl
  have y0 := frozen_of_row _ _ 0 _ _ hzb
  have y1 := frozen_of_row _ _ 1 _ _ hzb
  have y2 := frozen_of_row _ _ 2 _ _ hzb
  have y3 := frozen_of_row _ _ 3 _ _ hzb
  have x0 := blk_cell hzu 0 (.int .i64 0) rfl
  have x1 := blk_cell hzu 1 (.int .i64 0) rfl
  have x2 := blk_cell hzu 2 (.int .i64 0) rfl
  have x3 := blk_cell hzu 3 (.string ⟨#[]⟩) rfl
  have v0 := frozen_of_row _ _ 0 _ _ hzu
  have v1 := frozen_of_row _ _ 1 _ _ hzu
  have v2 := frozen_of_row _ _ 2 _ _ hzu
  have v3 := frozen_of_row _ _ 3 _ _ hzu
  have HZB := Lib.hid hzb
  have HZU := Lib.hid hzu
  clear hzb hzu
  go_wp2
  clear z0 z1 z2 z3 y0 y1 y2 y3 x0 x1 x2 x3 v0 v1 v2 v3
  have hB := su4_off (su4_at HZB.out (.int .i64 0) (.int .i64 0) (.int .i64 0) (.string ⟨#[]⟩)) (x := w.heap.size + 1 + 1) (by omega) (.int .i64 0) (.int .i64 0) (.int .i64 0) (.string ⟨#[]⟩)
  have hU := su4_at (su4_off HZU.out (x := w.heap.size + 1) (by omega) (.int .i64 0) (.int .i64 0) (.int .i64 0) (.string ⟨#[]⟩)) (.int .i64 0) (.int .i64 0) (.int .i64 0) (.string ⟨#[]⟩)
  have t0 := blk_cell hB 0 (.int .i64 0) rfl
  have t1 := blk_cell hB 1 (.int .i64 0) rfl
  have t2 := blk_cell hB 2 (.int .i64 0) rfl
  have t3 := blk_cell hB 3 (.string ⟨#[]⟩) rfl
  have u0 := blk_cell hU 0 (.int .i64 0) rfl
  have u1 := blk_cell hU 1 (.int .i64 0) rfl
  have u2 := blk_cell hU 2 (.int .i64 0) rfl
  have u3 := blk_cell hU 3 (.string ⟨#[]⟩) rfl
  refine bodyPost_ret (v := .tuple #[(.agg #[.int .i64 0, .int .i64 0, .int .i64 0, .string ⟨#[]⟩]), (.agg #[.int .i64 0, .int .i64 0, .int .i64 0, .string ⟨#[]⟩]), .bool false]) (by simp [results, Try.results13, go_sem, t0, t1, t2, t3, u0, u1, u2, u3]) rfl ⟨rfl, ?_⟩
  exact su4_ext (su4_ext HX1.out (by omega) _ _ _ _) (by omega) _ _ _ _
set_option maxRecDepth 100000 in
set_option maxHeartbeats 1000000 in
theorem ubseal_ok (m ba la : Int) (bo : ByteArray) (g m' : Int) (hm' : IntKind.i64.wrap (m + 1) = m') (w : World) (hb : ¬ bo.size = 0) (h1 : 1 ≤ m) (hm : Bt.may ⟨g, m', ba, bo⟩ = true) :
    Calls Try.prog 13 #[.agg #[.int .i64 m, .int .i64 ba, .int .i64 la, .string bo], .int .i64 g] w (BSeal (⟨g, m', ba, bo⟩, ⟨m, 0, 0, ⟨#[]⟩⟩, true) w) := by
  have hb1 : ((bo.size : Int) == 0) = false := by rw [beq_eq_false_iff_ne]; omega
  have HM := Lib.hid hm
  clear hb hm
  go_enter Try.func13, Try.ntmps13
  go_wp2_with fail
  refine (rbmay_eq g m' ba bo true HM.out _).mono ?_
  rintro r w1 ⟨rfl, hx1⟩
  have HS : Hid (SP w #[.int .i64 m, .int .i64 ba, .int .i64 la, .string bo] #[.int .i64 g, .int .i64 m', .int .i64 ba, .string bo] #[.int .i64 0, .int .i64 0, .int .i64 0, .string ⟨#[]⟩] #[.int .i64 0, .int .i64 0, .int .i64 0, .string ⟨#[]⟩] undef w1.drew) := Lib.hid (by
    obtain ⟨f1, f2, f3, f4⟩ := four_new w (.cells #[.int .i64 m, .int .i64 ba, .int .i64 la, .string bo] 23) (.cells #[.int .i64 0, .int .i64 0, .int .i64 0, .string ⟨#[]⟩] 35) ((.cells #[.int .i64 0, .int .i64 0, .int .i64 0, .string ⟨#[]⟩] 23)) (.cells #[.int .i64 g, .int .i64 m', .int .i64 ba, .string bo] 35)
    exact ⟨⟨hx1.blk f2, hx1.blk f3, ((((((Ext.refl w).alloc _).alloc _).alloc _).alloc _).trans hx1).drew⟩, hx1.blk f1, hx1.blk f4⟩)
  clear hx1
  go_wp2
  generalize hq : w1.drew = w5 at *
  refine region_g 99 (SC w #[.int .i64 m, .int .i64 ba, .int .i64 la, .string bo] #[.int .i64 g, .int .i64 m', .int .i64 ba, .string bo]) (fun v => v = w5) (by kernel_rfl) hq ?_
  clear hq
  have HG : ∀ (l : Array Bool) v, v = w5 → l.getD 99 false = false → SC w #[.int .i64 m, .int .i64 ba, .int .i64 la, .string bo] #[.int .i64 g, .int .i64 m', .int .i64 ba, .string bo] v := fun _ v h _ => h ▸ HS.out.2
  have K0 : ∀ v, SC w #[.int .i64 m, .int .i64 ba, .int .i64 la, .string bo] #[.int .i64 g, .int .i64 m', .int .i64 ba, .string bo] v → v.cell? ⟨w.heap.size, 0, none⟩ = some (.int .i64 m) := fun v hv => blk_cell hv.1 0 _ rfl
  have K1 : ∀ v, SC w #[.int .i64 m, .int .i64 ba, .int .i64 la, .string bo] #[.int .i64 g, .int .i64 m', .int .i64 ba, .string bo] v → v.cell? ⟨w.heap.size + 1 + 1 + 1, 0, none⟩ = some (.int .i64 g) := fun v hv => blk_cell hv.2 0 _ rfl
  have K2 : ∀ v, SC w #[.int .i64 m, .int .i64 ba, .int .i64 la, .string bo] #[.int .i64 g, .int .i64 m', .int .i64 ba, .string bo] v → v.cell? ⟨w.heap.size + 1 + 1 + 1, 1, none⟩ = some (.int .i64 m') := fun v hv => blk_cell hv.2 1 _ rfl
  have K3 : ∀ v, SC w #[.int .i64 m, .int .i64 ba, .int .i64 la, .string bo] #[.int .i64 g, .int .i64 m', .int .i64 ba, .string bo] v → v.cell? ⟨w.heap.size + 1 + 1 + 1, 2, none⟩ = some (.int .i64 ba) := fun v hv => blk_cell hv.2 2 _ rfl
  have K4 : ∀ v, SC w #[.int .i64 m, .int .i64 ba, .int .i64 la, .string bo] #[.int .i64 g, .int .i64 m', .int .i64 ba, .string bo] v → v.cell? ⟨w.heap.size + 1 + 1 + 1, 3, none⟩ = some (.string bo) := fun v hv => blk_cell hv.2 3 _ rfl
  refine g_take (HG _) (i := 0) (v := ?_) rfl (by kernel_rfl) (by kernel_rfl) (by kernel_rfl) (by kernel_rfl) (by kernel_rfl) (fun _ _ _ h => h) (Still.yes (by kernel_rfl) fun w hS => ?_) ?_
  rotate_left 1
  · skip
    go_simp
    refine gives_mk ?_ rfl
    with_reducible rfl
  refine g_take (HG _) (i := 1) (v := ?_) rfl (by kernel_rfl) (by kernel_rfl) (by kernel_rfl) (by kernel_rfl) (by kernel_rfl) (fun _ _ _ h => h) (Still.yes (by kernel_rfl) fun w hS => ?_) ?_
  rotate_left 1
  · skip
    go_simp
    refine gives_mk ?_ rfl
    with_reducible rfl
  refine g_take (HG _) (i := 2) (v := ?_) rfl (by kernel_rfl) (by kernel_rfl) (by kernel_rfl) (by kernel_rfl) (by kernel_rfl) (fun _ _ _ h => h) (Still.yes (by kernel_rfl) fun w hS => ?_) ?_
  rotate_left 1
  · skip
    go_simp
    refine gives_mk ?_ rfl
    with_reducible rfl
  refine g_take (HG _) (i := 3) (v := ?_) rfl (by kernel_rfl) (by kernel_rfl) (by kernel_rfl) (by kernel_rfl) (by kernel_rfl) (fun _ _ _ h => h) (Still.yes (by kernel_rfl) fun w hS => ?_) ?_
  rotate_left 1
  · skip
    go_simp
    refine gives_mk ?_ rfl
    with_reducible rfl
  refine g_turn (SP w #[.int .i64 m, .int .i64 ba, .int .i64 la, .string bo] #[.int .i64 g, .int .i64 m', .int .i64 ba, .string bo] #[.int .i64 g, .int .i64 m', .int .i64 ba, .string bo] #[.int .i64 0, .int .i64 0, .int .i64 0, .string ⟨#[]⟩]) (k := 4) (by kernel_rfl) (fun _ _ h _ => h.2) (fun v hv => ?_)
  refine at_skip rfl (by kernel_rfl) ?_ ?_
  · subst hv
    have hzb := HS.out.1.1
    have hzu := HS.out.1.2.1
    clear K0 K1 K2 K3 K4 HG
    have z0 := blk_cell hzb 0 (.int .i64 0) rfl
    have z1 := blk_cell hzb 1 (.int .i64 0) rfl
    have z2 := blk_cell hzb 2 (.int .i64 0) rfl
    have z3 := blk_cell hzb 3 (.string ⟨#[]⟩) rfl
    have y0 := frozen_of_row _ _ 0 _ _ hzb
    have y1 := frozen_of_row _ _ 1 _ _ hzb
    have y2 := frozen_of_row _ _ 2 _ _ hzb
    have y3 := frozen_of_row _ _ 3 _ _ hzb
    have x0 := blk_cell hzu 0 (.int .i64 0) rfl
    have x1 := blk_cell hzu 1 (.int .i64 0) rfl
    have x2 := blk_cell hzu 2 (.int .i64 0) rfl
    have x3 := blk_cell hzu 3 (.string ⟨#[]⟩) rfl
    have v0 := frozen_of_row _ _ 0 _ _ hzu
    have v1 := frozen_of_row _ _ 1 _ _ hzu
    have v2 := frozen_of_row _ _ 2 _ _ hzu
    have v3 := frozen_of_row _ _ 3 _ _ hzu
    have HZB := Lib.hid hzb
    have HZU := Lib.hid hzu
    clear hzb hzu
    go_simp
    first | exact ⟨⟨su4_at HZB.out _ _ _ _, su4_off HZU.out (by omega) _ _ _ _, su4_ext HS.out.1.2.2 (by omega) _ _ _ _⟩, su4_off HS.out.2.1 (by omega) _ _ _ _, su4_off HS.out.2.2 (by omega) _ _ _ _⟩ | exact ⟨_, rfl, ⟨su4_at HZB.out _ _ _ _, su4_off HZU.out (by omega) _ _ _ _, su4_ext HS.out.1.2.2 (by omega) _ _ _ _⟩, su4_off HS.out.2.1 (by omega) _ _ _ _, su4_off HS.out.2.2 (by omega) _ _ _ _⟩
  refine g_turn (SP w #[.int .i64 m, .int .i64 ba, .int .i64 la, .string bo] #[.int .i64 g, .int .i64 m', .int .i64 ba, .string bo] #[.int .i64 g, .int .i64 m', .int .i64 ba, .string bo] #[.int .i64 m, .int .i64 0, .int .i64 0, .string ⟨#[]⟩]) (k := 5) (by kernel_rfl) (fun _ _ h _ => h.2) (fun v hv => ?_)
  refine at_skip rfl (by kernel_rfl) ?_ ?_
  · have HV := Lib.hid hv
    have hzu := hv.1.2.1
    clear hv K0 K1 K2 K3 K4 HG
    have x0 := blk_cell hzu 0 (.int .i64 0) rfl
    have x1 := blk_cell hzu 1 (.int .i64 0) rfl
    have x2 := blk_cell hzu 2 (.int .i64 0) rfl
    have x3 := blk_cell hzu 3 (.string ⟨#[]⟩) rfl
    have v0 := frozen_of_row _ _ 0 _ _ hzu
    have v1 := frozen_of_row _ _ 1 _ _ hzu
    have v2 := frozen_of_row _ _ 2 _ _ hzu
    have v3 := frozen_of_row _ _ 3 _ _ hzu
    clear hzu
    go_simp
    first | exact ⟨⟨su4_off HV.out.1.1 (by omega) _ _ _ _, su4_at HV.out.1.2.1 _ _ _ _, su4_ext HV.out.1.2.2 (by omega) _ _ _ _⟩, su4_off HV.out.2.1 (by omega) _ _ _ _, su4_off HV.out.2.2 (by omega) _ _ _ _⟩ | exact ⟨_, rfl, ⟨su4_off HV.out.1.1 (by omega) _ _ _ _, su4_at HV.out.1.2.1 _ _ _ _, su4_ext HV.out.1.2.2 (by omega) _ _ _ _⟩, su4_off HV.out.2.1 (by omega) _ _ _ _, su4_off HV.out.2.2 (by omega) _ _ _ _⟩
  replace HG : ∀ (l : Array Bool) v, SP w #[.int .i64 m, .int .i64 ba, .int .i64 la, .string bo] #[.int .i64 g, .int .i64 m', .int .i64 ba, .string bo] #[.int .i64 g, .int .i64 m', .int .i64 ba, .string bo] #[.int .i64 m, .int .i64 0, .int .i64 0, .string ⟨#[]⟩] undef v → l.getD 99 false = false → SC w #[.int .i64 m, .int .i64 ba, .int .i64 la, .string bo] #[.int .i64 g, .int .i64 m', .int .i64 ba, .string bo] v := fun _ _ h _ => h.2
  refine g_free (HG _) (i := 6) (v := ?_) rfl (by kernel_rfl) (by kernel_rfl) (by kernel_rfl) (by kernel_rfl) (fun _ _ _ h => h) (Still.yes (by kernel_rfl) fun w hS => ?_) ?_
  rotate_left 1
  · skip
    go_simp
    refine gives_mk ?_ rfl
    with_reducible rfl
  refine g_done (by kernel_rfl) ?_ _
  intro w6 hw6
  clear K0 K1 K2 K3 K4 HG
  obtain ⟨⟨hB, hU, hx6⟩, _⟩ := hw6
  have t0 := blk_cell hB 0 (.int .i64 g) rfl
  have t1 := blk_cell hB 1 (.int .i64 m') rfl
  have t2 := blk_cell hB 2 (.int .i64 ba) rfl
  have t3 := blk_cell hB 3 (.string bo) rfl
  have u0 := blk_cell hU 0 (.int .i64 m) rfl
  have u1 := blk_cell hU 1 (.int .i64 0) rfl
  have u2 := blk_cell hU 2 (.int .i64 0) rfl
  have u3 := blk_cell hU 3 (.string ⟨#[]⟩) rfl
  clear hB hU
  go_simp
  go_wp2
  refine bodyPost_ret (v := .tuple #[.agg #[.int .i64 g, .int .i64 m', .int .i64 ba, .string bo], .agg #[.int .i64 m, .int .i64 0, .int .i64 0, .string ⟨#[]⟩], .bool true]) (by simp [results, Try.results13, go_sem, t0, t1, t2, t3, u0, u1, u2, u3]) rfl ⟨rfl, hx6⟩

theorem ubseal_any (m ba la : Int) (bo : ByteArray) (g : Int) (w : World) : Calls Try.prog 13 #[.agg #[.int .i64 m, .int .i64 ba, .int .i64 la, .string bo], .int .i64 g] w (BSeal (Bu.seal ⟨m, ba, la, bo⟩ g) w) := by
  unfold Bu.seal
  by_cases hb : bo.size = 0
  · rw [if_pos (.inl hb)]
    exact ubseal_out m ba la bo g _ rfl w (.inl hb)
  · by_cases h1 : m < 1
    · rw [if_pos (.inr h1)]
      exact ubseal_out m ba la bo g _ rfl w (.inr ⟨hb, h1⟩)
    · rw [if_neg (by simp only; omega)]
      cases hm : Bt.may ⟨g, IntKind.i64.wrap (m + 1), ba, bo⟩ with
      | false => simp only [hm]; exact ubseal_bad m ba la bo g _ rfl w hb (by omega) hm
      | true => simp only [hm]; exact ubseal_ok m ba la bo g _ rfl w hb (by omega) hm
theorem urput_k (m ba la : Int) (bo : ByteArray) (t : Int) (k d : Int) (xs : List Int) (tx : ByteArray) (m' ba' la' : Int) (bo' : ByteArray) (ok : Bool) (h : Bu.put ⟨m, ba, la, bo⟩ t ⟨k, d, xs, tx⟩ = (⟨m', ba', la', bo'⟩, ok)) (A : Option Addr) (c : Nat) (w : World) (hbz : bo.size ≤ 1000000) (hI : IntsAt w (.slice A xs.length c) xs) (hn : xs.length ≤ 1000) (htx : tx.size ≤ 1000000) :
    Calls Try.prog 11 #[.agg #[.int .i64 m, .int .i64 ba, .int .i64 la, .string bo], .int .i64 t, .agg #[.int .i64 k, .int .i64 d, .slice A xs.length c, .string tx]] w fun r w' => r = .returned (.tuple #[.agg #[.int .i64 m', .int .i64 ba', .int .i64 la', .string bo'], .bool ok]) ∧ Ext w w' := by
  have := urput_any m ba la bo t k d xs tx A c w hbz hI hn htx
  rw [h] at this
  exact this
theorem ubseal_k (m ba la : Int) (bo : ByteArray) (g : Int) (g' s' b' : Int) (x' : ByteArray) (m' ba' la' : Int) (bo' : ByteArray) (ok : Bool) (h : Bu.seal ⟨m, ba, la, bo⟩ g = (⟨g', s', b', x'⟩, ⟨m', ba', la', bo'⟩, ok)) (w : World) :
    Calls Try.prog 13 #[.agg #[.int .i64 m, .int .i64 ba, .int .i64 la, .string bo], .int .i64 g] w fun r w' => r = .returned (.tuple #[.agg #[.int .i64 g', .int .i64 s', .int .i64 b', .string x'], .agg #[.int .i64 m', .int .i64 ba', .int .i64 la', .string bo'], .bool ok]) ∧ Ext w w' := by
  have := ubseal_any m ba la bo g w
  rw [h] at this
  exact this
theorem evs_one (w : World) (a : Ev) (A : Option Addr) (c : Nat) (ha : IntsAt w (.slice A a.args.length c) a.args) :
    EvsAt (w.alloc (.cells #[.int .i64 a.kind, .int .i64 a.dt, .slice A a.args.length c, .string a.text] 28)) (.slice (some ⟨w.heap.size, 0, none⟩) 1 1) [a] := by
  refine ⟨_, 1, rfl, fun _ => ⟨w.heap.size, 0, rfl, by simp, fun j e hj => ?_⟩⟩
  have hn := blk_new w (.cells #[.int .i64 a.kind, .int .i64 a.dt, .slice A a.args.length c, .string a.text] 28)
  match j with
  | 0 =>
    simp at hj; subst hj
    exact ⟨A, c, blk_cell hn 0 _ rfl, blk_cell hn 1 _ rfl, blk_cell hn 2 _ rfl, blk_cell hn 3 _ rfl, ha.ext ((Ext.refl w).alloc _)⟩
  | j + 1 => simp at hj
theorem evs_one' (w : World) (g : Nat) (hg : g = w.heap.size) (a : Ev) (A : Option Addr) (c : Nat) (ha : IntsAt w (.slice A a.args.length c) a.args) :
    EvsAt (w.alloc (.cells #[.int .i64 a.kind, .int .i64 a.dt, .slice A a.args.length c, .string a.text] 28)) (.slice (some ⟨g, 0, none⟩) 1 1) [a] := by
  subst hg; exact evs_one w a A c ha
theorem short_eq1 (v : Value) (l : List Ev) (b : Bool) (hb : Ev.short l = b) (w : World) (h : EvsAt w v l) (hn : l.length ≤ 9223372036854775807) :
    Calls Try.prog 8 #[v] w fun e w' => e = .returned (.bool b) ∧ w = w' := by subst hb; exact short_any v l w h hn
def Box3 (g : Nat) (a0 a1 a2 : Value) (v : World) : Prop := v.cell? ⟨g, 0, none⟩ = some a0 ∧ v.cell? ⟨g, 1, none⟩ = some a1 ∧ v.cell? ⟨g, 2, none⟩ = some a2
def Box4 (g : Nat) (a0 a1 a2 a3 : Value) (v : World) : Prop := v.cell? ⟨g, 0, none⟩ = some a0 ∧ v.cell? ⟨g, 1, none⟩ = some a1 ∧ v.cell? ⟨g, 2, none⟩ = some a2 ∧ v.cell? ⟨g, 3, none⟩ = some a3
theorem Box4.of {g : Nat} {a0 a1 a2 a3 : Value} {t : TypeId} {wx v : World} (h : wx.heap[g]? = some (.cells #[a0, a1, a2, a3] t (0, 0))) (hv : Ext wx v) : Box4 g a0 a1 a2 a3 v :=
  ⟨blk_cell (hv.blk h) 0 _ rfl, blk_cell (hv.blk h) 1 _ rfl, blk_cell (hv.blk h) 2 _ rfl, blk_cell (hv.blk h) 3 _ rfl⟩
theorem Box3.of {g : Nat} {a0 a1 a2 : Value} {t : TypeId} {wx v : World} (h : wx.heap[g]? = some (.cells #[a0, a1, a2] t (0, 0))) (hv : Ext wx v) : Box3 g a0 a1 a2 v :=
  ⟨blk_cell (hv.blk h) 0 _ rfl, blk_cell (hv.blk h) 1 _ rfl, blk_cell (hv.blk h) 2 _ rfl⟩
set_option maxRecDepth 100000 in
set_option maxHeartbeats 1000000 in
theorem utells_out (m ba la : Int) (bo : ByteArray) (t g z : Int) (k d : Int) (xs : List Int) (tx : ByteArray) (A : Option Addr) (c : Nat) (w : World) (hI : IntsAt w (.slice A xs.length c) xs) (hbo : bo.size ≤ maxLen) (h : 3000 < bo.size) :
    Calls Try.prog 3 #[.agg #[.int .i64 m, .int .i64 ba, .int .i64 la, .string bo], .agg #[.int .i64 t, .int .i64 g, .int .i64 z], .agg #[.int .i64 k, .int .i64 d, .slice A xs.length c, .string tx]] w fun e w' => e = .returned (.bool true) ∧ Ext w w' := by
  unfold maxLen at hbo
  obtain ⟨n1, n2, n3⟩ := three_new w (.cells #[.int .i64 m, .int .i64 ba, .int .i64 la, .string bo] 23) (.cells #[.int .i64 t, .int .i64 g, .int .i64 z] 25) (.cells #[.int .i64 k, .int .i64 d, .slice A xs.length c, .string tx] 28)
  have HA : Hid (∀ v, Ext (((w.alloc (.cells #[.int .i64 m, .int .i64 ba, .int .i64 la, .string bo] 23)).alloc (.cells #[.int .i64 t, .int .i64 g, .int .i64 z] 25)).alloc (.cells #[.int .i64 k, .int .i64 d, .slice A xs.length c, .string tx] 28)) v → Box4 w.heap.size (.int .i64 m) (.int .i64 ba) (.int .i64 la) (.string bo) v) := Lib.hid fun v hv => Box4.of n1 hv
  have HB : Hid (∀ v, Ext (((w.alloc (.cells #[.int .i64 m, .int .i64 ba, .int .i64 la, .string bo] 23)).alloc (.cells #[.int .i64 t, .int .i64 g, .int .i64 z] 25)).alloc (.cells #[.int .i64 k, .int .i64 d, .slice A xs.length c, .string tx] 28)) v → Box3 (w.heap.size + 1) (.int .i64 t) (.int .i64 g) (.int .i64 z) v) := Lib.hid fun v hv => Box3.of n2 hv
  have HC : Hid (∀ v, Ext (((w.alloc (.cells #[.int .i64 m, .int .i64 ba, .int .i64 la, .string bo] 23)).alloc (.cells #[.int .i64 t, .int .i64 g, .int .i64 z] 25)).alloc (.cells #[.int .i64 k, .int .i64 d, .slice A xs.length c, .string tx] 28)) v → Box4 (w.heap.size + 1 + 1) (.int .i64 k) (.int .i64 d) (.slice A xs.length c) (.string tx) v) := Lib.hid fun v hv => Box4.of n3 hv
  have HI : Hid (∀ v, Ext (((w.alloc (.cells #[.int .i64 m, .int .i64 ba, .int .i64 la, .string bo] 23)).alloc (.cells #[.int .i64 t, .int .i64 g, .int .i64 z] 25)).alloc (.cells #[.int .i64 k, .int .i64 d, .slice A xs.length c, .string tx] 28)) v → IntsAt v (.slice A xs.length c) xs) := Lib.hid fun v hv => hI.ext ((((((Ext.refl w).alloc _).alloc _).alloc _)).trans hv)
  clear n1 n2 n3 hI
  obtain ⟨a0, a1, a2, a3⟩ := HA.out _ (Ext.refl _)
  obtain ⟨b0, b1, b2⟩ := HB.out _ (Ext.refl _)
  obtain ⟨c0', c1', c2', c3'⟩ := HC.out _ (Ext.refl _)
  go_enter Try.func3, Try.ntmps3
  go_wp2_with fail
  refine (ufixed_yes _).mono ?_
  rintro r w1 ⟨rfl, hx1⟩
  go_wp2
  go_ret
  exact ⟨rfl, ((((Ext.refl w).alloc _).alloc _).alloc _).trans hx1⟩
set_option maxRecDepth 100000 in
set_option maxHeartbeats 1000000 in
theorem utells_long (m ba la : Int) (bo : ByteArray) (t g z : Int) (k d : Int) (xs : List Int) (tx : ByteArray) (A : Option Addr) (c : Nat) (w : World) (hI : IntsAt w (.slice A xs.length c) xs) (h : bo.size ≤ 3000) (hsh : Ev.short [⟨k, d, xs, tx⟩] = false) :
    Calls Try.prog 3 #[.agg #[.int .i64 m, .int .i64 ba, .int .i64 la, .string bo], .agg #[.int .i64 t, .int .i64 g, .int .i64 z], .agg #[.int .i64 k, .int .i64 d, .slice A xs.length c, .string tx]] w fun e w' => e = .returned (.bool true) ∧ Ext w w' := by
  have HSH := Lib.hid hsh; clear hsh
  obtain ⟨n1, n2, n3⟩ := three_new w (.cells #[.int .i64 m, .int .i64 ba, .int .i64 la, .string bo] 23) (.cells #[.int .i64 t, .int .i64 g, .int .i64 z] 25) (.cells #[.int .i64 k, .int .i64 d, .slice A xs.length c, .string tx] 28)
  have HA : Hid (∀ v, Ext (((w.alloc (.cells #[.int .i64 m, .int .i64 ba, .int .i64 la, .string bo] 23)).alloc (.cells #[.int .i64 t, .int .i64 g, .int .i64 z] 25)).alloc (.cells #[.int .i64 k, .int .i64 d, .slice A xs.length c, .string tx] 28)) v → Box4 w.heap.size (.int .i64 m) (.int .i64 ba) (.int .i64 la) (.string bo) v) := Lib.hid fun v hv => Box4.of n1 hv
  have HB : Hid (∀ v, Ext (((w.alloc (.cells #[.int .i64 m, .int .i64 ba, .int .i64 la, .string bo] 23)).alloc (.cells #[.int .i64 t, .int .i64 g, .int .i64 z] 25)).alloc (.cells #[.int .i64 k, .int .i64 d, .slice A xs.length c, .string tx] 28)) v → Box3 (w.heap.size + 1) (.int .i64 t) (.int .i64 g) (.int .i64 z) v) := Lib.hid fun v hv => Box3.of n2 hv
  have HC : Hid (∀ v, Ext (((w.alloc (.cells #[.int .i64 m, .int .i64 ba, .int .i64 la, .string bo] 23)).alloc (.cells #[.int .i64 t, .int .i64 g, .int .i64 z] 25)).alloc (.cells #[.int .i64 k, .int .i64 d, .slice A xs.length c, .string tx] 28)) v → Box4 (w.heap.size + 1 + 1) (.int .i64 k) (.int .i64 d) (.slice A xs.length c) (.string tx) v) := Lib.hid fun v hv => Box4.of n3 hv
  have HI : Hid (∀ v, Ext (((w.alloc (.cells #[.int .i64 m, .int .i64 ba, .int .i64 la, .string bo] 23)).alloc (.cells #[.int .i64 t, .int .i64 g, .int .i64 z] 25)).alloc (.cells #[.int .i64 k, .int .i64 d, .slice A xs.length c, .string tx] 28)) v → IntsAt v (.slice A xs.length c) xs) := Lib.hid fun v hv => hI.ext ((((((Ext.refl w).alloc _).alloc _).alloc _)).trans hv)
  clear n1 n2 n3 hI
  obtain ⟨a0, a1, a2, a3⟩ := HA.out _ (Ext.refl _)
  obtain ⟨b0, b1, b2⟩ := HB.out _ (Ext.refl _)
  obtain ⟨c0', c1', c2', c3'⟩ := HC.out _ (Ext.refl _)
  go_enter Try.func3, Try.ntmps3
  go_wp2_with fail
  refine (short_eq1 _ _ false HSH.out _ (evs_one' (((w.alloc (.cells #[.int .i64 m, .int .i64 ba, .int .i64 la, .string bo] 23)).alloc (.cells #[.int .i64 t, .int .i64 g, .int .i64 z] 25)).alloc (.cells #[.int .i64 k, .int .i64 d, .slice A xs.length c, .string tx] 28)) _ (by simp [World.size_alloc]) ⟨k, d, xs, tx⟩ A c (HI.out _ (Ext.refl _))) (by simp)).mono ?_
  rintro r w1 ⟨rfl, rfl⟩
  go_wp2_with fail
  refine (ufixed_yes _).mono ?_
  rintro r w2 ⟨rfl, hx2⟩
  go_wp2
  go_ret
  exact ⟨rfl, (((((Ext.refl w).alloc _).alloc _).alloc _).alloc _).trans hx2⟩
set_option maxRecDepth 100000 in
set_option maxHeartbeats 1000000 in
theorem utells_in (m ba la : Int) (bo : ByteArray) (t g z : Int) (k d : Int) (xs : List Int) (tx : ByteArray) (A : Option Addr) (c : Nat) (w : World) (hI : IntsAt w (.slice A xs.length c) xs) (h : bo.size ≤ 3000) (hsh : Ev.short [⟨k, d, xs, tx⟩] = true) (hx20 : xs.length ≤ 20) (ht : tx.size ≤ 300)
    (p0 p1 p2 : Int) (p3 : ByteArray) (p : Bool) (hp : Bu.put ⟨m, ba, la, bo⟩ t ⟨k, d, xs, tx⟩ = (⟨p0, p1, p2, p3⟩, p)) (x0 x1 x2 : Int) (x3 : ByteArray) (y0 y1 y2 : Int) (y3 : ByteArray) (q : Bool) (hs : Bu.seal ⟨m, ba, la, bo⟩ g = (⟨x0, x1, x2, x3⟩, ⟨y0, y1, y2, y3⟩, q))
    (fl : Bool) (hfl : decide (z ≤ (bo.size : Int)) = fl) :
    Calls Try.prog 3 #[.agg #[.int .i64 m, .int .i64 ba, .int .i64 la, .string bo], .agg #[.int .i64 t, .int .i64 g, .int .i64 z], .agg #[.int .i64 k, .int .i64 d, .slice A xs.length c, .string tx]] w fun e w' => e = .returned (.bool true) ∧ Ext w w' := by
  have HSH := Lib.hid hsh; clear hsh
  have HP := Lib.hid hp
  have HS := Lib.hid hs
  have HFL := Lib.hid hfl
  clear hp hs hfl
  obtain ⟨n1, n2, n3⟩ := three_new w (.cells #[.int .i64 m, .int .i64 ba, .int .i64 la, .string bo] 23) (.cells #[.int .i64 t, .int .i64 g, .int .i64 z] 25) (.cells #[.int .i64 k, .int .i64 d, .slice A xs.length c, .string tx] 28)
  have HA : Hid (∀ v, Ext (((w.alloc (.cells #[.int .i64 m, .int .i64 ba, .int .i64 la, .string bo] 23)).alloc (.cells #[.int .i64 t, .int .i64 g, .int .i64 z] 25)).alloc (.cells #[.int .i64 k, .int .i64 d, .slice A xs.length c, .string tx] 28)) v → Box4 w.heap.size (.int .i64 m) (.int .i64 ba) (.int .i64 la) (.string bo) v) := Lib.hid fun v hv => Box4.of n1 hv
  have HB : Hid (∀ v, Ext (((w.alloc (.cells #[.int .i64 m, .int .i64 ba, .int .i64 la, .string bo] 23)).alloc (.cells #[.int .i64 t, .int .i64 g, .int .i64 z] 25)).alloc (.cells #[.int .i64 k, .int .i64 d, .slice A xs.length c, .string tx] 28)) v → Box3 (w.heap.size + 1) (.int .i64 t) (.int .i64 g) (.int .i64 z) v) := Lib.hid fun v hv => Box3.of n2 hv
  have HC : Hid (∀ v, Ext (((w.alloc (.cells #[.int .i64 m, .int .i64 ba, .int .i64 la, .string bo] 23)).alloc (.cells #[.int .i64 t, .int .i64 g, .int .i64 z] 25)).alloc (.cells #[.int .i64 k, .int .i64 d, .slice A xs.length c, .string tx] 28)) v → Box4 (w.heap.size + 1 + 1) (.int .i64 k) (.int .i64 d) (.slice A xs.length c) (.string tx) v) := Lib.hid fun v hv => Box4.of n3 hv
  have HI : Hid (∀ v, Ext (((w.alloc (.cells #[.int .i64 m, .int .i64 ba, .int .i64 la, .string bo] 23)).alloc (.cells #[.int .i64 t, .int .i64 g, .int .i64 z] 25)).alloc (.cells #[.int .i64 k, .int .i64 d, .slice A xs.length c, .string tx] 28)) v → IntsAt v (.slice A xs.length c) xs) := Lib.hid fun v hv => hI.ext ((((((Ext.refl w).alloc _).alloc _).alloc _)).trans hv)
  clear n1 n2 n3 hI
  obtain ⟨a0, a1, a2, a3⟩ := HA.out _ (Ext.refl _)
  obtain ⟨b0, b1, b2⟩ := HB.out _ (Ext.refl _)
  obtain ⟨c0', c1', c2', c3'⟩ := HC.out _ (Ext.refl _)
  go_enter Try.func3, Try.ntmps3
  go_wp2_with fail
  refine (short_eq1 _ _ true HSH.out _ (evs_one' (((w.alloc (.cells #[.int .i64 m, .int .i64 ba, .int .i64 la, .string bo] 23)).alloc (.cells #[.int .i64 t, .int .i64 g, .int .i64 z] 25)).alloc (.cells #[.int .i64 k, .int .i64 d, .slice A xs.length c, .string tx] 28)) _ (by simp [World.size_alloc]) ⟨k, d, xs, tx⟩ A c (HI.out _ (Ext.refl _))) (by simp)).mono ?_
  rintro r w1 ⟨rfl, rfl⟩
  have HX : Hid (Ext (((w.alloc (.cells #[.int .i64 m, .int .i64 ba, .int .i64 la, .string bo] 23)).alloc (.cells #[.int .i64 t, .int .i64 g, .int .i64 z] 25)).alloc (.cells #[.int .i64 k, .int .i64 d, .slice A xs.length c, .string tx] 28)) ((((w.alloc (.cells #[.int .i64 m, .int .i64 ba, .int .i64 la, .string bo] 23)).alloc (.cells #[.int .i64 t, .int .i64 g, .int .i64 z] 25)).alloc (.cells #[.int .i64 k, .int .i64 d, .slice A xs.length c, .string tx] 28)).alloc (.cells #[.int .i64 k, .int .i64 d, .slice A xs.length c, .string tx] 28))) := Lib.hid ((Ext.refl _).alloc _)
  clear a0 a1 a2 a3 b0 b1 b2 c0' c1' c2' c3'
  obtain ⟨a0, a1, a2, a3⟩ := HA.out _ HX.out
  obtain ⟨b0, b1, b2⟩ := HB.out _ HX.out
  obtain ⟨c0', c1', c2', c3'⟩ := HC.out _ HX.out
  go_wp2_with fail
  refine (bput_k m ba la bo t k d xs tx _ _ _ _ _ HP.out A c _ (by omega) (HI.out _ HX.out) (by omega) (by omega)).mono ?_
  rintro r w2 ⟨rfl, hx2⟩
  replace HX : Hid (Ext (((w.alloc (.cells #[.int .i64 m, .int .i64 ba, .int .i64 la, .string bo] 23)).alloc (.cells #[.int .i64 t, .int .i64 g, .int .i64 z] 25)).alloc (.cells #[.int .i64 k, .int .i64 d, .slice A xs.length c, .string tx] 28)) (w2.alloc (.cells #[.int .i64 p0, .int .i64 p1, .int .i64 p2, .string p3] 23))) := Lib.hid ((HX.out.trans hx2).alloc _)
  clear a0 a1 a2 a3 b0 b1 b2 c0' c1' c2' c3'
  clear hx2
  obtain ⟨a0, a1, a2, a3⟩ := HA.out _ HX.out
  obtain ⟨b0, b1, b2⟩ := HB.out _ HX.out
  obtain ⟨c0', c1', c2', c3'⟩ := HC.out _ HX.out
  go_wp2_with fail
  refine (urput_k m ba la bo t k d xs tx _ _ _ _ _ HP.out A c _ (by omega) (HI.out _ HX.out) (by omega) (by omega)).mono ?_
  rintro r w3 ⟨rfl, hx3⟩
  have E3 : Hid (Ext (w2.alloc (.cells #[.int .i64 p0, .int .i64 p1, .int .i64 p2, .string p3] 23)) (w3.alloc (.cells #[.int .i64 p0, .int .i64 p1, .int .i64 p2, .string p3] 23))) := Lib.hid (hx3.alloc _)
  replace HX : Hid (Ext (((w.alloc (.cells #[.int .i64 m, .int .i64 ba, .int .i64 la, .string bo] 23)).alloc (.cells #[.int .i64 t, .int .i64 g, .int .i64 z] 25)).alloc (.cells #[.int .i64 k, .int .i64 d, .slice A xs.length c, .string tx] 28)) (w3.alloc (.cells #[.int .i64 p0, .int .i64 p1, .int .i64 p2, .string p3] 23))) := Lib.hid (HX.out.trans E3.out)
  clear a0 a1 a2 a3 b0 b1 b2 c0' c1' c2' c3'
  clear hx3
  obtain ⟨a0, a1, a2, a3⟩ := HA.out _ HX.out
  obtain ⟨b0, b1, b2⟩ := HB.out _ HX.out
  obtain ⟨c0', c1', c2', c3'⟩ := HC.out _ HX.out
  go_wp2_with fail
  refine (bseal_k m ba la bo g _ _ _ _ _ _ _ _ _ HS.out _).mono ?_
  rintro r w4 ⟨rfl, hx4⟩
  have E4 : Hid (Ext (w3.alloc (.cells #[.int .i64 p0, .int .i64 p1, .int .i64 p2, .string p3] 23)) ((w4.alloc (.cells #[.int .i64 x0, .int .i64 x1, .int .i64 x2, .string x3] 35)).alloc (.cells #[.int .i64 y0, .int .i64 y1, .int .i64 y2, .string y3] 23))) := Lib.hid ((hx4.alloc _).alloc _)
  replace HX : Hid (Ext (((w.alloc (.cells #[.int .i64 m, .int .i64 ba, .int .i64 la, .string bo] 23)).alloc (.cells #[.int .i64 t, .int .i64 g, .int .i64 z] 25)).alloc (.cells #[.int .i64 k, .int .i64 d, .slice A xs.length c, .string tx] 28)) ((w4.alloc (.cells #[.int .i64 x0, .int .i64 x1, .int .i64 x2, .string x3] 35)).alloc (.cells #[.int .i64 y0, .int .i64 y1, .int .i64 y2, .string y3] 23))) := Lib.hid (HX.out.trans E4.out)
  clear a0 a1 a2 a3 b0 b1 b2 c0' c1' c2' c3'
  clear hx4
  obtain ⟨a0, a1, a2, a3⟩ := HA.out _ HX.out
  obtain ⟨b0, b1, b2⟩ := HB.out _ HX.out
  obtain ⟨c0', c1', c2', c3'⟩ := HC.out _ HX.out
  go_wp2_with fail
  refine (ubseal_k m ba la bo g _ _ _ _ _ _ _ _ _ HS.out _).mono ?_
  rintro r w5 ⟨rfl, hx5⟩
  have E5 : Hid (Ext ((w4.alloc (.cells #[.int .i64 x0, .int .i64 x1, .int .i64 x2, .string x3] 35)).alloc (.cells #[.int .i64 y0, .int .i64 y1, .int .i64 y2, .string y3] 23)) ((w5.alloc (.cells #[.int .i64 x0, .int .i64 x1, .int .i64 x2, .string x3] 35)).alloc (.cells #[.int .i64 y0, .int .i64 y1, .int .i64 y2, .string y3] 23))) := Lib.hid ((hx5.alloc _).alloc _)
  replace HX : Hid (Ext (((w.alloc (.cells #[.int .i64 m, .int .i64 ba, .int .i64 la, .string bo] 23)).alloc (.cells #[.int .i64 t, .int .i64 g, .int .i64 z] 25)).alloc (.cells #[.int .i64 k, .int .i64 d, .slice A xs.length c, .string tx] 28)) ((w5.alloc (.cells #[.int .i64 x0, .int .i64 x1, .int .i64 x2, .string x3] 35)).alloc (.cells #[.int .i64 y0, .int .i64 y1, .int .i64 y2, .string y3] 23))) := Lib.hid (HX.out.trans E5.out)
  clear a0 a1 a2 a3 b0 b1 b2 c0' c1' c2' c3'
  clear hx5
  have H2 : Hid (∀ v, Ext ((w5.alloc (.cells #[.int .i64 x0, .int .i64 x1, .int .i64 x2, .string x3] 35)).alloc (.cells #[.int .i64 y0, .int .i64 y1, .int .i64 y2, .string y3] 23)) v → Box4 w2.heap.size (.int .i64 p0) (.int .i64 p1) (.int .i64 p2) (.string p3) v) := Lib.hid fun v hv => Box4.of (blk_new w2 (.cells #[.int .i64 p0, .int .i64 p1, .int .i64 p2, .string p3] 23)) (E3.out.trans (E4.out.trans (E5.out.trans hv)))
  have H3 : Hid (∀ v, Ext ((w5.alloc (.cells #[.int .i64 x0, .int .i64 x1, .int .i64 x2, .string x3] 35)).alloc (.cells #[.int .i64 y0, .int .i64 y1, .int .i64 y2, .string y3] 23)) v → Box4 w3.heap.size (.int .i64 p0) (.int .i64 p1) (.int .i64 p2) (.string p3) v) := Lib.hid fun v hv => Box4.of (blk_new w3 (.cells #[.int .i64 p0, .int .i64 p1, .int .i64 p2, .string p3] 23)) (E4.out.trans (E5.out.trans hv))
  have H4 : Hid (∀ v, Ext ((w5.alloc (.cells #[.int .i64 x0, .int .i64 x1, .int .i64 x2, .string x3] 35)).alloc (.cells #[.int .i64 y0, .int .i64 y1, .int .i64 y2, .string y3] 23)) v → Box4 w4.heap.size (.int .i64 x0) (.int .i64 x1) (.int .i64 x2) (.string x3) v) := Lib.hid fun v hv => Box4.of (blk_alloc (blk_new w4 (.cells #[.int .i64 x0, .int .i64 x1, .int .i64 x2, .string x3] 35)) (.cells #[.int .i64 y0, .int .i64 y1, .int .i64 y2, .string y3] 23)) (E5.out.trans hv)
  have H4' : Hid (∀ v, Ext ((w5.alloc (.cells #[.int .i64 x0, .int .i64 x1, .int .i64 x2, .string x3] 35)).alloc (.cells #[.int .i64 y0, .int .i64 y1, .int .i64 y2, .string y3] 23)) v → Box4 (w4.heap.size + 1) (.int .i64 y0) (.int .i64 y1) (.int .i64 y2) (.string y3) v) := Lib.hid fun v hv => Box4.of (by have := blk_new (w4.alloc (.cells #[.int .i64 x0, .int .i64 x1, .int .i64 x2, .string x3] 35)) (.cells #[.int .i64 y0, .int .i64 y1, .int .i64 y2, .string y3] 23); rwa [World.size_alloc] at this) (E5.out.trans hv)
  have H5 : Hid (∀ v, Ext ((w5.alloc (.cells #[.int .i64 x0, .int .i64 x1, .int .i64 x2, .string x3] 35)).alloc (.cells #[.int .i64 y0, .int .i64 y1, .int .i64 y2, .string y3] 23)) v → Box4 w5.heap.size (.int .i64 x0) (.int .i64 x1) (.int .i64 x2) (.string x3) v) := Lib.hid fun v hv => Box4.of (blk_alloc (blk_new w5 (.cells #[.int .i64 x0, .int .i64 x1, .int .i64 x2, .string x3] 35)) (.cells #[.int .i64 y0, .int .i64 y1, .int .i64 y2, .string y3] 23)) hv
  have H5' : Hid (∀ v, Ext ((w5.alloc (.cells #[.int .i64 x0, .int .i64 x1, .int .i64 x2, .string x3] 35)).alloc (.cells #[.int .i64 y0, .int .i64 y1, .int .i64 y2, .string y3] 23)) v → Box4 (w5.heap.size + 1) (.int .i64 y0) (.int .i64 y1) (.int .i64 y2) (.string y3) v) := Lib.hid fun v hv => Box4.of (by have := blk_new (w5.alloc (.cells #[.int .i64 x0, .int .i64 x1, .int .i64 x2, .string x3] 35)) (.cells #[.int .i64 y0, .int .i64 y1, .int .i64 y2, .string y3] 23); rwa [World.size_alloc] at this) hv
  go_wp2
  generalize hq : (w5.alloc (.cells #[.int .i64 x0, .int .i64 x1, .int .i64 x2, .string x3] 35)).alloc (.cells #[.int .i64 y0, .int .i64 y1, .int .i64 y2, .string y3] 23) = w6 at *
  generalize hg4 : w4.heap.size + 1 = g4 at *
  generalize hg5 : w5.heap.size + 1 = g5 at *
  clear hq hg4 hg5 E3 E4 E5
  refine region_all (fun v => Ext w6 v) (by kernel_rfl) (Ext.refl _).drew ?_
  have KA0 := fun v (hv : Ext w6 v) => (HA.out v (HX.out.trans hv)).1
  have KA1 := fun v (hv : Ext w6 v) => (HA.out v (HX.out.trans hv)).2.1
  have KA2 := fun v (hv : Ext w6 v) => (HA.out v (HX.out.trans hv)).2.2.1
  have KA3 := fun v (hv : Ext w6 v) => (HA.out v (HX.out.trans hv)).2.2.2
  have KB2 := fun v (hv : Ext w6 v) => (HB.out v (HX.out.trans hv)).2.2
  have KH20 := fun v (hv : Ext w6 v) => (H2.out v hv).1
  have KH21 := fun v (hv : Ext w6 v) => (H2.out v hv).2.1
  have KH22 := fun v (hv : Ext w6 v) => (H2.out v hv).2.2.1
  have KH23 := fun v (hv : Ext w6 v) => (H2.out v hv).2.2.2
  have KH30 := fun v (hv : Ext w6 v) => (H3.out v hv).1
  have KH31 := fun v (hv : Ext w6 v) => (H3.out v hv).2.1
  have KH32 := fun v (hv : Ext w6 v) => (H3.out v hv).2.2.1
  have KH33 := fun v (hv : Ext w6 v) => (H3.out v hv).2.2.2
  have KH40 := fun v (hv : Ext w6 v) => (H4.out v hv).1
  have KH41 := fun v (hv : Ext w6 v) => (H4.out v hv).2.1
  have KH42 := fun v (hv : Ext w6 v) => (H4.out v hv).2.2.1
  have KH43 := fun v (hv : Ext w6 v) => (H4.out v hv).2.2.2
  have KH4b0 := fun v (hv : Ext w6 v) => (H4'.out v hv).1
  have KH4b1 := fun v (hv : Ext w6 v) => (H4'.out v hv).2.1
  have KH4b2 := fun v (hv : Ext w6 v) => (H4'.out v hv).2.2.1
  have KH4b3 := fun v (hv : Ext w6 v) => (H4'.out v hv).2.2.2
  have KH50 := fun v (hv : Ext w6 v) => (H5.out v hv).1
  have KH51 := fun v (hv : Ext w6 v) => (H5.out v hv).2.1
  have KH52 := fun v (hv : Ext w6 v) => (H5.out v hv).2.2.1
  have KH53 := fun v (hv : Ext w6 v) => (H5.out v hv).2.2.2
  have KH5b0 := fun v (hv : Ext w6 v) => (H5'.out v hv).1
  have KH5b1 := fun v (hv : Ext w6 v) => (H5'.out v hv).2.1
  have KH5b2 := fun v (hv : Ext w6 v) => (H5'.out v hv).2.2.1
  have KH5b3 := fun v (hv : Ext w6 v) => (H5'.out v hv).2.2.2
  have hfl := HFL.out
  refine all_take (i := 0) (v := .bool true) rfl (by kernel_rfl) (by kernel_rfl) (by kernel_rfl) (fun _ _ _ h => h) (Tame.yes (by kernel_rfl) fun w hS => ?_) ?_
  · go_simp
    refine gives_call ((ufixed_yes _).mono ?_)
    exact fun r w2 ⟨he, hx⟩ => ⟨he, hS.trans hx⟩
  refine all_take (i := 1) (v := ?_) rfl (by kernel_rfl) (by kernel_rfl) (by kernel_rfl) (fun _ _ _ h => h) (Tame.yes (by kernel_rfl) fun w hS => ?_) ?_
  rotate_left 1
  · skip
    go_simp
    try simp only [hfl, beq_self_eq_true]
    refine gives_mk ?_ hS
    with_reducible rfl
  refine all_take (i := 2) (v := ?_) rfl (by kernel_rfl) (by kernel_rfl) (by kernel_rfl) (fun _ _ _ h => h) (Tame.yes (by kernel_rfl) fun w hS => ?_) ?_
  rotate_left 1
  · skip
    go_simp
    try simp only [hfl, beq_self_eq_true]
    refine gives_mk ?_ hS
    with_reducible rfl
  refine all_take (i := 3) (v := ?_) rfl (by kernel_rfl) (by kernel_rfl) (by kernel_rfl) (fun _ _ _ h => h) (Tame.yes (by kernel_rfl) fun w hS => ?_) ?_
  rotate_left 1
  · skip
    go_simp
    try simp only [hfl, beq_self_eq_true]
    refine gives_mk ?_ hS
    with_reducible rfl
  refine all_take (i := 4) (v := ?_) rfl (by kernel_rfl) (by kernel_rfl) (by kernel_rfl) (fun _ _ _ h => h) (Tame.yes (by kernel_rfl) fun w hS => ?_) ?_
  rotate_left 1
  · skip
    go_simp
    try simp only [hfl, beq_self_eq_true]
    refine gives_mk ?_ hS
    with_reducible rfl
  refine all_take (i := 5) (v := ?_) rfl (by kernel_rfl) (by kernel_rfl) (by kernel_rfl) (fun _ _ _ h => h) (Tame.yes (by kernel_rfl) fun w hS => ?_) ?_
  rotate_left 1
  · skip
    go_simp
    try simp only [hfl, beq_self_eq_true]
    refine gives_mk ?_ hS
    with_reducible rfl
  refine all_take (i := 6) (v := ?_) rfl (by kernel_rfl) (by kernel_rfl) (by kernel_rfl) (fun _ _ _ h => h) (Tame.yes (by kernel_rfl) fun w hS => ?_) ?_
  rotate_left 1
  · skip
    go_simp
    try simp only [hfl, beq_self_eq_true]
    refine gives_mk ?_ hS
    with_reducible rfl
  refine all_take (i := 7) (v := ?_) rfl (by kernel_rfl) (by kernel_rfl) (by kernel_rfl) (fun _ _ _ h => h) (Tame.yes (by kernel_rfl) fun w hS => ?_) ?_
  rotate_left 1
  · skip
    go_simp
    try simp only [hfl, beq_self_eq_true]
    refine gives_mk ?_ hS
    with_reducible rfl
  refine all_take (i := 8) (v := ?_) rfl (by kernel_rfl) (by kernel_rfl) (by kernel_rfl) (fun _ _ _ h => h) (Tame.yes (by kernel_rfl) fun w hS => ?_) ?_
  rotate_left 1
  · skip
    go_simp
    try simp only [hfl, beq_self_eq_true]
    refine gives_mk ?_ hS
    with_reducible rfl
  refine all_take (i := 9) (v := ?_) rfl (by kernel_rfl) (by kernel_rfl) (by kernel_rfl) (fun _ _ _ h => h) (Tame.yes (by kernel_rfl) fun w hS => ?_) ?_
  rotate_left 1
  · skip
    go_simp
    try simp only [hfl, beq_self_eq_true]
    refine gives_mk ?_ hS
    with_reducible rfl
  refine all_take (i := 10) (v := ?_) rfl (by kernel_rfl) (by kernel_rfl) (by kernel_rfl) (fun _ _ _ h => h) (Tame.yes (by kernel_rfl) fun w hS => ?_) ?_
  rotate_left 1
  · skip
    go_simp
    try simp only [hfl, beq_self_eq_true]
    refine gives_mk ?_ hS
    with_reducible rfl
  refine all_take (i := 11) (v := ?_) rfl (by kernel_rfl) (by kernel_rfl) (by kernel_rfl) (fun _ _ _ h => h) (Tame.yes (by kernel_rfl) fun w hS => ?_) ?_
  rotate_left 1
  · skip
    go_simp
    try simp only [hfl, beq_self_eq_true]
    refine gives_mk ?_ hS
    with_reducible rfl
  refine all_take (i := 12) (v := ?_) rfl (by kernel_rfl) (by kernel_rfl) (by kernel_rfl) (fun _ _ _ h => h) (Tame.yes (by kernel_rfl) fun w hS => ?_) ?_
  rotate_left 1
  · skip
    go_simp
    try simp only [hfl, beq_self_eq_true]
    refine gives_mk ?_ hS
    with_reducible rfl
  refine all_take (i := 13) (v := ?_) rfl (by kernel_rfl) (by kernel_rfl) (by kernel_rfl) (fun _ _ _ h => h) (Tame.yes (by kernel_rfl) fun w hS => ?_) ?_
  rotate_left 1
  · skip
    go_simp
    try simp only [hfl, beq_self_eq_true]
    refine gives_mk ?_ hS
    with_reducible rfl
  refine all_take (i := 14) (v := ?_) rfl (by kernel_rfl) (by kernel_rfl) (by kernel_rfl) (fun _ _ _ h => h) (Tame.yes (by kernel_rfl) fun w hS => ?_) ?_
  rotate_left 1
  · skip
    go_simp
    try simp only [hfl, beq_self_eq_true]
    refine gives_mk ?_ hS
    with_reducible rfl
  refine all_take (i := 15) (v := ?_) rfl (by kernel_rfl) (by kernel_rfl) (by kernel_rfl) (fun _ _ _ h => h) (Tame.yes (by kernel_rfl) fun w hS => ?_) ?_
  rotate_left 1
  · skip
    go_simp
    try simp only [hfl, beq_self_eq_true]
    refine gives_mk ?_ hS
    with_reducible rfl
  refine all_take (i := 16) (v := ?_) rfl (by kernel_rfl) (by kernel_rfl) (by kernel_rfl) (fun _ _ _ h => h) (Tame.yes (by kernel_rfl) fun w hS => ?_) ?_
  rotate_left 1
  · skip
    go_simp
    try simp only [hfl, beq_self_eq_true]
    refine gives_mk ?_ hS
    with_reducible rfl
  refine all_take (i := 17) (v := ?_) rfl (by kernel_rfl) (by kernel_rfl) (by kernel_rfl) (fun _ _ _ h => h) (Tame.yes (by kernel_rfl) fun w hS => ?_) ?_
  rotate_left 1
  · skip
    go_simp
    try simp only [hfl, beq_self_eq_true]
    refine gives_mk ?_ hS
    with_reducible rfl
  refine all_take (i := 18) (v := ?_) rfl (by kernel_rfl) (by kernel_rfl) (by kernel_rfl) (fun _ _ _ h => h) (Tame.yes (by kernel_rfl) fun w hS => ?_) ?_
  rotate_left 1
  · skip
    go_simp
    try simp only [hfl, beq_self_eq_true]
    refine gives_mk ?_ hS
    with_reducible rfl
  refine all_take (i := 19) (v := ?_) rfl (by kernel_rfl) (by kernel_rfl) (by kernel_rfl) (fun _ _ _ h => h) (Tame.yes (by kernel_rfl) fun w hS => ?_) ?_
  rotate_left 1
  · skip
    go_simp
    try simp only [hfl, beq_self_eq_true]
    refine gives_mk ?_ hS
    with_reducible rfl
  refine all_take (i := 20) (v := ?_) rfl (by kernel_rfl) (by kernel_rfl) (by kernel_rfl) (fun _ _ _ h => h) (Tame.yes (by kernel_rfl) fun w hS => ?_) ?_
  rotate_left 1
  · skip
    go_simp
    try simp only [hfl, beq_self_eq_true]
    refine gives_mk ?_ hS
    with_reducible rfl
  refine all_take (i := 21) (v := ?_) rfl (by kernel_rfl) (by kernel_rfl) (by kernel_rfl) (fun _ _ _ h => h) (Tame.yes (by kernel_rfl) fun w hS => ?_) ?_
  rotate_left 1
  · skip
    go_simp
    try simp only [hfl, beq_self_eq_true]
    refine gives_mk ?_ hS
    with_reducible rfl
  refine all_take (i := 22) (v := ?_) rfl (by kernel_rfl) (by kernel_rfl) (by kernel_rfl) (fun _ _ _ h => h) (Tame.yes (by kernel_rfl) fun w hS => ?_) ?_
  rotate_left 1
  · skip
    go_simp
    try simp only [hfl, beq_self_eq_true]
    refine gives_mk ?_ hS
    with_reducible rfl
  refine all_take (i := 23) (v := ?_) rfl (by kernel_rfl) (by kernel_rfl) (by kernel_rfl) (fun _ _ _ h => h) (Tame.yes (by kernel_rfl) fun w hS => ?_) ?_
  rotate_left 1
  · skip
    go_simp
    try simp only [hfl, beq_self_eq_true]
    refine gives_mk ?_ hS
    with_reducible rfl
  refine all_take (i := 24) (v := ?_) rfl (by kernel_rfl) (by kernel_rfl) (by kernel_rfl) (fun _ _ _ h => h) (Tame.yes (by kernel_rfl) fun w hS => ?_) ?_
  rotate_left 1
  · skip
    go_simp
    try simp only [hfl, beq_self_eq_true]
    refine gives_mk ?_ hS
    with_reducible rfl
  refine all_take (i := 25) (v := ?_) rfl (by kernel_rfl) (by kernel_rfl) (by kernel_rfl) (fun _ _ _ h => h) (Tame.yes (by kernel_rfl) fun w hS => ?_) ?_
  rotate_left 1
  · skip
    go_simp
    try simp only [hfl, beq_self_eq_true]
    refine gives_mk ?_ hS
    with_reducible rfl
  refine all_take (i := 26) (v := ?_) rfl (by kernel_rfl) (by kernel_rfl) (by kernel_rfl) (fun _ _ _ h => h) (Tame.yes (by kernel_rfl) fun w hS => ?_) ?_
  rotate_left 1
  · skip
    go_simp
    try simp only [hfl, beq_self_eq_true]
    refine gives_mk ?_ hS
    with_reducible rfl
  refine all_take (i := 27) (v := ?_) rfl (by kernel_rfl) (by kernel_rfl) (by kernel_rfl) (fun _ _ _ h => h) (Tame.yes (by kernel_rfl) fun w hS => ?_) ?_
  rotate_left 1
  · skip
    go_simp
    try simp only [hfl, beq_self_eq_true]
    refine gives_mk ?_ hS
    with_reducible rfl
  refine all_take (i := 28) (v := ?_) rfl (by kernel_rfl) (by kernel_rfl) (by kernel_rfl) (fun _ _ _ h => h) (Tame.yes (by kernel_rfl) fun w hS => ?_) ?_
  rotate_left 1
  · skip
    go_simp
    try simp only [hfl, beq_self_eq_true]
    refine gives_mk ?_ hS
    with_reducible rfl
  refine all_take (i := 29) (v := ?_) rfl (by kernel_rfl) (by kernel_rfl) (by kernel_rfl) (fun _ _ _ h => h) (Tame.yes (by kernel_rfl) fun w hS => ?_) ?_
  rotate_left 1
  · skip
    go_simp
    try simp only [hfl, beq_self_eq_true]
    refine gives_mk ?_ hS
    with_reducible rfl
  refine all_take (i := 30) (v := .bool fl) rfl (by kernel_rfl) (by kernel_rfl) (by kernel_rfl) (fun _ _ _ h => h) (Tame.yes (by kernel_rfl) fun w hS => ?_) ?_
  · go_simp
    refine gives_call ((bfull_eq m ba la bo z fl HFL.out _).mono ?_)
    exact fun r w2 ⟨he, hx⟩ => ⟨he, hS.trans hx⟩
  refine all_take (i := 31) (v := ?_) rfl (by kernel_rfl) (by kernel_rfl) (by kernel_rfl) (fun _ _ _ h => h) (Tame.yes (by kernel_rfl) fun w hS => ?_) ?_
  rotate_left 1
  · skip
    go_simp
    try simp only [hfl, beq_self_eq_true]
    refine gives_mk ?_ hS
    with_reducible rfl
  refine all_take (i := 32) (v := ?_) rfl (by kernel_rfl) (by kernel_rfl) (by kernel_rfl) (fun _ _ _ h => h) (Tame.yes (by kernel_rfl) fun w hS => ?_) ?_
  rotate_left 1
  · skip
    go_simp
    try simp only [hfl, beq_self_eq_true]
    refine gives_mk ?_ hS
    with_reducible rfl
  refine all_take (i := 33) (v := ?_) rfl (by kernel_rfl) (by kernel_rfl) (by kernel_rfl) (fun _ _ _ h => h) (Tame.yes (by kernel_rfl) fun w hS => ?_) ?_
  rotate_left 1
  · skip
    go_simp
    try simp only [hfl, beq_self_eq_true]
    refine gives_mk ?_ hS
    with_reducible rfl
  refine all_take (i := 34) (v := ?_) rfl (by kernel_rfl) (by kernel_rfl) (by kernel_rfl) (fun _ _ _ h => h) (Tame.yes (by kernel_rfl) fun w hS => ?_) ?_
  rotate_left 1
  · skip
    go_simp
    try simp only [hfl, beq_self_eq_true]
    refine gives_mk ?_ hS
    with_reducible rfl
  refine all_take (i := 35) (v := ?_) rfl (by kernel_rfl) (by kernel_rfl) (by kernel_rfl) (fun _ _ _ h => h) (Tame.yes (by kernel_rfl) fun w hS => ?_) ?_
  rotate_left 1
  · skip
    go_simp
    try simp only [hfl, beq_self_eq_true]
    refine gives_mk ?_ hS
    with_reducible rfl
  refine all_take (i := 36) (v := ?_) rfl (by kernel_rfl) (by kernel_rfl) (by kernel_rfl) (fun _ _ _ h => h) (Tame.yes (by kernel_rfl) fun w hS => ?_) ?_
  rotate_left 1
  · skip
    go_simp
    try simp only [hfl, beq_self_eq_true]
    refine gives_mk ?_ hS
    with_reducible rfl
  refine all_take (i := 37) (v := ?_) rfl (by kernel_rfl) (by kernel_rfl) (by kernel_rfl) (fun _ _ _ h => h) (Tame.yes (by kernel_rfl) fun w hS => ?_) ?_
  rotate_left 1
  · skip
    go_simp
    try simp only [hfl, beq_self_eq_true]
    refine gives_mk ?_ hS
    with_reducible rfl
  refine all_take (i := 38) (v := ?_) rfl (by kernel_rfl) (by kernel_rfl) (by kernel_rfl) (fun _ _ _ h => h) (Tame.yes (by kernel_rfl) fun w hS => ?_) ?_
  rotate_left 1
  · skip
    go_simp
    try simp only [hfl, beq_self_eq_true]
    refine gives_mk ?_ hS
    with_reducible rfl
  refine all_take (i := 39) (v := ?_) rfl (by kernel_rfl) (by kernel_rfl) (by kernel_rfl) (fun _ _ _ h => h) (Tame.yes (by kernel_rfl) fun w hS => ?_) ?_
  rotate_left 1
  · skip
    go_simp
    try simp only [hfl, beq_self_eq_true]
    refine gives_mk ?_ hS
    with_reducible rfl
  refine all_done (by kernel_rfl) ?_ _
  intro w7 hw7
  have HW7 := Lib.hid hw7
  clear hw7 hfl KA0 KA1 KA2 KA3 KB2 KH20 KH21 KH22 KH23 KH30 KH31 KH32 KH33 KH40 KH41 KH42 KH43 KH4b0 KH4b1 KH4b2 KH4b3 KH50 KH51 KH52 KH53 KH5b0 KH5b1 KH5b2 KH5b3
  go_simp
  go_wp2
  go_ret
  exact ⟨rfl, ((((Ext.refl w).alloc _).alloc _).alloc _).trans (HX.out.trans HW7.out)⟩
theorem walk_BufTells (b : Bt) (t g z : Int) (v : Value) (e : Ev) (w : World) (hb : BtIn b) (_ : (Lit.int .i64 t).wf = true) (_ : (Lit.int .i64 g).wf = true) (_ : (Lit.int .i64 z).wf = true) (he : EvAt w v e) (_ : EvIn e) :
    Calls Try.prog 3 #[b.val, .agg #[.int .i64 t, .int .i64 g, .int .i64 z], v] w fun e w' => e = .returned (.bool true) ∧ Ext w w' := by
  obtain ⟨m, ba, la, bo⟩ := b
  obtain ⟨A, c, rfl, hI⟩ := he
  obtain ⟨k, d, xs, tx⟩ := e
  by_cases h1 : 3000 < bo.size
  · exact utells_out m ba la bo t g z k d xs tx A c w hI hb.1 h1
  · have h2 : bo.size ≤ 3000 := by omega
    cases hsh : Ev.short [⟨k, d, xs, tx⟩] with
    | false => exact utells_long m ba la bo t g z k d xs tx A c w hI h2 hsh
    | true =>
      obtain ⟨s1, s2⟩ := Ev.short_sizes ((Ev.short_all hsh).1 ⟨k, d, xs, tx⟩ (by simp))
      rcases hp : Bu.put ⟨m, ba, la, bo⟩ t ⟨k, d, xs, tx⟩ with ⟨⟨p0, p1, p2, p3⟩, p⟩
      rcases hs : Bu.seal ⟨m, ba, la, bo⟩ g with ⟨⟨x0, x1, x2, x3⟩, ⟨y0, y1, y2, y3⟩, q⟩
      exact utells_in m ba la bo t g z k d xs tx A c w hI h2 hsh s1 s2 p0 p1 p2 p3 p hp x0 x1 x2 x3 y0 y1 y2 y3 q hs _ rfl

end Go.Proofs.Ytcdfpifhjjiioaa
