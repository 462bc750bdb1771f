/-
  Several texts in one: Fa, Fb, Fc, Fd, Fe, Ff, Fg, Fh, Fi, Fl, Fm.
-/
import Derived.Test.YtcdfpifhjjiioaaBa
import Derived.Test.YtcdfpifhjjiioaaBb
import Derived.Test.YtcdfpifhjjiioaaEo
import Derived.Test.YtcdfpifhjjiioaaRq
import Derived.Test.YtcdfpifhjjiioaaEi
import Derived.Test.YtcdfpifhjjiioaaEr
import Derived.Test.YtcdfpifhjjiioaaLb
import Derived.Test.YtcdfpifhjjiioaaBl
import Derived.Test.YtcdfpifhjjiioaaBh
import Derived.Test.YtcdfpifhjjiioaaLe
set_option linter.unusedVariables false
set_option linter.unusedSimpArgs false
namespace Go.Proofs.Ytcdfpifhjjiioaa
open Go.RowKit

structure Bu where
  m : Int
  base : Int
  last : Int
  body : ByteArray
def Bu.zero : Bu := ⟨0, 0, 0, ⟨#[]⟩⟩
def Bu.val (b : Bu) : Value := .agg #[.int .i64 b.m, .int .i64 b.base, .int .i64 b.last, .string b.body]
/-- An event put at a time. -/
def Bu.put (b : Bu) (t : Int) (e : Ev) : Bu × Bool :=
  if Ev.ok t then
    if t < (if b.body.size = 0 then t else b.last) then (Bu.zero, false)
    else if Ev.may ⟨e.kind, IntKind.i64.wrap (t - (if b.body.size = 0 then t else b.last)), e.args, e.text⟩ then
      (⟨b.m, if b.body.size = 0 then t else b.base, t, b.body ++ Ev.enc ⟨e.kind, IntKind.i64.wrap (t - (if b.body.size = 0 then t else b.last)), e.args, e.text⟩⟩, true)
    else (Bu.zero, false)
  else (Bu.zero, false)
/-- A buffer sealed. -/
def Bu.seal (b : Bu) (gen : Int) : Bt × Bu × Bool :=
  if b.body.size = 0 ∨ b.m < 1 then (Bt.zero, Bu.zero, false)
  else if Bt.may ⟨gen, IntKind.i64.wrap (b.m + 1), b.base, b.body⟩ then (⟨gen, IntKind.i64.wrap (b.m + 1), b.base, b.body⟩, ⟨b.m, 0, 0, ⟨#[]⟩⟩, true)
  else (Bt.zero, Bu.zero, false)
theorem Bu.put_empty {b : Bu} {t : Int} {e : Ev} (hb : b.body.size = 0) (ht : Ev.ok t = true) : Bu.put b t e = if Ev.may ⟨e.kind, 0, e.args, e.text⟩ then (⟨b.m, t, t, b.body ++ Ev.enc ⟨e.kind, 0, e.args, e.text⟩⟩, true) else (Bu.zero, false) := by
  have hw : IntKind.i64.wrap (t - t) = 0 := by rw [Int.sub_self]; rfl
  unfold Bu.put
  rw [if_pos ht]
  simp only [if_pos hb, hw]
  rw [if_neg (by omega)]
theorem Bu.put_more {b : Bu} {t : Int} {e : Ev} (hb : ¬ b.body.size = 0) (ht : Ev.ok t = true) (hl : b.last ≤ t) : Bu.put b t e = if Ev.may ⟨e.kind, IntKind.i64.wrap (t - b.last), e.args, e.text⟩ then (⟨b.m, b.base, t, b.body ++ Ev.enc ⟨e.kind, IntKind.i64.wrap (t - b.last), e.args, e.text⟩⟩, true) else (Bu.zero, false) := by
  unfold Bu.put
  rw [if_pos ht]
  simp only [if_neg hb]
  rw [if_neg (by omega)]
theorem Bu.put_early {b : Bu} {t : Int} {e : Ev} (hb : ¬ b.body.size = 0) (hl : t < b.last) : Bu.put b t e = (Bu.zero, false) := by
  unfold Bu.put
  by_cases ht : Ev.ok t = true
  · rw [if_pos ht]
    simp only [if_neg hb]
    rw [if_pos hl]
  · rw [if_neg ht]
theorem Bu.put_no {b : Bu} {t : Int} {e : Ev} (ht : Ev.ok t = false) : Bu.put b t e = (Bu.zero, false) := by
  unfold Bu.put
  rw [ht]
  rfl
theorem bfull_any (m ba la : Int) (bo : ByteArray) (n : Int) (w : World) : Calls Try.prog 14 #[.agg #[.int .i64 m, .int .i64 ba, .int .i64 la, .string bo], .int .i64 n] w fun r w' => r = .returned (.bool (decide (n ≤ (bo.size : Int)))) ∧ Ext w w' := by
  go_enter Try.func14, Try.ntmps14
  go_wp2
  go_ret
  exact ⟨rfl, (Ext.refl w).alloc _⟩
def BPut (p : Bu × Bool) (w : World) (r : Ending) (w' : World) : Prop := r = .returned (.tuple #[p.1.val, .bool p.2]) ∧ Ext w w'
theorem uzero4 {w : World} {g : Nat} (h : w.heap[g]? = some ((.cells #[.int .i64 0, .int .i64 0, .int .i64 0, .string ⟨#[]⟩] 23))) : ((((w.setCell ⟨g, 0, none⟩ (.int .i64 0)).setCell ⟨g, 1, none⟩ (.int .i64 0)).setCell ⟨g, 2, none⟩ (.int .i64 0)).setCell ⟨g, 3, none⟩ (.string ⟨#[]⟩)).heap[g]? = some ((.cells #[.int .i64 0, .int .i64 0, .int .i64 0, .string ⟨#[]⟩] 23)) :=
  blk_set (blk_set (blk_set (blk_set h 0 (.int .i64 0)) 1 (.int .i64 0)) 2 (.int .i64 0)) 3 (.string ⟨#[]⟩)
theorem three_new (w : World) (o1 o2 o3 : Obj) : (((w.alloc o1).alloc o2).alloc o3).heap[w.heap.size]? = some o1 ∧ (((w.alloc o1).alloc o2).alloc o3).heap[w.heap.size + 1]? = some o2 ∧ (((w.alloc o1).alloc o2).alloc o3).heap[w.heap.size + 1 + 1]? = some o3 := by
  refine ⟨blk_alloc (blk_alloc (blk_new w o1) _) _, ?_, ?_⟩
  · have := blk_alloc (blk_new (w.alloc o1) o2) o3
    rwa [World.size_alloc] at this
  · have := blk_new ((w.alloc o1).alloc o2) o3
    rwa [World.size_alloc, World.size_alloc] at this
set_option maxRecDepth 100000 in
set_option maxHeartbeats 1000000 in
theorem bput_no (m ba la : Int) (bo : ByteArray) (t : Int) (k d : Int) (xs : List Int) (tx : ByteArray) (A : Option Addr) (c : Nat) (w : World) (h : Ev.ok t = false) :
    Calls Try.prog 10 #[.agg #[.int .i64 m, .int .i64 ba, .int .i64 la, .string bo], .int .i64 t, .agg #[.int .i64 k, .int .i64 d, .slice A xs.length c, .string tx]] w (BPut (Bu.zero, false) w) := by
  have h0 : ¬ Wi.ok t := fun hh => by rw [Ev.ok_wi.2 hh] at h; cases h
  unfold Wi.ok at h0
  have hzb := (three_new w (.cells #[.int .i64 m, .int .i64 ba, .int .i64 la, .string bo] 23) (.cells #[.int .i64 k, .int .i64 d, .slice A xs.length c, .string tx] 28) ((.cells #[.int .i64 0, .int .i64 0, .int .i64 0, .string ⟨#[]⟩] 23))).2.2
  have z0 := blk_cell hzb 0 (.int .i64 0) rfl
  have z1 := blk_cell hzb 1 (.int .i64 0) rfl
  have z2 := blk_cell hzb 2 (.int .i64 0) rfl
  have z3 := blk_cell hzb 3 (.string ⟨#[]⟩) rfl
  have y0 := frozen_of_row _ _ 0 _ _ hzb
  have y1 := frozen_of_row _ _ 1 _ _ hzb
  have y2 := frozen_of_row _ _ 2 _ _ hzb
  have y3 := frozen_of_row _ _ 3 _ _ hzb
  have HZB := Lib.hid hzb
  clear hzb
  clear h
  rcases (by omega : t < 0 ∨ (0 ≤ t ∧ 4611686018427387904 ≤ t)) with h1 | ⟨h1, h2⟩
  all_goals
    clear h0
    go_enter Try.func10, Try.ntmps10
    go_wp2
    clear z0 z1 z2 z3 y0 y1 y2 y3
    have t0 := blk_cell HZB.out 0 (.int .i64 0) rfl
    have t1 := blk_cell HZB.out 1 (.int .i64 0) rfl
    have t2 := blk_cell HZB.out 2 (.int .i64 0) rfl
    have t3 := blk_cell HZB.out 3 (.string ⟨#[]⟩) rfl
    refine bodyPost_ret (v := .tuple #[(.agg #[.int .i64 0, .int .i64 0, .int .i64 0, .string ⟨#[]⟩]), .bool false]) (by simp [results, Try.results10, go_sem, t0, t1, t2, t3]) rfl ⟨rfl, ?_⟩
    exact (((Ext.refl w).alloc _).alloc _).alloc _
set_option maxRecDepth 100000 in
set_option maxHeartbeats 1000000 in
theorem bput_early (m ba la : Int) (bo : ByteArray) (t : Int) (k d : Int) (xs : List Int) (tx : ByteArray) (A : Option Addr) (c : Nat) (w : World) (h0 : 0 ≤ t) (h1 : t < 4611686018427387904) (hb : ¬ bo.size = 0) (hl : t < la) :
    Calls Try.prog 10 #[.agg #[.int .i64 m, .int .i64 ba, .int .i64 la, .string bo], .int .i64 t, .agg #[.int .i64 k, .int .i64 d, .slice A xs.length c, .string tx]] w (BPut (Bu.zero, false) w) := by
  have hb1 := (Ev.str_nonempty hb).1
  have hb2 := (Ev.str_nonempty hb).2
  have hzb := (three_new w (.cells #[.int .i64 m, .int .i64 ba, .int .i64 la, .string bo] 23) (.cells #[.int .i64 k, .int .i64 d, .slice A xs.length c, .string tx] 28) ((.cells #[.int .i64 0, .int .i64 0, .int .i64 0, .string ⟨#[]⟩] 23))).2.2
  have z0 := blk_cell hzb 0 (.int .i64 0) rfl
  have z1 := blk_cell hzb 1 (.int .i64 0) rfl
  have z2 := blk_cell hzb 2 (.int .i64 0) rfl
  have z3 := blk_cell hzb 3 (.string ⟨#[]⟩) rfl
  have y0 := frozen_of_row _ _ 0 _ _ hzb
  have y1 := frozen_of_row _ _ 1 _ _ hzb
  have y2 := frozen_of_row _ _ 2 _ _ hzb
  have y3 := frozen_of_row _ _ 3 _ _ hzb
  have HZB := Lib.hid hzb
  clear hzb
  go_enter Try.func10, Try.ntmps10
  go_wp2
  clear z0 z1 z2 z3 y0 y1 y2 y3
  have t0 := blk_cell HZB.out 0 (.int .i64 0) rfl
  have t1 := blk_cell HZB.out 1 (.int .i64 0) rfl
  have t2 := blk_cell HZB.out 2 (.int .i64 0) rfl
  have t3 := blk_cell HZB.out 3 (.string ⟨#[]⟩) rfl
  refine bodyPost_ret (v := .tuple #[(.agg #[.int .i64 0, .int .i64 0, .int .i64 0, .string ⟨#[]⟩]), .bool false]) (by simp [results, Try.results10, go_sem, t0, t1, t2, t3]) rfl ⟨rfl, ?_⟩
  exact (((Ext.refl w).alloc _).alloc _).alloc _

/-- What lies where, behind the place where the time is laid. -/
def PC (w : World) (cb ce : Array Value) (A : Option Addr) (c : Nat) (xs : List Int) (v : World) : Prop :=
  v.heap[w.heap.size]? = some (.cells cb 23 (0, 0)) ∧ v.heap[w.heap.size + 1]? = some (.cells ce 28 (0, 0)) ∧ v.heap[w.heap.size + 1 + 1]? = some ((.cells #[.int .i64 0, .int .i64 0, .int .i64 0, .string ⟨#[]⟩] 23)) ∧ IntsAt v (.slice A xs.length c) xs ∧ Ext w v
theorem PC.ext {w : World} {cb ce : Array Value} {A : Option Addr} {c : Nat} {xs : List Int} {v v' : World} (h : PC w cb ce A c xs v) (hx : Ext v v') : PC w cb ce A c xs v' :=
  ⟨hx.blk h.1, hx.blk h.2.1, hx.blk h.2.2.1, h.2.2.2.1.ext hx, h.2.2.2.2.trans hx⟩
def PC3 (w : World) (en : ByteArray) (cb ce : Array Value) (A : Option Addr) (c : Nat) (xs : List Int) (u : Value) (v : World) : Prop := u = .string en ∧ PC w cb ce A c xs v
def PC6 (w : World) (cb : Array Value) (_ : Value) (v : World) : Prop := v.heap[w.heap.size]? = some (.cells cb 23 (0, 0)) ∧ v.heap[w.heap.size + 1 + 1]? = some ((.cells #[.int .i64 0, .int .i64 0, .int .i64 0, .string ⟨#[]⟩] 23)) ∧ Ext w v
set_option maxRecDepth 100000 in
set_option maxHeartbeats 1000000 in
theorem bput_bad (m ba la : Int) (bo : ByteArray) (t : Int) (k d : Int) (xs : List Int) (tx : ByteArray) (A : Option Addr) (c : Nat) (w : World) (h0 : 0 ≤ t) (h1 : t < 4611686018427387904) (hb : ¬ bo.size = 0) (hl : la ≤ t)
    (hI : IntsAt w (.slice A xs.length c) xs) (hn : xs.length ≤ 9223372036854775807) (dt : Int) (hdt : IntKind.i64.wrap (t - la) = dt) (hm : Ev.may ⟨k, dt, xs, tx⟩ = false) :
    Calls Try.prog 10 #[.agg #[.int .i64 m, .int .i64 ba, .int .i64 la, .string bo], .int .i64 t, .agg #[.int .i64 k, .int .i64 d, .slice A xs.length c, .string tx]] w (BPut (Bu.zero, false) w) := by
  have hb1 := (Ev.str_nonempty hb).1
  have hb2 := (Ev.str_nonempty hb).2
  have HN := Lib.hid hn
  have HI := Lib.hid (hI.ext ((((Ext.refl w).alloc (.cells #[.int .i64 m, .int .i64 ba, .int .i64 la, .string bo] 23)).alloc (.cells #[.int .i64 k, .int .i64 dt, .slice A xs.length c, .string tx] 28)).alloc ((.cells #[.int .i64 0, .int .i64 0, .int .i64 0, .string ⟨#[]⟩] 23))))
  have HM := Lib.hid hm
  clear hm hI hn
  go_enter Try.func10, Try.ntmps10
  go_wp2_with fail
  refine (may_k k dt xs tx false HM.out A c _ HI.out HN.out).mono ?_
  rintro r w1 ⟨rfl, hx1⟩
  have hzb := hx1.blk (three_new w (.cells #[.int .i64 m, .int .i64 ba, .int .i64 la, .string bo] 23) (.cells #[.int .i64 k, .int .i64 dt, .slice A xs.length c, .string tx] 28) ((.cells #[.int .i64 0, .int .i64 0, .int .i64 0, .string ⟨#[]⟩] 23))).2.2
  have HX1 := Lib.hid hx1
  clear hx1
  have z0 := blk_cell hzb 0 (.int .i64 0) rfl
  have z1 := blk_cell hzb 1 (.int .i64 0) rfl
  have z2 := blk_cell hzb 2 (.int .i64 0) rfl
  have z3 := blk_cell hzb 3 (.string ⟨#[]⟩) rfl
  have y0 := frozen_of_row _ _ 0 _ _ hzb
  have y1 := frozen_of_row _ _ 1 _ _ hzb
  have y2 := frozen_of_row _ _ 2 _ _ hzb
  have y3 := frozen_of_row _ _ 3 _ _ hzb
  have HZB := Lib.hid hzb
  clear hzb
  go_wp2
  clear z0 z1 z2 z3 y0 y1 y2 y3
  have hzz := uzero4 HZB.out
  have t0 := blk_cell hzz 0 (.int .i64 0) rfl
  have t1 := blk_cell hzz 1 (.int .i64 0) rfl
  have t2 := blk_cell hzz 2 (.int .i64 0) rfl
  have t3 := blk_cell hzz 3 (.string ⟨#[]⟩) rfl
  refine bodyPost_ret (v := .tuple #[(.agg #[.int .i64 0, .int .i64 0, .int .i64 0, .string ⟨#[]⟩]), .bool false]) (by simp [results, Try.results10, go_sem, t0, t1, t2, t3]) rfl ⟨rfl, ?_⟩
  have hg : w.heap.size ≤ w.heap.size + 1 + 1 := by omega
  exact ((((((((Ext.refl w).alloc _).alloc _).alloc _).trans HX1.out).setCell hg _).setCell hg _).setCell hg _).setCell hg _
theorem enc_T (w : World) (k dt : Int) (xs : List Int) (tx en : ByteArray) (hen : Ev.enc ⟨k, dt, xs, tx⟩ = en) (cb ce : Array Value) (A : Option Addr) (c : Nat) (v : World) (h : PC w cb ce A c xs v) (hn : xs.length ≤ 9223372036854775807) (ht : tx.size ≤ 140737488351232) :
    Calls Try.prog 19 #[.agg #[.int .i64 k, .int .i64 dt, .slice A xs.length c, .string tx]] v fun e w' => ∃ x, e = .returned x ∧ PC3 w en cb ce A c xs x w' :=
  (encode_k k dt xs tx en hen A c v h.2.2.2.1 hn ht).mono fun _ _ ⟨he, hx⟩ => ⟨_, he, rfl, h.ext hx⟩
set_option maxRecDepth 100000 in
set_option maxHeartbeats 1000000 in
theorem bput_ok (m ba la : Int) (bo : ByteArray) (t : Int) (k d : Int) (xs : List Int) (tx : ByteArray) (A : Option Addr) (c : Nat) (w : World) (h0 : 0 ≤ t) (h1 : t < 4611686018427387904) (hb : ¬ bo.size = 0) (hbz : bo.size ≤ 1000000) (hl : la ≤ t)
    (hI : IntsAt w (.slice A xs.length c) xs) (hn : xs.length ≤ 9223372036854775807) (htx : tx.size ≤ 140737488351232) (dt : Int) (hdt : IntKind.i64.wrap (t - la) = dt) (hm : Ev.may ⟨k, dt, xs, tx⟩ = true) (en bq : ByteArray) (hen : Ev.enc ⟨k, dt, xs, tx⟩ = en) (henz : en.size ≤ 140737488351300) (hbq : bo ++ en = bq) :
    Calls Try.prog 10 #[.agg #[.int .i64 m, .int .i64 ba, .int .i64 la, .string bo], .int .i64 t, .agg #[.int .i64 k, .int .i64 d, .slice A xs.length c, .string tx]] w (BPut (⟨m, ba, t, bq⟩, true) w) := by
  have hb1 := (Ev.str_nonempty hb).1
  have hb2 := (Ev.str_nonempty hb).2
  have HN := Lib.hid hn
  have HTX := Lib.hid htx
  have HI := Lib.hid (hI.ext ((((Ext.refl w).alloc (.cells #[.int .i64 m, .int .i64 ba, .int .i64 la, .string bo] 23)).alloc (.cells #[.int .i64 k, .int .i64 dt, .slice A xs.length c, .string tx] 28)).alloc ((.cells #[.int .i64 0, .int .i64 0, .int .i64 0, .string ⟨#[]⟩] 23))))
  have HM := Lib.hid hm
  have HEN := Lib.hid hen
  have HBQ := Lib.hid hbq
  have HLT : Hid (∀ b o, 0 < xs.length → A = some ⟨b, o, none⟩ → b < w.heap.size) := Lib.hid fun b o hz hA => by
    obtain ⟨A', c', hv, hh⟩ := hI
    simp only [Value.slice.injEq, true_and] at hv
    obtain ⟨rfl, rfl⟩ := hv
    obtain ⟨b', o', hb', hlt, _⟩ := hh hz
    rw [hA] at hb'
    simp only [Option.some.injEq, Addr.mk.injEq, and_true] at hb'
    omega
  have HEZ := Lib.hid henz
  clear hm hI hn htx hen hbq henz
  go_enter Try.func10, Try.ntmps10
  go_wp2_with fail
  refine (may_k k dt xs tx true HM.out A c _ HI.out HN.out).mono ?_
  rintro r w1 ⟨rfl, hx1⟩
  have HB1 := Lib.hid (hx1.blk (three_new w (.cells #[.int .i64 m, .int .i64 ba, .int .i64 la, .string bo] 23) (.cells #[.int .i64 k, .int .i64 dt, .slice A xs.length c, .string tx] 28) ((.cells #[.int .i64 0, .int .i64 0, .int .i64 0, .string ⟨#[]⟩] 23))).1)
  have HPC : Hid (PC w #[.int .i64 m, .int .i64 ba, .int .i64 t, .string bo] #[.int .i64 k, .int .i64 dt, .slice A xs.length c, .string tx] A c xs (w1.setCell ⟨w.heap.size, 2, none⟩ (.int .i64 t)).drew) := Lib.hid (by
    have hx : Ext w w1 := ((((Ext.refl w).alloc _).alloc _).alloc _).trans hx1
    refine ⟨blk_set (hx1.blk (three_new w (.cells #[.int .i64 m, .int .i64 ba, .int .i64 la, .string bo] 23) (.cells #[.int .i64 k, .int .i64 dt, .slice A xs.length c, .string tx] 28) ((.cells #[.int .i64 0, .int .i64 0, .int .i64 0, .string ⟨#[]⟩] 23))).1) 2 _, blk_set_other (hx1.blk (three_new w (.cells #[.int .i64 m, .int .i64 ba, .int .i64 la, .string bo] 23) (.cells #[.int .i64 k, .int .i64 dt, .slice A xs.length c, .string tx] 28) ((.cells #[.int .i64 0, .int .i64 0, .int .i64 0, .string ⟨#[]⟩] 23))).2.1) _ (by simp) _, blk_set_other (hx1.blk (three_new w (.cells #[.int .i64 m, .int .i64 ba, .int .i64 la, .string bo] 23) (.cells #[.int .i64 k, .int .i64 dt, .slice A xs.length c, .string tx] 28) ((.cells #[.int .i64 0, .int .i64 0, .int .i64 0, .string ⟨#[]⟩] 23))).2.2) _ (by simp; omega) _, ?_, ?_⟩
    · refine ints_set (HI.out.ext hx1) (fun A' c' b o hv hz hA => ?_) 2 _
      simp only [Value.slice.injEq, true_and] at hv
      have := HLT.out b o hz (hv.1.trans hA)
      omega
    · exact (hx.setCell (Nat.le_refl _) _).drew)
  clear hx1
  have c2 := blk_cell HB1.out 2 (.int .i64 la) rfl
  have f2 := frozen_of_row _ _ 2 _ _ HB1.out
  go_wp2
  clear c2 f2
  generalize hq : (w1.setCell ⟨w.heap.size, 2, none⟩ (.int .i64 t)).drew = w5 at *
  refine region_g 6 (PC w #[.int .i64 m, .int .i64 ba, .int .i64 t, .string bo] #[.int .i64 k, .int .i64 dt, .slice A xs.length c, .string tx] A c xs) (fun v => v = w5) (by kernel_rfl) hq ?_
  clear hq
  have HG : ∀ (l : Array Bool) v, v = w5 → l.getD 6 false = false → PC w #[.int .i64 m, .int .i64 ba, .int .i64 t, .string bo] #[.int .i64 k, .int .i64 dt, .slice A xs.length c, .string tx] A c xs v := fun _ v h _ => h ▸ HPC.out
  have K0 : ∀ v, PC w #[.int .i64 m, .int .i64 ba, .int .i64 t, .string bo] #[.int .i64 k, .int .i64 dt, .slice A xs.length c, .string tx] A c xs v → v.cell? ⟨w.heap.size, 3, none⟩ = some (.string bo) := fun v hv => blk_cell hv.1 3 _ rfl
  have K1 : ∀ v, PC w #[.int .i64 m, .int .i64 ba, .int .i64 t, .string bo] #[.int .i64 k, .int .i64 dt, .slice A xs.length c, .string tx] A c xs v → v.cell? ⟨w.heap.size + 1, 0, none⟩ = some (.int .i64 k) := fun v hv => blk_cell hv.2.1 0 _ rfl
  have K2 : ∀ v, PC w #[.int .i64 m, .int .i64 ba, .int .i64 t, .string bo] #[.int .i64 k, .int .i64 dt, .slice A xs.length c, .string tx] A c xs v → v.cell? ⟨w.heap.size + 1, 1, none⟩ = some (.int .i64 dt) := fun v hv => blk_cell hv.2.1 1 _ rfl
  have K3 : ∀ v, PC w #[.int .i64 m, .int .i64 ba, .int .i64 t, .string bo] #[.int .i64 k, .int .i64 dt, .slice A xs.length c, .string tx] A c xs v → v.cell? ⟨w.heap.size + 1, 2, none⟩ = some (.slice A xs.length c) := fun v hv => blk_cell hv.2.1 2 _ rfl
  have K4 : ∀ v, PC w #[.int .i64 m, .int .i64 ba, .int .i64 t, .string bo] #[.int .i64 k, .int .i64 dt, .slice A xs.length c, .string tx] A c xs v → v.cell? ⟨w.heap.size + 1, 3, none⟩ = some (.string tx) := fun v hv => blk_cell hv.2.1 3 _ rfl
  have h99 : (9223372036854775807 < bo.size + en.size) = False := by have := HEZ.out; simp; omega
  have hbq := HBQ.out
  refine g_take (HG _) (i := 0) (v := ?_) rfl (by kernel_rfl) (by kernel_rfl) (by kernel_rfl) (by kernel_rfl) (by kernel_rfl) (fun _ _ _ h => h) (Still.yes (by kernel_rfl) fun w hS => ?_) ?_
  rotate_left 1
  · skip
    go_simp
    refine gives_mk ?_ rfl
    with_reducible rfl
  refine g_take (HG _) (i := 1) (v := ?_) rfl (by kernel_rfl) (by kernel_rfl) (by kernel_rfl) (by kernel_rfl) (by kernel_rfl) (fun _ _ _ h => h) (Still.yes (by kernel_rfl) fun w hS => ?_) ?_
  rotate_left 1
  · skip
    go_simp
    refine gives_mk ?_ rfl
    with_reducible rfl
  refine g_take (HG _) (i := 2) (v := ?_) rfl (by kernel_rfl) (by kernel_rfl) (by kernel_rfl) (by kernel_rfl) (by kernel_rfl) (fun _ _ _ h => h) (Still.yes (by kernel_rfl) fun w hS => ?_) ?_
  rotate_left 1
  · skip
    go_simp
    refine gives_mk ?_ rfl
    with_reducible rfl
  refine g_turn (PC3 w en #[.int .i64 m, .int .i64 ba, .int .i64 t, .string bo] #[.int .i64 k, .int .i64 dt, .slice A xs.length c, .string tx] A c xs) (k := 3) (by kernel_rfl) (fun _ _ h _ => h.2) (fun v hv => ?_)
  refine at_call (S := fun _ => True) rfl (by kernel_rfl) (by go_simp; (try exact ⟨rfl, rfl⟩)) (enc_T w k dt xs tx en HEN.out _ _ A c v (hv ▸ HPC.out) HN.out HTX.out) ?_
  rintro u ⟨_, rfl, _⟩
  replace HG : ∀ (l : Array Bool) v, PC3 w en #[.int .i64 m, .int .i64 ba, .int .i64 t, .string bo] #[.int .i64 k, .int .i64 dt, .slice A xs.length c, .string tx] A c xs (.string en) v → l.getD 6 false = false → PC w #[.int .i64 m, .int .i64 ba, .int .i64 t, .string bo] #[.int .i64 k, .int .i64 dt, .slice A xs.length c, .string tx] A c xs v := fun _ _ h _ => h.2
  refine g_free (HG _) (i := 4) (v := ?_) rfl (by kernel_rfl) (by kernel_rfl) (by kernel_rfl) (by kernel_rfl) (fun _ _ _ h => h) (Still.yes (by kernel_rfl) fun w hS => ?_) ?_
  rotate_left 1
  · skip
    go_simp
    try simp only [h99, if_false, hbq]
    refine gives_mk ?_ rfl
    with_reducible rfl
  refine g_free (HG _) (i := 5) (v := ?_) rfl (by kernel_rfl) (by kernel_rfl) (by kernel_rfl) (by kernel_rfl) (fun _ _ _ h => h) (Still.yes (by kernel_rfl) fun w hS => ?_) ?_
  rotate_left 1
  · skip
    go_simp
    refine gives_mk ?_ rfl
    with_reducible rfl
  refine g_turn (PC6 w #[.int .i64 m, .int .i64 ba, .int .i64 t, .string bq]) (k := 6) (by kernel_rfl) (fun _ _ _ hz => absurd hz (by decide +kernel)) (fun v hv => ?_)
  refine at_skip rfl (by kernel_rfl) ?_ ?_
  · have HV := Lib.hid hv.2
    have z3 := blk_cell HV.out.1 3 (.string bo) rfl
    have y3 := frozen_of_row _ _ 3 _ _ HV.out.1
    clear hv K0 K1 K2 K3 K4 h99 hbq HG
    go_simp
    first | exact ⟨blk_set HV.out.1 3 (.string bq), blk_set_other HV.out.2.2.1 _ (by simp; omega) _, HV.out.2.2.2.2.setCell (Nat.le_refl _) _⟩ | exact ⟨_, rfl, blk_set HV.out.1 3 (.string bq), blk_set_other HV.out.2.2.1 _ (by simp; omega) _, HV.out.2.2.2.2.setCell (Nat.le_refl _) _⟩
  refine g_done (by kernel_rfl) ?_ _
  intro w6 hw6
  have HW6 := Lib.hid hw6
  clear K0 K1 K2 K3 K4 h99 hbq HG hw6
  have a0 := blk_cell HW6.out.1 0 (.int .i64 m) rfl
  have a1 := blk_cell HW6.out.1 1 (.int .i64 ba) rfl
  have a2 := blk_cell HW6.out.1 2 (.int .i64 t) rfl
  have a3 := blk_cell HW6.out.1 3 (.string bq) rfl
  have hzb := HW6.out.2.1
  have z0 := blk_cell hzb 0 (.int .i64 0) rfl
  have z1 := blk_cell hzb 1 (.int .i64 0) rfl
  have z2 := blk_cell hzb 2 (.int .i64 0) rfl
  have z3 := blk_cell hzb 3 (.string ⟨#[]⟩) rfl
  have y0 := frozen_of_row _ _ 0 _ _ hzb
  have y1 := frozen_of_row _ _ 1 _ _ hzb
  have y2 := frozen_of_row _ _ 2 _ _ hzb
  have y3 := frozen_of_row _ _ 3 _ _ hzb
  have HZB := Lib.hid hzb
  clear hzb
  go_simp
  go_wp2
  have hzz := blk_set (blk_set (blk_set (blk_set HZB.out 0 (.int .i64 m)) 1 (.int .i64 ba)) 2 (.int .i64 t)) 3 (.string bq)
  clear z0 z1 z2 z3 y0 y1 y2 y3 a0 a1 a2 a3
  have t0 := blk_cell hzz 0 (.int .i64 m) rfl
  have t1 := blk_cell hzz 1 (.int .i64 ba) rfl
  have t2 := blk_cell hzz 2 (.int .i64 t) rfl
  have t3 := blk_cell hzz 3 (.string bq) rfl
  refine bodyPost_ret (v := .tuple #[.agg #[.int .i64 m, .int .i64 ba, .int .i64 t, .string bq], .bool true]) (by simp [results, Try.results10, go_sem, t0, t1, t2, t3]) rfl ⟨rfl, ?_⟩
  have hg : w.heap.size ≤ w.heap.size + 1 + 1 := by omega
  exact (((HW6.out.2.2.setCell hg _).setCell hg _).setCell hg _).setCell hg _

set_option maxRecDepth 100000 in
set_option maxHeartbeats 1000000 in
theorem bput_bad0 (m ba la : Int) (bo : ByteArray) (t : Int) (k d : Int) (xs : List Int) (tx : ByteArray) (A : Option Addr) (c : Nat) (w : World) (h0 : 0 ≤ t) (h1 : t < 4611686018427387904) (hb : bo.size = 0)
    (hI : IntsAt w (.slice A xs.length c) xs) (hn : xs.length ≤ 9223372036854775807) (hm : Ev.may ⟨k, 0, xs, tx⟩ = false) :
    Calls Try.prog 10 #[.agg #[.int .i64 m, .int .i64 ba, .int .i64 la, .string bo], .int .i64 t, .agg #[.int .i64 k, .int .i64 d, .slice A xs.length c, .string tx]] w (BPut (Bu.zero, false) w) := by
  have hb1 : bo.toList.isEmpty = true := by rw [Ev.str_nil hb]; rfl
  have hb2 := Ev.str_nil hb
  have hdt : IntKind.i64.wrap (t - t) = 0 := by rw [Int.sub_self]; rfl
  have hdt0 : IntKind.i64.wrap 0 = 0 := rfl
  clear hb
  have HN := Lib.hid hn
  have HI := Lib.hid (hI.ext ((((Ext.refl w).alloc (.cells #[.int .i64 m, .int .i64 t, .int .i64 t, .string bo] 23)).alloc (.cells #[.int .i64 k, .int .i64 0, .slice A xs.length c, .string tx] 28)).alloc ((.cells #[.int .i64 0, .int .i64 0, .int .i64 0, .string ⟨#[]⟩] 23))))
  have HM := Lib.hid hm
  clear hm hI hn
  go_enter Try.func10, Try.ntmps10
  go_wp2_with fail
  refine (may_k k 0 xs tx false HM.out A c _ HI.out HN.out).mono ?_
  rintro r w1 ⟨rfl, hx1⟩
  have hzb := hx1.blk (three_new w (.cells #[.int .i64 m, .int .i64 t, .int .i64 t, .string bo] 23) (.cells #[.int .i64 k, .int .i64 0, .slice A xs.length c, .string tx] 28) ((.cells #[.int .i64 0, .int .i64 0, .int .i64 0, .string ⟨#[]⟩] 23))).2.2
  have HX1 := Lib.hid hx1
  clear hx1
  have z0 := blk_cell hzb 0 (.int .i64 0) rfl
  have z1 := blk_cell hzb 1 (.int .i64 0) rfl
  have z2 := blk_cell hzb 2 (.int .i64 0) rfl
  have z3 := blk_cell hzb 3 (.string ⟨#[]⟩) rfl
  have y0 := frozen_of_row _ _ 0 _ _ hzb
  have y1 := frozen_of_row _ _ 1 _ _ hzb
  have y2 := frozen_of_row _ _ 2 _ _ hzb
  have y3 := frozen_of_row _ _ 3 _ _ hzb
  have HZB := Lib.hid hzb
  clear hzb
  go_wp2
  clear z0 z1 z2 z3 y0 y1 y2 y3
  have hzz := uzero4 HZB.out
  have t0 := blk_cell hzz 0 (.int .i64 0) rfl
  have t1 := blk_cell hzz 1 (.int .i64 0) rfl
  have t2 := blk_cell hzz 2 (.int .i64 0) rfl
  have t3 := blk_cell hzz 3 (.string ⟨#[]⟩) rfl
  refine bodyPost_ret (v := .tuple #[(.agg #[.int .i64 0, .int .i64 0, .int .i64 0, .string ⟨#[]⟩]), .bool false]) (by simp [results, Try.results10, go_sem, t0, t1, t2, t3]) rfl ⟨rfl, ?_⟩
  have hg : w.heap.size ≤ w.heap.size + 1 + 1 := by omega
  exact ((((((((Ext.refl w).alloc _).alloc _).alloc _).trans HX1.out).setCell hg _).setCell hg _).setCell hg _).setCell hg _
set_option maxRecDepth 100000 in
set_option maxHeartbeats 1000000 in
theorem bput_ok0 (m ba la : Int) (bo : ByteArray) (t : Int) (k d : Int) (xs : List Int) (tx : ByteArray) (A : Option Addr) (c : Nat) (w : World) (h0 : 0 ≤ t) (h1 : t < 4611686018427387904) (hb : bo.size = 0) (hbz : bo.size ≤ 1000000)
    (hI : IntsAt w (.slice A xs.length c) xs) (hn : xs.length ≤ 9223372036854775807) (htx : tx.size ≤ 140737488351232) (hm : Ev.may ⟨k, 0, xs, tx⟩ = true) (en bq : ByteArray) (hen : Ev.enc ⟨k, 0, xs, tx⟩ = en) (henz : en.size ≤ 140737488351300) (hbq : bo ++ en = bq) :
    Calls Try.prog 10 #[.agg #[.int .i64 m, .int .i64 ba, .int .i64 la, .string bo], .int .i64 t, .agg #[.int .i64 k, .int .i64 d, .slice A xs.length c, .string tx]] w (BPut (⟨m, t, t, bq⟩, true) w) := by
  have hb1 : bo.toList.isEmpty = true := by rw [Ev.str_nil hb]; rfl
  have hb2 := Ev.str_nil hb
  have hdt : IntKind.i64.wrap (t - t) = 0 := by rw [Int.sub_self]; rfl
  have hdt0 : IntKind.i64.wrap 0 = 0 := rfl
  clear hb
  have HN := Lib.hid hn
  have HTX := Lib.hid htx
  have HI := Lib.hid (hI.ext ((((Ext.refl w).alloc (.cells #[.int .i64 m, .int .i64 t, .int .i64 t, .string bo] 23)).alloc (.cells #[.int .i64 k, .int .i64 0, .slice A xs.length c, .string tx] 28)).alloc ((.cells #[.int .i64 0, .int .i64 0, .int .i64 0, .string ⟨#[]⟩] 23))))
  have HM := Lib.hid hm
  have HEN := Lib.hid hen
  have HBQ := Lib.hid hbq
  have HLT : Hid (∀ b o, 0 < xs.length → A = some ⟨b, o, none⟩ → b < w.heap.size) := Lib.hid fun b o hz hA => by
    obtain ⟨A', c', hv, hh⟩ := hI
    simp only [Value.slice.injEq, true_and] at hv
    obtain ⟨rfl, rfl⟩ := hv
    obtain ⟨b', o', hb', hlt, _⟩ := hh hz
    rw [hA] at hb'
    simp only [Option.some.injEq, Addr.mk.injEq, and_true] at hb'
    omega
  have HEZ := Lib.hid henz
  clear hm hI hn htx hen hbq henz
  go_enter Try.func10, Try.ntmps10
  go_wp2_with fail
  refine (may_k k 0 xs tx true HM.out A c _ HI.out HN.out).mono ?_
  rintro r w1 ⟨rfl, hx1⟩
  have HB1 := Lib.hid (hx1.blk (three_new w (.cells #[.int .i64 m, .int .i64 t, .int .i64 t, .string bo] 23) (.cells #[.int .i64 k, .int .i64 0, .slice A xs.length c, .string tx] 28) ((.cells #[.int .i64 0, .int .i64 0, .int .i64 0, .string ⟨#[]⟩] 23))).1)
  have HPC : Hid (PC w #[.int .i64 m, .int .i64 t, .int .i64 t, .string bo] #[.int .i64 k, .int .i64 0, .slice A xs.length c, .string tx] A c xs (w1.setCell ⟨w.heap.size, 2, none⟩ (.int .i64 t)).drew) := Lib.hid (by
    have hx : Ext w w1 := ((((Ext.refl w).alloc _).alloc _).alloc _).trans hx1
    refine ⟨blk_set (hx1.blk (three_new w (.cells #[.int .i64 m, .int .i64 t, .int .i64 t, .string bo] 23) (.cells #[.int .i64 k, .int .i64 0, .slice A xs.length c, .string tx] 28) ((.cells #[.int .i64 0, .int .i64 0, .int .i64 0, .string ⟨#[]⟩] 23))).1) 2 _, blk_set_other (hx1.blk (three_new w (.cells #[.int .i64 m, .int .i64 t, .int .i64 t, .string bo] 23) (.cells #[.int .i64 k, .int .i64 0, .slice A xs.length c, .string tx] 28) ((.cells #[.int .i64 0, .int .i64 0, .int .i64 0, .string ⟨#[]⟩] 23))).2.1) _ (by simp) _, blk_set_other (hx1.blk (three_new w (.cells #[.int .i64 m, .int .i64 t, .int .i64 t, .string bo] 23) (.cells #[.int .i64 k, .int .i64 0, .slice A xs.length c, .string tx] 28) ((.cells #[.int .i64 0, .int .i64 0, .int .i64 0, .string ⟨#[]⟩] 23))).2.2) _ (by simp; omega) _, ?_, ?_⟩
    · refine ints_set (HI.out.ext hx1) (fun A' c' b o hv hz hA => ?_) 2 _
      simp only [Value.slice.injEq, true_and] at hv
      have := HLT.out b o hz (hv.1.trans hA)
      omega
    · exact (hx.setCell (Nat.le_refl _) _).drew)
  clear hx1
  have c2 := blk_cell HB1.out 2 (.int .i64 t) rfl
  have f2 := frozen_of_row _ _ 2 _ _ HB1.out
  go_wp2
  clear c2 f2
  generalize hq : (w1.setCell ⟨w.heap.size, 2, none⟩ (.int .i64 t)).drew = w5 at *
  refine region_g 6 (PC w #[.int .i64 m, .int .i64 t, .int .i64 t, .string bo] #[.int .i64 k, .int .i64 0, .slice A xs.length c, .string tx] A c xs) (fun v => v = w5) (by kernel_rfl) hq ?_
  clear hq
  have HG : ∀ (l : Array Bool) v, v = w5 → l.getD 6 false = false → PC w #[.int .i64 m, .int .i64 t, .int .i64 t, .string bo] #[.int .i64 k, .int .i64 0, .slice A xs.length c, .string tx] A c xs v := fun _ v h _ => h ▸ HPC.out
  have K0 : ∀ v, PC w #[.int .i64 m, .int .i64 t, .int .i64 t, .string bo] #[.int .i64 k, .int .i64 0, .slice A xs.length c, .string tx] A c xs v → v.cell? ⟨w.heap.size, 3, none⟩ = some (.string bo) := fun v hv => blk_cell hv.1 3 _ rfl
  have K1 : ∀ v, PC w #[.int .i64 m, .int .i64 t, .int .i64 t, .string bo] #[.int .i64 k, .int .i64 0, .slice A xs.length c, .string tx] A c xs v → v.cell? ⟨w.heap.size + 1, 0, none⟩ = some (.int .i64 k) := fun v hv => blk_cell hv.2.1 0 _ rfl
  have K2 : ∀ v, PC w #[.int .i64 m, .int .i64 t, .int .i64 t, .string bo] #[.int .i64 k, .int .i64 0, .slice A xs.length c, .string tx] A c xs v → v.cell? ⟨w.heap.size + 1, 1, none⟩ = some (.int .i64 0) := fun v hv => blk_cell hv.2.1 1 _ rfl
  have K3 : ∀ v, PC w #[.int .i64 m, .int .i64 t, .int .i64 t, .string bo] #[.int .i64 k, .int .i64 0, .slice A xs.length c, .string tx] A c xs v → v.cell? ⟨w.heap.size + 1, 2, none⟩ = some (.slice A xs.length c) := fun v hv => blk_cell hv.2.1 2 _ rfl
  have K4 : ∀ v, PC w #[.int .i64 m, .int .i64 t, .int .i64 t, .string bo] #[.int .i64 k, .int .i64 0, .slice A xs.length c, .string tx] A c xs v → v.cell? ⟨w.heap.size + 1, 3, none⟩ = some (.string tx) := fun v hv => blk_cell hv.2.1 3 _ rfl
  have h99 : (9223372036854775807 < bo.size + en.size) = False := by have := HEZ.out; simp; omega
  have hbq := HBQ.out
  refine g_take (HG _) (i := 0) (v := ?_) rfl (by kernel_rfl) (by kernel_rfl) (by kernel_rfl) (by kernel_rfl) (by kernel_rfl) (fun _ _ _ h => h) (Still.yes (by kernel_rfl) fun w hS => ?_) ?_
  rotate_left 1
  · skip
    go_simp
    refine gives_mk ?_ rfl
    with_reducible rfl
  refine g_take (HG _) (i := 1) (v := ?_) rfl (by kernel_rfl) (by kernel_rfl) (by kernel_rfl) (by kernel_rfl) (by kernel_rfl) (fun _ _ _ h => h) (Still.yes (by kernel_rfl) fun w hS => ?_) ?_
  rotate_left 1
  · skip
    go_simp
    refine gives_mk ?_ rfl
    with_reducible rfl
  refine g_take (HG _) (i := 2) (v := ?_) rfl (by kernel_rfl) (by kernel_rfl) (by kernel_rfl) (by kernel_rfl) (by kernel_rfl) (fun _ _ _ h => h) (Still.yes (by kernel_rfl) fun w hS => ?_) ?_
  rotate_left 1
  · skip
    go_simp
    refine gives_mk ?_ rfl
    with_reducible rfl
  refine g_turn (PC3 w en #[.int .i64 m, .int .i64 t, .int .i64 t, .string bo] #[.int .i64 k, .int .i64 0, .slice A xs.length c, .string tx] A c xs) (k := 3) (by kernel_rfl) (fun _ _ h _ => h.2) (fun v hv => ?_)
  refine at_call (S := fun _ => True) rfl (by kernel_rfl) (by go_simp; (try exact ⟨rfl, rfl⟩)) (enc_T w k 0 xs tx en HEN.out _ _ A c v (hv ▸ HPC.out) HN.out HTX.out) ?_
  rintro u ⟨_, rfl, _⟩
  replace HG : ∀ (l : Array Bool) v, PC3 w en #[.int .i64 m, .int .i64 t, .int .i64 t, .string bo] #[.int .i64 k, .int .i64 0, .slice A xs.length c, .string tx] A c xs (.string en) v → l.getD 6 false = false → PC w #[.int .i64 m, .int .i64 t, .int .i64 t, .string bo] #[.int .i64 k, .int .i64 0, .slice A xs.length c, .string tx] A c xs v := fun _ _ h _ => h.2
  refine g_free (HG _) (i := 4) (v := ?_) rfl (by kernel_rfl) (by kernel_rfl) (by kernel_rfl) (by kernel_rfl) (fun _ _ _ h => h) (Still.yes (by kernel_rfl) fun w hS => ?_) ?_
  rotate_left 1
  · skip
    go_simp
    try simp only [h99, if_false, hbq]
    refine gives_mk ?_ rfl
    with_reducible rfl
  refine g_free (HG _) (i := 5) (v := ?_) rfl (by kernel_rfl) (by kernel_rfl) (by kernel_rfl) (by kernel_rfl) (fun _ _ _ h => h) (Still.yes (by kernel_rfl) fun w hS => ?_) ?_
  rotate_left 1
  · skip
    go_simp
    refine gives_mk ?_ rfl
    with_reducible rfl
  refine g_turn (PC6 w #[.int .i64 m, .int .i64 t, .int .i64 t, .string bq]) (k := 6) (by kernel_rfl) (fun _ _ _ hz => absurd hz (by decide +kernel)) (fun v hv => ?_)
  refine at_skip rfl (by kernel_rfl) ?_ ?_
  · have HV := Lib.hid hv.2
    have z3 := blk_cell HV.out.1 3 (.string bo) rfl
    have y3 := frozen_of_row _ _ 3 _ _ HV.out.1
    clear hv K0 K1 K2 K3 K4 h99 hbq HG
    go_simp
    first | exact ⟨blk_set HV.out.1 3 (.string bq), blk_set_other HV.out.2.2.1 _ (by simp; omega) _, HV.out.2.2.2.2.setCell (Nat.le_refl _) _⟩ | exact ⟨_, rfl, blk_set HV.out.1 3 (.string bq), blk_set_other HV.out.2.2.1 _ (by simp; omega) _, HV.out.2.2.2.2.setCell (Nat.le_refl _) _⟩
  refine g_done (by kernel_rfl) ?_ _
  intro w6 hw6
  have HW6 := Lib.hid hw6
  clear K0 K1 K2 K3 K4 h99 hbq HG hw6
  have a0 := blk_cell HW6.out.1 0 (.int .i64 m) rfl
  have a1 := blk_cell HW6.out.1 1 (.int .i64 t) rfl
  have a2 := blk_cell HW6.out.1 2 (.int .i64 t) rfl
  have a3 := blk_cell HW6.out.1 3 (.string bq) rfl
  have hzb := HW6.out.2.1
  have z0 := blk_cell hzb 0 (.int .i64 0) rfl
  have z1 := blk_cell hzb 1 (.int .i64 0) rfl
  have z2 := blk_cell hzb 2 (.int .i64 0) rfl
  have z3 := blk_cell hzb 3 (.string ⟨#[]⟩) rfl
  have y0 := frozen_of_row _ _ 0 _ _ hzb
  have y1 := frozen_of_row _ _ 1 _ _ hzb
  have y2 := frozen_of_row _ _ 2 _ _ hzb
  have y3 := frozen_of_row _ _ 3 _ _ hzb
  have HZB := Lib.hid hzb
  clear hzb
  go_simp
  go_wp2
  have hzz := blk_set (blk_set (blk_set (blk_set HZB.out 0 (.int .i64 m)) 1 (.int .i64 t)) 2 (.int .i64 t)) 3 (.string bq)
  clear z0 z1 z2 z3 y0 y1 y2 y3 a0 a1 a2 a3
  have t0 := blk_cell hzz 0 (.int .i64 m) rfl
  have t1 := blk_cell hzz 1 (.int .i64 t) rfl
  have t2 := blk_cell hzz 2 (.int .i64 t) rfl
  have t3 := blk_cell hzz 3 (.string bq) rfl
  refine bodyPost_ret (v := .tuple #[.agg #[.int .i64 m, .int .i64 t, .int .i64 t, .string bq], .bool true]) (by simp [results, Try.results10, go_sem, t0, t1, t2, t3]) rfl ⟨rfl, ?_⟩
  have hg : w.heap.size ≤ w.heap.size + 1 + 1 := by omega
  exact (((HW6.out.2.2.setCell hg _).setCell hg _).setCell hg _).setCell hg _

def BSeal (p : Bt × Bu × Bool) (w : World) (r : Ending) (w' : World) : Prop := r = .returned (.tuple #[.agg #[.int .i64 p.1.gen, .int .i64 p.1.stream, .int .i64 p.1.base, .string p.1.body], p.2.1.val, .bool p.2.2]) ∧ Ext w w'
theorem four_new (w : World) (o1 o2 o3 o4 : Obj) : ((((w.alloc o1).alloc o2).alloc o3).alloc o4).heap[w.heap.size]? = some o1 ∧ ((((w.alloc o1).alloc o2).alloc o3).alloc o4).heap[w.heap.size + 1]? = some o2 ∧ ((((w.alloc o1).alloc o2).alloc o3).alloc o4).heap[w.heap.size + 1 + 1]? = some o3 ∧ ((((w.alloc o1).alloc o2).alloc o3).alloc o4).heap[w.heap.size + 1 + 1 + 1]? = some o4 := by
  obtain ⟨h1, h2, h3⟩ := three_new w o1 o2 o3
  refine ⟨blk_alloc h1 _, blk_alloc h2 _, blk_alloc h3 _, ?_⟩
  have := blk_new (((w.alloc o1).alloc o2).alloc o3) o4
  rwa [World.size_alloc, World.size_alloc, World.size_alloc] at this
set_option maxRecDepth 100000 in
set_option maxHeartbeats 1000000 in
theorem bseal_out (m ba la : Int) (bo : ByteArray) (g m' : Int) (hm' : IntKind.i64.wrap (m + 1) = m') (w : World) (ho : bo.size = 0 ∨ (¬ bo.size = 0 ∧ m < 1)) :
    Calls Try.prog 12 #[.agg #[.int .i64 m, .int .i64 ba, .int .i64 la, .string bo], .int .i64 g] w (BSeal (Bt.zero, Bu.zero, false) w) := by
  have hzb := (four_new w (.cells #[.int .i64 m, .int .i64 ba, .int .i64 la, .string bo] 23) (.cells #[.int .i64 0, .int .i64 0, .int .i64 0, .string ⟨#[]⟩] 35) ((.cells #[.int .i64 0, .int .i64 0, .int .i64 0, .string ⟨#[]⟩] 23)) (.cells #[.int .i64 g, .int .i64 m', .int .i64 ba, .string bo] 35)).2.1
  have hzu := (four_new w (.cells #[.int .i64 m, .int .i64 ba, .int .i64 la, .string bo] 23) (.cells #[.int .i64 0, .int .i64 0, .int .i64 0, .string ⟨#[]⟩] 35) ((.cells #[.int .i64 0, .int .i64 0, .int .i64 0, .string ⟨#[]⟩] 23)) (.cells #[.int .i64 g, .int .i64 m', .int .i64 ba, .string bo] 35)).2.2.1
  have z0 := blk_cell hzb 0 (.int .i64 0) rfl
  have z1 := blk_cell hzb 1 (.int .i64 0) rfl
  have z2 := blk_cell hzb 2 (.int .i64 0) rfl
  have z3 := blk_cell hzb 3 (.string ⟨#[]⟩) rfl
  have y0 := frozen_of_row _ _ 0 _ _ hzb
  have y1 := frozen_of_row _ _ 1 _ _ hzb
  have y2 := frozen_of_row _ _ 2 _ _ hzb
  have y3 := frozen_of_row _ _ 3 _ _ hzb
  have x0 := blk_cell hzu 0 (.int .i64 0) rfl
  have x1 := blk_cell hzu 1 (.int .i64 0) rfl
  have x2 := blk_cell hzu 2 (.int .i64 0) rfl
  have x3 := blk_cell hzu 3 (.string ⟨#[]⟩) rfl
  have v0 := frozen_of_row _ _ 0 _ _ hzu
  have v1 := frozen_of_row _ _ 1 _ _ hzu
  have v2 := frozen_of_row _ _ 2 _ _ hzu
  have v3 := frozen_of_row _ _ 3 _ _ hzu
  have HZB := Lib.hid hzb
  have HZU := Lib.hid hzu
  clear hzb hzu
  rcases ho with hb | ⟨hb, h1⟩
  · have hb1 : bo.toList.isEmpty = true := by rw [Ev.str_nil hb]; rfl
    have hb2 := Ev.str_nil hb
    clear hb
    go_enter Try.func12, Try.ntmps12
    go_wp2
    clear z0 z1 z2 z3 y0 y1 y2 y3 x0 x1 x2 x3 v0 v1 v2 v3
    have t0 := blk_cell HZB.out 0 (.int .i64 0) rfl
    have t1 := blk_cell HZB.out 1 (.int .i64 0) rfl
    have t2 := blk_cell HZB.out 2 (.int .i64 0) rfl
    have t3 := blk_cell HZB.out 3 (.string ⟨#[]⟩) rfl
    have u0 := blk_cell HZU.out 0 (.int .i64 0) rfl
    have u1 := blk_cell HZU.out 1 (.int .i64 0) rfl
    have u2 := blk_cell HZU.out 2 (.int .i64 0) rfl
    have u3 := blk_cell HZU.out 3 (.string ⟨#[]⟩) rfl
    refine bodyPost_ret (v := .tuple #[(.agg #[.int .i64 0, .int .i64 0, .int .i64 0, .string ⟨#[]⟩]), (.agg #[.int .i64 0, .int .i64 0, .int .i64 0, .string ⟨#[]⟩]), .bool false]) (by simp [results, Try.results12, go_sem, t0, t1, t2, t3, u0, u1, u2, u3]) rfl ⟨rfl, ?_⟩
    exact ((((Ext.refl w).alloc _).alloc _).alloc _).alloc _
  · have hb1 := (Ev.str_nonempty hb).1
    have hb2 := (Ev.str_nonempty hb).2
    clear hb
    go_enter Try.func12, Try.ntmps12
    go_wp2
    clear z0 z1 z2 z3 y0 y1 y2 y3 x0 x1 x2 x3 v0 v1 v2 v3
    have t0 := blk_cell HZB.out 0 (.int .i64 0) rfl
    have t1 := blk_cell HZB.out 1 (.int .i64 0) rfl
    have t2 := blk_cell HZB.out 2 (.int .i64 0) rfl
    have t3 := blk_cell HZB.out 3 (.string ⟨#[]⟩) rfl
    have u0 := blk_cell HZU.out 0 (.int .i64 0) rfl
    have u1 := blk_cell HZU.out 1 (.int .i64 0) rfl
    have u2 := blk_cell HZU.out 2 (.int .i64 0) rfl
    have u3 := blk_cell HZU.out 3 (.string ⟨#[]⟩) rfl
    refine bodyPost_ret (v := .tuple #[(.agg #[.int .i64 0, .int .i64 0, .int .i64 0, .string ⟨#[]⟩]), (.agg #[.int .i64 0, .int .i64 0, .int .i64 0, .string ⟨#[]⟩]), .bool false]) (by simp [results, Try.results12, go_sem, t0, t1, t2, t3, u0, u1, u2, u3]) rfl ⟨rfl, ?_⟩
    exact ((((Ext.refl w).alloc _).alloc _).alloc _).alloc _

theorem su4_at {v : World} {x : Nat} {c0 c1 c2 c3 : Value} {t : TypeId} (h : v.heap[x]? = some (.cells #[c0, c1, c2, c3] t (0, 0))) (d0 d1 d2 d3 : Value) :
    ((((v.setCell ⟨x, 0, none⟩ d0).setCell ⟨x, 1, none⟩ d1).setCell ⟨x, 2, none⟩ d2).setCell ⟨x, 3, none⟩ d3).heap[x]? = some (.cells #[d0, d1, d2, d3] t (0, 0)) :=
  blk_set (blk_set (blk_set (blk_set h 0 d0) 1 d1) 2 d2) 3 d3
theorem su4_off {v : World} {x y : Nat} {o : Obj} (h : v.heap[y]? = some o) (hne : x ≠ y) (d0 d1 d2 d3 : Value) :
    ((((v.setCell ⟨x, 0, none⟩ d0).setCell ⟨x, 1, none⟩ d1).setCell ⟨x, 2, none⟩ d2).setCell ⟨x, 3, none⟩ d3).heap[y]? = some o :=
  blk_set_other (blk_set_other (blk_set_other (blk_set_other h _ hne _) _ hne _) _ hne _) _ hne _
theorem su4_ext {W v : World} {x : Nat} (h : Ext W v) (hx : W.heap.size ≤ x) (d0 d1 d2 d3 : Value) :
    Ext W ((((v.setCell ⟨x, 0, none⟩ d0).setCell ⟨x, 1, none⟩ d1).setCell ⟨x, 2, none⟩ d2).setCell ⟨x, 3, none⟩ d3) :=
  (((h.setCell hx _).setCell hx _).setCell hx _).setCell hx _
set_option maxRecDepth 100000 in
set_option maxHeartbeats 1000000 in
theorem bseal_bad (m ba la : Int) (bo : ByteArray) (g m' : Int) (hm' : IntKind.i64.wrap (m + 1) = m') (w : World) (hb : ¬ bo.size = 0) (h1 : 1 ≤ m) (hm : Bt.may ⟨g, m', ba, bo⟩ = false) :
    Calls Try.prog 12 #[.agg #[.int .i64 m, .int .i64 ba, .int .i64 la, .string bo], .int .i64 g] w (BSeal (Bt.zero, Bu.zero, false) w) := by
  have hb1 := (Ev.str_nonempty hb).1
  have hb2 := (Ev.str_nonempty hb).2
  have HM := Lib.hid hm
  clear hb hm
  go_enter Try.func12, Try.ntmps12
  go_wp2_with fail
  refine (bmay_eq g m' ba bo false HM.out _).mono ?_
  rintro r w1 ⟨rfl, hx1⟩
  have hzb := hx1.blk (four_new w (.cells #[.int .i64 m, .int .i64 ba, .int .i64 la, .string bo] 23) (.cells #[.int .i64 0, .int .i64 0, .int .i64 0, .string ⟨#[]⟩] 35) ((.cells #[.int .i64 0, .int .i64 0, .int .i64 0, .string ⟨#[]⟩] 23)) (.cells #[.int .i64 g, .int .i64 m', .int .i64 ba, .string bo] 35)).2.1
  have hzu := hx1.blk (four_new w (.cells #[.int .i64 m, .int .i64 ba, .int .i64 la, .string bo] 23) (.cells #[.int .i64 0, .int .i64 0, .int .i64 0, .string ⟨#[]⟩] 35) ((.cells #[.int .i64 0, .int .i64 0, .int .i64 0, .string ⟨#[]⟩] 23)) (.cells #[.int .i64 g, .int .i64 m', .int .i64 ba, .string bo] 35)).2.2.1
  have HX1 : Hid (Ext w w1) := Lib.hid (((((Ext.refl w).alloc _).alloc _).alloc _).alloc _ |>.trans hx1)
  clear hx1
  have z0 := blk_cell hzb 0 (.int .i64 0) rfl
  have z1 := blk_cell hzb 1 (.int .i64 0) rfl
  have z2 := blk_cell hzb 2 (.int .i64 0) rfl
  have z3 := blk_cell hzb 3 (.string ⟨#[]⟩) rfl
  have y0 := frozen_of_row _ _ 0 _ _ hzb
  have y1 := frozen_of_row _ _ 1 _ _ hzb
  have y2 := frozen_of_row _ _ 2 _ _ hzb
  have y3 := frozen_of_row _ _ 3 _ _ hzb
  have x0 := blk_cell hzu 0 (.int .i64 0) rfl
  have x1 := blk_cell hzu 1 (.int .i64 0) rfl
  have x2 := blk_cell hzu 2 (.int .i64 0) rfl
  have x3 := blk_cell hzu 3 (.string ⟨#[]⟩) rfl
  have v0 := frozen_of_row _ _ 0 _ _ hzu
  have v1 := frozen_of_row _ _ 1 _ _ hzu
  have v2 := frozen_of_row _ _ 2 _ _ hzu
  have v3 := frozen_of_row _ _ 3 _ _ hzu
  have HZB := Lib.hid hzb
  have HZU := Lib.hid hzu
  clear hzb hzu
  go_wp2
  clear z0 z1 z2 z3 y0 y1 y2 y3 x0 x1 x2 x3 v0 v1 v2 v3
  have hB := su4_off (su4_at HZB.out (.int .i64 0) (.int .i64 0) (.int .i64 0) (.string ⟨#[]⟩)) (x := w.heap.size + 1 + 1) (by omega) (.int .i64 0) (.int .i64 0) (.int .i64 0) (.string ⟨#[]⟩)
  have hU := su4_at (su4_off HZU.out (x := w.heap.size + 1) (by omega) (.int .i64 0) (.int .i64 0) (.int .i64 0) (.string ⟨#[]⟩)) (.int .i64 0) (.int .i64 0) (.int .i64 0) (.string ⟨#[]⟩)
  have t0 := blk_cell hB 0 (.int .i64 0) rfl
  have t1 := blk_cell hB 1 (.int .i64 0) rfl
  have t2 := blk_cell hB 2 (.int .i64 0) rfl
  have t3 := blk_cell hB 3 (.string ⟨#[]⟩) rfl
  have u0 := blk_cell hU 0 (.int .i64 0) rfl
  have u1 := blk_cell hU 1 (.int .i64 0) rfl
  have u2 := blk_cell hU 2 (.int .i64 0) rfl
  have u3 := blk_cell hU 3 (.string ⟨#[]⟩) rfl
  refine bodyPost_ret (v := .tuple #[(.agg #[.int .i64 0, .int .i64 0, .int .i64 0, .string ⟨#[]⟩]), (.agg #[.int .i64 0, .int .i64 0, .int .i64 0, .string ⟨#[]⟩]), .bool false]) (by simp [results, Try.results12, go_sem, t0, t1, t2, t3, u0, u1, u2, u3]) rfl ⟨rfl, ?_⟩
  exact su4_ext (su4_ext HX1.out (by omega) _ _ _ _) (by omega) _ _ _ _
def SC (w : World) (cb co : Array Value) (v : World) : Prop := v.heap[w.heap.size]? = some (.cells cb 23 (0, 0)) ∧ v.heap[w.heap.size + 1 + 1 + 1]? = some (.cells co 35 (0, 0))
def SP (w : World) (cb co ca cu : Array Value) (_ : Value) (v : World) : Prop := (v.heap[w.heap.size + 1]? = some (.cells ca 35 (0, 0)) ∧ v.heap[w.heap.size + 1 + 1]? = some (.cells cu 23 (0, 0)) ∧ Ext w v) ∧ SC w cb co v
set_option maxRecDepth 100000 in
set_option maxHeartbeats 1000000 in
theorem bseal_ok (m ba la : Int) (bo : ByteArray) (g m' : Int) (hm' : IntKind.i64.wrap (m + 1) = m') (w : World) (hb : ¬ bo.size = 0) (h1 : 1 ≤ m) (hm : Bt.may ⟨g, m', ba, bo⟩ = true) :
    Calls Try.prog 12 #[.agg #[.int .i64 m, .int .i64 ba, .int .i64 la, .string bo], .int .i64 g] w (BSeal (⟨g, m', ba, bo⟩, ⟨m, 0, 0, ⟨#[]⟩⟩, true) w) := by
  have hb1 := (Ev.str_nonempty hb).1
  have hb2 := (Ev.str_nonempty hb).2
  have HM := Lib.hid hm
  clear hb hm
  go_enter Try.func12, Try.ntmps12
  go_wp2_with fail
  refine (bmay_eq g m' ba bo true HM.out _).mono ?_
  rintro r w1 ⟨rfl, hx1⟩
  have HS : Hid (SP w #[.int .i64 m, .int .i64 ba, .int .i64 la, .string bo] #[.int .i64 g, .int .i64 m', .int .i64 ba, .string bo] #[.int .i64 0, .int .i64 0, .int .i64 0, .string ⟨#[]⟩] #[.int .i64 0, .int .i64 0, .int .i64 0, .string ⟨#[]⟩] undef w1.drew) := Lib.hid (by
    obtain ⟨f1, f2, f3, f4⟩ := four_new w (.cells #[.int .i64 m, .int .i64 ba, .int .i64 la, .string bo] 23) (.cells #[.int .i64 0, .int .i64 0, .int .i64 0, .string ⟨#[]⟩] 35) ((.cells #[.int .i64 0, .int .i64 0, .int .i64 0, .string ⟨#[]⟩] 23)) (.cells #[.int .i64 g, .int .i64 m', .int .i64 ba, .string bo] 35)
    exact ⟨⟨hx1.blk f2, hx1.blk f3, ((((((Ext.refl w).alloc _).alloc _).alloc _).alloc _).trans hx1).drew⟩, hx1.blk f1, hx1.blk f4⟩)
  clear hx1
  go_wp2
  generalize hq : w1.drew = w5 at *
  refine region_g 99 (SC w #[.int .i64 m, .int .i64 ba, .int .i64 la, .string bo] #[.int .i64 g, .int .i64 m', .int .i64 ba, .string bo]) (fun v => v = w5) (by kernel_rfl) hq ?_
  clear hq
  have HG : ∀ (l : Array Bool) v, v = w5 → l.getD 99 false = false → SC w #[.int .i64 m, .int .i64 ba, .int .i64 la, .string bo] #[.int .i64 g, .int .i64 m', .int .i64 ba, .string bo] v := fun _ v h _ => h ▸ HS.out.2
  have K0 : ∀ v, SC w #[.int .i64 m, .int .i64 ba, .int .i64 la, .string bo] #[.int .i64 g, .int .i64 m', .int .i64 ba, .string bo] v → v.cell? ⟨w.heap.size, 0, none⟩ = some (.int .i64 m) := fun v hv => blk_cell hv.1 0 _ rfl
  have K1 : ∀ v, SC w #[.int .i64 m, .int .i64 ba, .int .i64 la, .string bo] #[.int .i64 g, .int .i64 m', .int .i64 ba, .string bo] v → v.cell? ⟨w.heap.size + 1 + 1 + 1, 0, none⟩ = some (.int .i64 g) := fun v hv => blk_cell hv.2 0 _ rfl
  have K2 : ∀ v, SC w #[.int .i64 m, .int .i64 ba, .int .i64 la, .string bo] #[.int .i64 g, .int .i64 m', .int .i64 ba, .string bo] v → v.cell? ⟨w.heap.size + 1 + 1 + 1, 1, none⟩ = some (.int .i64 m') := fun v hv => blk_cell hv.2 1 _ rfl
  have K3 : ∀ v, SC w #[.int .i64 m, .int .i64 ba, .int .i64 la, .string bo] #[.int .i64 g, .int .i64 m', .int .i64 ba, .string bo] v → v.cell? ⟨w.heap.size + 1 + 1 + 1, 2, none⟩ = some (.int .i64 ba) := fun v hv => blk_cell hv.2 2 _ rfl
  have K4 : ∀ v, SC w #[.int .i64 m, .int .i64 ba, .int .i64 la, .string bo] #[.int .i64 g, .int .i64 m', .int .i64 ba, .string bo] v → v.cell? ⟨w.heap.size + 1 + 1 + 1, 3, none⟩ = some (.string bo) := fun v hv => blk_cell hv.2 3 _ rfl
  refine g_take (HG _) (i := 0) (v := ?_) rfl (by kernel_rfl) (by kernel_rfl) (by kernel_rfl) (by kernel_rfl) (by kernel_rfl) (fun _ _ _ h => h) (Still.yes (by kernel_rfl) fun w hS => ?_) ?_
  rotate_left 1
  · skip
    go_simp
    refine gives_mk ?_ rfl
    with_reducible rfl
  refine g_take (HG _) (i := 1) (v := ?_) rfl (by kernel_rfl) (by kernel_rfl) (by kernel_rfl) (by kernel_rfl) (by kernel_rfl) (fun _ _ _ h => h) (Still.yes (by kernel_rfl) fun w hS => ?_) ?_
  rotate_left 1
  · skip
    go_simp
    refine gives_mk ?_ rfl
    with_reducible rfl
  refine g_take (HG _) (i := 2) (v := ?_) rfl (by kernel_rfl) (by kernel_rfl) (by kernel_rfl) (by kernel_rfl) (by kernel_rfl) (fun _ _ _ h => h) (Still.yes (by kernel_rfl) fun w hS => ?_) ?_
  rotate_left 1
  · skip
    go_simp
    refine gives_mk ?_ rfl
    with_reducible rfl
  refine g_take (HG _) (i := 3) (v := ?_) rfl (by kernel_rfl) (by kernel_rfl) (by kernel_rfl) (by kernel_rfl) (by kernel_rfl) (fun _ _ _ h => h) (Still.yes (by kernel_rfl) fun w hS => ?_) ?_
  rotate_left 1
  · skip
    go_simp
    refine gives_mk ?_ rfl
    with_reducible rfl
  refine g_turn (SP w #[.int .i64 m, .int .i64 ba, .int .i64 la, .string bo] #[.int .i64 g, .int .i64 m', .int .i64 ba, .string bo] #[.int .i64 g, .int .i64 m', .int .i64 ba, .string bo] #[.int .i64 0, .int .i64 0, .int .i64 0, .string ⟨#[]⟩]) (k := 4) (by kernel_rfl) (fun _ _ h _ => h.2) (fun v hv => ?_)
  refine at_skip rfl (by kernel_rfl) ?_ ?_
  · subst hv
    have hzb := HS.out.1.1
    have hzu := HS.out.1.2.1
    clear K0 K1 K2 K3 K4 HG
    have z0 := blk_cell hzb 0 (.int .i64 0) rfl
    have z1 := blk_cell hzb 1 (.int .i64 0) rfl
    have z2 := blk_cell hzb 2 (.int .i64 0) rfl
    have z3 := blk_cell hzb 3 (.string ⟨#[]⟩) rfl
    have y0 := frozen_of_row _ _ 0 _ _ hzb
    have y1 := frozen_of_row _ _ 1 _ _ hzb
    have y2 := frozen_of_row _ _ 2 _ _ hzb
    have y3 := frozen_of_row _ _ 3 _ _ hzb
    have x0 := blk_cell hzu 0 (.int .i64 0) rfl
    have x1 := blk_cell hzu 1 (.int .i64 0) rfl
    have x2 := blk_cell hzu 2 (.int .i64 0) rfl
    have x3 := blk_cell hzu 3 (.string ⟨#[]⟩) rfl
    have v0 := frozen_of_row _ _ 0 _ _ hzu
    have v1 := frozen_of_row _ _ 1 _ _ hzu
    have v2 := frozen_of_row _ _ 2 _ _ hzu
    have v3 := frozen_of_row _ _ 3 _ _ hzu
    have HZB := Lib.hid hzb
    have HZU := Lib.hid hzu
    clear hzb hzu
    go_simp
    first | exact ⟨⟨su4_at HZB.out _ _ _ _, su4_off HZU.out (by omega) _ _ _ _, su4_ext HS.out.1.2.2 (by omega) _ _ _ _⟩, su4_off HS.out.2.1 (by omega) _ _ _ _, su4_off HS.out.2.2 (by omega) _ _ _ _⟩ | exact ⟨_, rfl, ⟨su4_at HZB.out _ _ _ _, su4_off HZU.out (by omega) _ _ _ _, su4_ext HS.out.1.2.2 (by omega) _ _ _ _⟩, su4_off HS.out.2.1 (by omega) _ _ _ _, su4_off HS.out.2.2 (by omega) _ _ _ _⟩
  refine g_turn (SP w #[.int .i64 m, .int .i64 ba, .int .i64 la, .string bo] #[.int .i64 g, .int .i64 m', .int .i64 ba, .string bo] #[.int .i64 g, .int .i64 m', .int .i64 ba, .string bo] #[.int .i64 m, .int .i64 0, .int .i64 0, .string ⟨#[]⟩]) (k := 5) (by kernel_rfl) (fun _ _ h _ => h.2) (fun v hv => ?_)
  refine at_skip rfl (by kernel_rfl) ?_ ?_
  · have HV := Lib.hid hv
    have hzu := hv.1.2.1
    clear hv K0 K1 K2 K3 K4 HG
    have x0 := blk_cell hzu 0 (.int .i64 0) rfl
    have x1 := blk_cell hzu 1 (.int .i64 0) rfl
    have x2 := blk_cell hzu 2 (.int .i64 0) rfl
    have x3 := blk_cell hzu 3 (.string ⟨#[]⟩) rfl
    have v0 := frozen_of_row _ _ 0 _ _ hzu
    have v1 := frozen_of_row _ _ 1 _ _ hzu
    have v2 := frozen_of_row _ _ 2 _ _ hzu
    have v3 := frozen_of_row _ _ 3 _ _ hzu
    clear hzu
    go_simp
    first | exact ⟨⟨su4_off HV.out.1.1 (by omega) _ _ _ _, su4_at HV.out.1.2.1 _ _ _ _, su4_ext HV.out.1.2.2 (by omega) _ _ _ _⟩, su4_off HV.out.2.1 (by omega) _ _ _ _, su4_off HV.out.2.2 (by omega) _ _ _ _⟩ | exact ⟨_, rfl, ⟨su4_off HV.out.1.1 (by omega) _ _ _ _, su4_at HV.out.1.2.1 _ _ _ _, su4_ext HV.out.1.2.2 (by omega) _ _ _ _⟩, su4_off HV.out.2.1 (by omega) _ _ _ _, su4_off HV.out.2.2 (by omega) _ _ _ _⟩
  replace HG : ∀ (l : Array Bool) v, SP w #[.int .i64 m, .int .i64 ba, .int .i64 la, .string bo] #[.int .i64 g, .int .i64 m', .int .i64 ba, .string bo] #[.int .i64 g, .int .i64 m', .int .i64 ba, .string bo] #[.int .i64 m, .int .i64 0, .int .i64 0, .string ⟨#[]⟩] undef v → l.getD 99 false = false → SC w #[.int .i64 m, .int .i64 ba, .int .i64 la, .string bo] #[.int .i64 g, .int .i64 m', .int .i64 ba, .string bo] v := fun _ _ h _ => h.2
  refine g_free (HG _) (i := 6) (v := ?_) rfl (by kernel_rfl) (by kernel_rfl) (by kernel_rfl) (by kernel_rfl) (fun _ _ _ h => h) (Still.yes (by kernel_rfl) fun w hS => ?_) ?_
  rotate_left 1
  · skip
    go_simp
    refine gives_mk ?_ rfl
    with_reducible rfl
  refine g_done (by kernel_rfl) ?_ _
  intro w6 hw6
  clear K0 K1 K2 K3 K4 HG
  obtain ⟨⟨hB, hU, hx6⟩, _⟩ := hw6
  have t0 := blk_cell hB 0 (.int .i64 g) rfl
  have t1 := blk_cell hB 1 (.int .i64 m') rfl
  have t2 := blk_cell hB 2 (.int .i64 ba) rfl
  have t3 := blk_cell hB 3 (.string bo) rfl
  have u0 := blk_cell hU 0 (.int .i64 m) rfl
  have u1 := blk_cell hU 1 (.int .i64 0) rfl
  have u2 := blk_cell hU 2 (.int .i64 0) rfl
  have u3 := blk_cell hU 3 (.string ⟨#[]⟩) rfl
  clear hB hU
  go_simp
  go_wp2
  refine bodyPost_ret (v := .tuple #[.agg #[.int .i64 g, .int .i64 m', .int .i64 ba, .string bo], .agg #[.int .i64 m, .int .i64 0, .int .i64 0, .string ⟨#[]⟩], .bool true]) (by simp [results, Try.results12, go_sem, t0, t1, t2, t3, u0, u1, u2, u3]) rfl ⟨rfl, hx6⟩
theorem bput_any (m ba la : Int) (bo : ByteArray) (t : Int) (k d : Int) (xs : List Int) (tx : ByteArray) (A : Option Addr) (c : Nat) (w : World) (hbz : bo.size ≤ 1000000) (hI : IntsAt w (.slice A xs.length c) xs) (hn : xs.length ≤ 1000) (htx : tx.size ≤ 1000000) :
    Calls Try.prog 10 #[.agg #[.int .i64 m, .int .i64 ba, .int .i64 la, .string bo], .int .i64 t, .agg #[.int .i64 k, .int .i64 d, .slice A xs.length c, .string tx]] w (BPut (Bu.put ⟨m, ba, la, bo⟩ t ⟨k, d, xs, tx⟩) w) := by
  have hez : ∀ dt, (Ev.enc ⟨k, dt, xs, tx⟩).size ≤ 140737488351300 := fun dt => by
    cases hm : Ev.may ⟨k, dt, xs, tx⟩ with
    | false => unfold Ev.enc; rw [hm]; exact Nat.zero_le _
    | true =>
      rw [Ev.enc_size hm]
      have := Ev.encL_le hm (by unfold Va.most; simp only; omega)
      simp only at this
      omega
  cases ht : Ev.ok t with
  | false => rw [Bu.put_no ht]; exact bput_no m ba la bo t k d xs tx A c w ht
  | true =>
    have h0 := Ev.ok_wi.1 ht
    unfold Wi.ok at h0
    by_cases hb : bo.size = 0
    · have e := Bu.put_empty (b := ⟨m, ba, la, bo⟩) (t := t) (e := ⟨k, d, xs, tx⟩) hb ht
      cases hm : Ev.may ⟨k, 0, xs, tx⟩ with
      | false => simp only [hm] at e; rw [e]; exact bput_bad0 m ba la bo t k d xs tx A c w h0.1 h0.2 hb hI (by omega) hm
      | true => simp only [hm] at e; rw [e]; exact bput_ok0 m ba la bo t k d xs tx A c w h0.1 h0.2 hb (by omega) hI (by omega) (by omega) hm _ _ rfl (hez 0) rfl
    · by_cases hl : la ≤ t
      · have e := Bu.put_more (b := ⟨m, ba, la, bo⟩) (t := t) (e := ⟨k, d, xs, tx⟩) hb ht hl
        simp only at e
        cases hm : Ev.may ⟨k, IntKind.i64.wrap (t - la), xs, tx⟩ with
        | false => simp only [hm] at e; rw [e]; exact bput_bad m ba la bo t k d xs tx A c w h0.1 h0.2 hb hl hI (by omega) _ rfl hm
        | true => simp only [hm] at e; rw [e]; exact bput_ok m ba la bo t k d xs tx A c w h0.1 h0.2 hb (by omega) hl hI (by omega) (by omega) _ rfl hm _ _ rfl (hez _) rfl
      · rw [Bu.put_early (b := ⟨m, ba, la, bo⟩) hb (by simp only; omega)]
        exact bput_early m ba la bo t k d xs tx A c w h0.1 h0.2 hb (by omega)
theorem bseal_any (m ba la : Int) (bo : ByteArray) (g : Int) (w : World) : Calls Try.prog 12 #[.agg #[.int .i64 m, .int .i64 ba, .int .i64 la, .string bo], .int .i64 g] w (BSeal (Bu.seal ⟨m, ba, la, bo⟩ g) w) := by
  unfold Bu.seal
  by_cases hb : bo.size = 0
  · rw [if_pos (.inl hb)]
    exact bseal_out m ba la bo g _ rfl w (.inl hb)
  · by_cases h1 : m < 1
    · rw [if_pos (.inr h1)]
      exact bseal_out m ba la bo g _ rfl w (.inr ⟨hb, h1⟩)
    · rw [if_neg (by simp only; omega)]
      cases hm : Bt.may ⟨g, IntKind.i64.wrap (m + 1), ba, bo⟩ with
      | false => simp only [hm]; exact bseal_bad m ba la bo g _ rfl w hb (by omega) hm
      | true => simp only [hm]; exact bseal_ok m ba la bo g _ rfl w hb (by omega) hm
theorem bput_k (m ba la : Int) (bo : ByteArray) (t : Int) (k d : Int) (xs : List Int) (tx : ByteArray) (m' ba' la' : Int) (bo' : ByteArray) (ok : Bool) (h : Bu.put ⟨m, ba, la, bo⟩ t ⟨k, d, xs, tx⟩ = (⟨m', ba', la', bo'⟩, ok)) (A : Option Addr) (c : Nat) (w : World) (hbz : bo.size ≤ 1000000) (hI : IntsAt w (.slice A xs.length c) xs) (hn : xs.length ≤ 1000) (htx : tx.size ≤ 1000000) :
    Calls Try.prog 10 #[.agg #[.int .i64 m, .int .i64 ba, .int .i64 la, .string bo], .int .i64 t, .agg #[.int .i64 k, .int .i64 d, .slice A xs.length c, .string tx]] w fun r w' => r = .returned (.tuple #[.agg #[.int .i64 m', .int .i64 ba', .int .i64 la', .string bo'], .bool ok]) ∧ Ext w w' := by
  have := bput_any m ba la bo t k d xs tx A c w hbz hI hn htx
  rw [h] at this
  exact this
theorem bseal_k (m ba la : Int) (bo : ByteArray) (g : Int) (g' s' b' : Int) (x' : ByteArray) (m' ba' la' : Int) (bo' : ByteArray) (ok : Bool) (h : Bu.seal ⟨m, ba, la, bo⟩ g = (⟨g', s', b', x'⟩, ⟨m', ba', la', bo'⟩, ok)) (w : World) :
    Calls Try.prog 12 #[.agg #[.int .i64 m, .int .i64 ba, .int .i64 la, .string bo], .int .i64 g] w fun r w' => r = .returned (.tuple #[.agg #[.int .i64 g', .int .i64 s', .int .i64 b', .string x'], .agg #[.int .i64 m', .int .i64 ba', .int .i64 la', .string bo'], .bool ok]) ∧ Ext w w' := by
  have := bseal_any m ba la bo g w
  rw [h] at this
  exact this
theorem Bu.E0 : Ev.may ⟨8, 0, [], ⟨#[]⟩⟩ = true ∧ Ev.enc ⟨8, 0, [], ⟨#[]⟩⟩ = ⟨#[8, 0]⟩ := Ev.enc_of_dec (L := [8, 0]) (by kernel_rfl)
theorem Bu.E5 : Ev.may ⟨8, 5, [], ⟨#[]⟩⟩ = true ∧ Ev.enc ⟨8, 5, [], ⟨#[]⟩⟩ = ⟨#[8, 5]⟩ := Ev.enc_of_dec (L := [8, 5]) (by kernel_rfl)
theorem Bu.F1 : Bu.put ⟨1, 0, 0, ⟨#[]⟩⟩ 100 ⟨8, 0, [], ⟨#[]⟩⟩ = (⟨1, 100, 100, ⟨#[8, 0]⟩⟩, true) := by
  rw [Bu.put_empty rfl (by decide)]
  simp only [Bu.E0.1, Bu.E0.2, if_true]
  rfl
theorem Bu.F2 : Bu.put ⟨1, 100, 100, ⟨#[8, 0]⟩⟩ 105 ⟨8, 0, [], ⟨#[]⟩⟩ = (⟨1, 100, 105, ⟨#[8, 0, 8, 5]⟩⟩, true) := by
  rw [Bu.put_more (by decide) (by decide) (by decide)]
  have hw : IntKind.i64.wrap (105 - 100) = 5 := by rfl
  simp only [hw, Bu.E5.1, Bu.E5.2, if_true]
  rfl
theorem Bu.F3 : Bu.put ⟨1, 100, 105, ⟨#[8, 0, 8, 5]⟩⟩ 104 ⟨8, 0, [], ⟨#[]⟩⟩ = (⟨0, 0, 0, ⟨#[]⟩⟩, false) := Bu.put_early (by decide) (by decide)
theorem Bu.F4 : Bu.seal ⟨1, 100, 105, ⟨#[8, 0, 8, 5]⟩⟩ 3 = (⟨3, 2, 100, ⟨#[8, 0, 8, 5]⟩⟩, ⟨1, 0, 0, ⟨#[]⟩⟩, true) := by kernel_rfl
theorem Bu.F5 : Bu.seal ⟨1, 0, 0, ⟨#[]⟩⟩ 3 = (⟨0, 0, 0, ⟨#[]⟩⟩, ⟨0, 0, 0, ⟨#[]⟩⟩, false) := by kernel_rfl
def C4' (x : Nat) (g st ba : Int) (bo : ByteArray) (v : World) : Prop := v.cell? ⟨x, 0, none⟩ = some (.int .i64 g) ∧ v.cell? ⟨x, 1, none⟩ = some (.int .i64 st) ∧ v.cell? ⟨x, 2, none⟩ = some (.int .i64 ba) ∧ v.cell? ⟨x, 3, none⟩ = some (.string bo)
theorem ints_no (w : World) : IntsAt w (.slice none 0 0) [] := ⟨none, 0, rfl, fun h => by simp at h⟩
theorem bfull_eq (m ba la : Int) (bo : ByteArray) (n : Int) (r : Bool) (h : decide (n ≤ (bo.size : Int)) = r) (w : World) : Calls Try.prog 14 #[.agg #[.int .i64 m, .int .i64 ba, .int .i64 la, .string bo], .int .i64 n] w fun x w' => x = .returned (.bool r) ∧ Ext w w' := by
  subst h; exact bfull_any m ba la bo n w
set_option maxRecDepth 100000 in
set_option maxHeartbeats 4000000 in
theorem ufixed_gen (b2 b4 : ByteArray) (F1 : Bu.put ⟨1, 0, 0, ⟨#[]⟩⟩ 100 ⟨8, 0, [], ⟨#[]⟩⟩ = (⟨1, 100, 100, b2⟩, true)) (F2 : Bu.put ⟨1, 100, 100, b2⟩ 105 ⟨8, 0, [], ⟨#[]⟩⟩ = (⟨1, 100, 105, b4⟩, true)) (F3 : Bu.put ⟨1, 100, 105, b4⟩ 104 ⟨8, 0, [], ⟨#[]⟩⟩ = (⟨0, 0, 0, ⟨#[]⟩⟩, false))
    (F4 : Bu.seal ⟨1, 100, 105, b4⟩ 3 = (⟨3, 2, 100, b4⟩, ⟨1, 0, 0, ⟨#[]⟩⟩, true)) (h2 : b2.size = 2) (h4 : b4.size = 4) (hb4 : b4.toList = [8, 0, 8, 5]) (w : World) : Calls Try.prog 9 #[] w fun e w' => e = .returned (.bool true) ∧ Ext w w' := by
  have G1 := Lib.hid F1
  have G2 := Lib.hid F2
  have G3 := Lib.hid F3
  have G4 := Lib.hid F4
  have H2 := Lib.hid h2
  have H4 := Lib.hid h4
  have HB4 := Lib.hid hb4
  clear F1 F2 F3 F4 h2 h4 hb4
  go_enter Try.func9, Try.ntmps9
  go_wp2_with fail
  refine (bput_k 1 0 0 _ 100 8 0 [] _ _ _ _ _ _ G1.out none 0 _ (by decide) (ints_no _) (by simp) (by decide)).mono ?_
  rintro r w1 ⟨rfl, hx1⟩
  go_wp2_with fail
  refine (bput_k 1 100 100 _ 105 8 0 [] _ _ _ _ _ _ G2.out none 0 _ (by have := H2.out; omega) (ints_no _) (by simp) (by decide)).mono ?_
  rintro r w2 ⟨rfl, hx2⟩
  go_wp2_with fail
  refine (bput_k 1 100 105 _ 104 8 0 [] _ _ _ _ _ _ G3.out none 0 _ (by have := H4.out; omega) (ints_no _) (by simp) (by decide)).mono ?_
  rintro r w3 ⟨rfl, hx3⟩
  have HX1 := Lib.hid hx1
  have HX2 := Lib.hid hx2
  have HB3 : Hid (Ext (w2.alloc (.cells #[.int .i64 1, .int .i64 100, .int .i64 105, .string b4] 23)) (w3.alloc (.cells #[.int .i64 0, .int .i64 0, .int .i64 0, .string ⟨#[]⟩] 23))) := Lib.hid (hx3.alloc _)
  clear hx1 hx2 hx3
  obtain ⟨b0, b1, b2', b3⟩ : C4' w2.heap.size 1 100 105 b4 (w3.alloc (.cells #[.int .i64 0, .int .i64 0, .int .i64 0, .string ⟨#[]⟩] 23)) := ⟨Ext.box HB3.out 0 (.int .i64 1) rfl, Ext.box HB3.out 1 (.int .i64 100) rfl, Ext.box HB3.out 2 (.int .i64 105) rfl, Ext.box HB3.out 3 (.string b4) rfl⟩
  go_wp2_with fail
  refine (bseal_k 1 100 105 b4 3 _ _ _ _ _ _ _ _ _ G4.out _).mono ?_
  rintro r w4 ⟨rfl, hx4⟩
  have HX4 := Lib.hid hx4
  clear b0 b1 b2' b3 hx4
  go_wp2_with fail
  refine (bseal_k 1 0 0 _ 3 _ _ _ _ _ _ _ _ _ Bu.F5 _).mono ?_
  rintro r w5 ⟨rfl, hx5⟩
  have HC : Hid (Ext ((w4.alloc (.cells #[.int .i64 3, .int .i64 2, .int .i64 100, .string b4] 35)).alloc (.cells #[.int .i64 1, .int .i64 0, .int .i64 0, .string ⟨#[]⟩] 23)) ((w5.alloc (.cells #[.int .i64 0, .int .i64 0, .int .i64 0, .string ⟨#[]⟩] 35)).alloc (.cells #[.int .i64 0, .int .i64 0, .int .i64 0, .string ⟨#[]⟩] 23))) := Lib.hid ((hx5.alloc _).alloc _)
  clear hx5
  have HXX : Hid (Ext (w4.alloc (.cells #[.int .i64 3, .int .i64 2, .int .i64 100, .string b4] 35)) ((w5.alloc (.cells #[.int .i64 0, .int .i64 0, .int .i64 0, .string ⟨#[]⟩] 35)).alloc (.cells #[.int .i64 0, .int .i64 0, .int .i64 0, .string ⟨#[]⟩] 23))) := Lib.hid (((Ext.refl _).alloc _).trans HC.out)
  have HBB : Hid (Ext (w2.alloc (.cells #[.int .i64 1, .int .i64 100, .int .i64 105, .string b4] 23)) ((w5.alloc (.cells #[.int .i64 0, .int .i64 0, .int .i64 0, .string ⟨#[]⟩] 35)).alloc (.cells #[.int .i64 0, .int .i64 0, .int .i64 0, .string ⟨#[]⟩] 23))) := Lib.hid (HB3.out.trans (HX4.out.trans (((Ext.refl w4).alloc _).trans HXX.out)))
  have b0 := Ext.box HBB.out 0 (.int .i64 1) rfl
  have b1 := Ext.box HBB.out 1 (.int .i64 100) rfl
  have b2' := Ext.box HBB.out 2 (.int .i64 105) rfl
  have b3 := Ext.box HBB.out 3 (.string b4) rfl
  have x0 := Ext.box HXX.out 0 (.int .i64 3) rfl
  have x1 := Ext.box HXX.out 1 (.int .i64 2) rfl
  have x2 := Ext.box HXX.out 2 (.int .i64 100) rfl
  have x3 := Ext.box HXX.out 3 (.string b4) rfl
  have c0 := Ext.box HC.out 0 (.int .i64 1) rfl
  have c1 := Ext.box HC.out 1 (.int .i64 0) rfl
  have c2 := Ext.box HC.out 2 (.int .i64 0) rfl
  have c3 := Ext.box HC.out 3 (.string ⟨#[]⟩) rfl
  rw [World.size_alloc] at c0 c1 c2 c3
  have hb4 := HB4.out
  go_wp2_with fail
  refine (bfull_eq 1 100 105 b4 4 true (by rw [H4.out]; rfl) _).mono ?_
  rintro r w6 ⟨rfl, hx6⟩
  have HW6 := Lib.hid (HBB.out.trans hx6)
  clear b0 b1 b2' b3 x0 x1 x2 x3 c0 c1 c2 c3 hx6
  have b0 := Ext.box HW6.out 0 (.int .i64 1) rfl
  have b1 := Ext.box HW6.out 1 (.int .i64 100) rfl
  have b2' := Ext.box HW6.out 2 (.int .i64 105) rfl
  have b3 := Ext.box HW6.out 3 (.string b4) rfl
  go_wp2_with fail
  refine (bfull_eq 1 100 105 b4 5 false (by rw [H4.out]; rfl) _).mono ?_
  rintro r w7 ⟨rfl, hx7⟩
  go_wp2
  go_ret
  exact ⟨rfl, HX1.out.trans (((Ext.refl w1).alloc _).trans (HX2.out.trans (((Ext.refl w2).alloc _).trans (HW6.out.trans hx7))))⟩
theorem ufixed_yes (w : World) : Calls Try.prog 9 #[] w fun e w' => e = .returned (.bool true) ∧ Ext w w' :=
  ufixed_gen ⟨#[8, 0]⟩ ⟨#[8, 0, 8, 5]⟩ Bu.F1 Bu.F2 Bu.F3 Bu.F4 rfl rfl (by rw [ByteArray.toList_eq]) w
theorem Bu.seal_two (m ba la : Int) (bo : ByteArray) (g : Int) : Bu.seal ⟨m, ba, la, bo⟩ g = (⟨0, 0, 0, ⟨#[]⟩⟩, ⟨0, 0, 0, ⟨#[]⟩⟩, false) ∨ ∃ s, Bu.seal ⟨m, ba, la, bo⟩ g = (⟨g, s, ba, bo⟩, ⟨m, 0, 0, ⟨#[]⟩⟩, true) := by
  unfold Bu.seal
  split
  · exact .inl rfl
  · split
    · exact .inr ⟨_, rfl⟩
    · exact .inl rfl
theorem C4'.of {x : Nat} {g st ba : Int} {bo : ByteArray} {wx v : World} (h : wx.heap[x]? = some (.cells #[.int .i64 g, .int .i64 st, .int .i64 ba, .string bo] 23 (0, 0))) (hv : Ext wx v) : C4' x g st ba bo v :=
  ⟨blk_cell (hv.blk h) 0 _ rfl, blk_cell (hv.blk h) 1 _ rfl, blk_cell (hv.blk h) 2 _ rfl, blk_cell (hv.blk h) 3 _ rfl⟩
set_option maxRecDepth 100000 in
set_option maxHeartbeats 1000000 in
theorem ufull_out (m ba la : Int) (bo : ByteArray) (g : Int) (w : World) (hbo : bo.size ≤ maxLen) (h1 : 3000 < bo.size) :
    Calls Try.prog 6 #[.agg #[.int .i64 m, .int .i64 ba, .int .i64 la, .string bo], .int .i64 g] w fun e w' => e = .returned (.bool true) ∧ Ext w w' := by
  unfold maxLen at hbo
  have HA : Hid (∀ v, Ext (w.alloc (.cells #[.int .i64 m, .int .i64 ba, .int .i64 la, .string bo] 23)) v → C4' w.heap.size m ba la bo v) := Lib.hid fun v hv => C4'.of (blk_new w _) hv
  go_enter Try.func6, Try.ntmps6
  go_wp2_with fail
  refine (ufixed_yes _).mono ?_
  rintro r w1 ⟨rfl, hx1⟩
  obtain ⟨a0, a1, a2, a3⟩ := HA.out _ hx1
  go_wp2_with fail
  refine (ufixed_yes _).mono ?_
  rintro r w2 ⟨rfl, hx2⟩
  go_wp2
  go_ret
  exact ⟨rfl, ((Ext.refl w).alloc _).trans (hx1.trans hx2)⟩
set_option maxRecDepth 100000 in
set_option maxHeartbeats 1000000 in
theorem ufull_no (m ba la : Int) (bo : ByteArray) (g : Int) (w : World) (h1 : bo.size ≤ 3000) (hs : Bu.seal ⟨m, ba, la, bo⟩ g = (⟨0, 0, 0, ⟨#[]⟩⟩, ⟨0, 0, 0, ⟨#[]⟩⟩, false)) :
    Calls Try.prog 6 #[.agg #[.int .i64 m, .int .i64 ba, .int .i64 la, .string bo], .int .i64 g] w fun e w' => e = .returned (.bool true) ∧ Ext w w' := by
  have HS := Lib.hid hs
  clear hs
  have hf1 : decide ((bo.size : Int) + 1 ≤ (bo.size : Int)) = false := by simp; omega
  have hf2 : decide ((bo.size : Int) ≤ (bo.size : Int)) = true := by simp
  have HF1 := Lib.hid hf1
  have HF2 := Lib.hid hf2
  clear hf1 hf2
  have HA : Hid (∀ v, Ext (w.alloc (.cells #[.int .i64 m, .int .i64 ba, .int .i64 la, .string bo] 23)) v → C4' w.heap.size m ba la bo v) := Lib.hid fun v hv => C4'.of (blk_new w _) hv
  go_enter Try.func6, Try.ntmps6
  go_wp2_with fail
  refine (ufixed_yes _).mono ?_
  rintro r w1 ⟨rfl, hx1⟩
  have HX1 := Lib.hid hx1
  clear hx1
  obtain ⟨a0, a1, a2, a3⟩ := HA.out _ HX1.out
  go_wp2_with fail
  refine (bseal_k m ba la bo g _ _ _ _ _ _ _ _ _ HS.out _).mono ?_
  rintro r w2 ⟨rfl, hx2⟩
  have HX2 := Lib.hid ((HX1.out.trans hx2).alloc (.cells #[.int .i64 0, .int .i64 0, .int .i64 0, .string ⟨#[]⟩] 35) |>.alloc (.cells #[.int .i64 0, .int .i64 0, .int .i64 0, .string ⟨#[]⟩] 23))
  clear a0 a1 a2 a3 hx2
  obtain ⟨a0, a1, a2, a3⟩ := HA.out _ HX2.out
  go_wp2_with fail
  refine (bfull_eq m ba la bo _ false HF1.out _).mono ?_
  rintro r w3 ⟨rfl, hx3⟩
  have HX3 := Lib.hid (HX2.out.trans hx3)
  clear a0 a1 a2 a3 hx3
  obtain ⟨a0, a1, a2, a3⟩ := HA.out _ HX3.out
  go_wp2_with fail
  refine (bfull_eq m ba la bo _ true HF2.out _).mono ?_
  rintro r w4 ⟨rfl, hx4⟩
  go_wp2
  go_ret
  exact ⟨rfl, ((Ext.refl w).alloc _).trans (HX3.out.trans hx4)⟩
set_option maxRecDepth 100000 in
set_option maxHeartbeats 1000000 in
theorem ufull_ok (m ba la : Int) (bo : ByteArray) (g s : Int) (w : World) (h1 : bo.size ≤ 3000) (hs : Bu.seal ⟨m, ba, la, bo⟩ g = (⟨g, s, ba, bo⟩, ⟨m, 0, 0, ⟨#[]⟩⟩, true)) :
    Calls Try.prog 6 #[.agg #[.int .i64 m, .int .i64 ba, .int .i64 la, .string bo], .int .i64 g] w fun e w' => e = .returned (.bool true) ∧ Ext w w' := by
  have HS := Lib.hid hs
  clear hs
  have hf1 : decide ((bo.size : Int) + 1 ≤ (bo.size : Int)) = false := by simp; omega
  have hf2 : decide ((bo.size : Int) ≤ (bo.size : Int)) = true := by simp
  have HF1 := Lib.hid hf1
  have HF2 := Lib.hid hf2
  clear hf1 hf2
  have HA : Hid (∀ v, Ext (w.alloc (.cells #[.int .i64 m, .int .i64 ba, .int .i64 la, .string bo] 23)) v → C4' w.heap.size m ba la bo v) := Lib.hid fun v hv => C4'.of (blk_new w _) hv
  go_enter Try.func6, Try.ntmps6
  go_wp2_with fail
  refine (ufixed_yes _).mono ?_
  rintro r w1 ⟨rfl, hx1⟩
  have HX1 := Lib.hid hx1
  clear hx1
  obtain ⟨a0, a1, a2, a3⟩ := HA.out _ HX1.out
  go_wp2_with fail
  refine (bseal_k m ba la bo g _ _ _ _ _ _ _ _ _ HS.out _).mono ?_
  rintro r w2 ⟨rfl, hx2⟩
  have HX2 := Lib.hid ((HX1.out.trans hx2).alloc (.cells #[.int .i64 g, .int .i64 s, .int .i64 ba, .string bo] 35) |>.alloc (.cells #[.int .i64 m, .int .i64 0, .int .i64 0, .string ⟨#[]⟩] 23))
  clear a0 a1 a2 a3 hx2
  obtain ⟨a0, a1, a2, a3⟩ := HA.out _ HX2.out
  go_wp2_with fail
  refine (bfull_eq m ba la bo _ false HF1.out _).mono ?_
  rintro r w3 ⟨rfl, hx3⟩
  have HX3 := Lib.hid (HX2.out.trans hx3)
  have HC3 := Lib.hid hx3
  clear a0 a1 a2 a3 hx3
  obtain ⟨a0, a1, a2, a3⟩ := HA.out _ HX3.out
  go_wp2_with fail
  refine (bfull_eq m ba la bo _ true HF2.out _).mono ?_
  rintro r w4 ⟨rfl, hx4⟩
  have HX4 := Lib.hid (HX3.out.trans hx4)
  have HC4 : Hid (Ext ((w2.alloc (.cells #[.int .i64 g, .int .i64 s, .int .i64 ba, .string bo] 35)).alloc (.cells #[.int .i64 m, .int .i64 0, .int .i64 0, .string ⟨#[]⟩] 23)) w4) := Lib.hid (HC3.out.trans hx4)
  have HD4 : Hid (Ext (w2.alloc (.cells #[.int .i64 g, .int .i64 s, .int .i64 ba, .string bo] 35)) w4) := Lib.hid (((Ext.refl _).alloc _).trans HC4.out)
  clear a0 a1 a2 a3 hx4
  have c0 := Ext.box HC4.out 0 (.int .i64 m) rfl
  have c1 := Ext.box HC4.out 1 (.int .i64 0) rfl
  have c2 := Ext.box HC4.out 2 (.int .i64 0) rfl
  have c3 := Ext.box HC4.out 3 (.string ⟨#[]⟩) rfl
  rw [World.size_alloc] at c0 c1 c2 c3
  go_wp2_with fail
  refine (bfull_eq m 0 0 _ 1 false rfl _).mono ?_
  rintro r w5 ⟨rfl, hx5⟩
  clear c0 c1 c2 c3
  obtain ⟨a0, a1, a2, a3⟩ := HA.out _ (HX4.out.trans hx5)
  have x0 := Ext.box (HD4.out.trans hx5) 0 (.int .i64 g) rfl
  have x1 := Ext.box (HD4.out.trans hx5) 1 (.int .i64 s) rfl
  have x2 := Ext.box (HD4.out.trans hx5) 2 (.int .i64 ba) rfl
  have x3 := Ext.box (HD4.out.trans hx5) 3 (.string bo) rfl
  go_wp2
  go_ret
  exact ⟨by simp, ((Ext.refl w).alloc _).trans (HX4.out.trans hx5)⟩
theorem walk_BufFull (b : Bt) (g : Int) (w : World) (hb : BtIn b) (_ : (Lit.int .i64 g).wf = true) :
    Calls Try.prog 6 #[b.val, .int .i64 g] w fun e w' => e = .returned (.bool true) ∧ Ext w w' := by
  obtain ⟨m, ba, la, bo⟩ := b
  by_cases h1 : bo.size ≤ 3000
  · rcases Bu.seal_two m ba la bo g with hs | ⟨s, hs⟩
    · exact ufull_no m ba la bo g w h1 hs
    · exact ufull_ok m ba la bo g s w h1 hs
  · exact ufull_out m ba la bo g w hb.1 (by omega)
def Ev.bare (e : Ev) : Int × List Int × ByteArray := (e.kind, e.args, e.text)
theorem Bt.sum_snoc (l : List Ev) (e : Ev) : Bt.sum (l ++ [e]) = Bt.sum l + e.dt := by simp [Bt.sum]
theorem Bt.scan_snoc : ∀ (now : Int) (l : List Ev) (e : Ev), Bt.scan now (l ++ [e]) = Bt.scan now l ++ [now + Bt.sum l + e.dt]
  | now, [], e => by simp [Bt.scan, Bt.sum]
  | now, x :: l, e => by
    simp only [List.cons_append, Bt.scan, Bt.sum_cons]
    rw [Bt.scan_snoc (now + x.dt) l e, show now + x.dt + Bt.sum l = now + (x.dt + Bt.sum l) by omega]
theorem Ev.catL_ge : ∀ m : List Ev, m.length ≤ (Ev.catL m).length
  | [] => Nat.le_refl _
  | e :: l => by
    have h1 := Ev.catL_ge l
    have e1 : Ev.catL (e :: l) = e.encL ++ Ev.catL l := by simp [Ev.catL]
    rw [e1, List.length_append, List.length_cons]
    have : 0 < e.encL.length := by unfold Ev.encL; simp
    omega
/-- A buffer into which the first j events have been put. -/
structure Bu.After (ts : List Int) (l : List Ev) (j : Nat) (ba la : Int) (bo : ByteArray) (ms : List Ev) : Prop where
  body : bo = Ev.cats ms
  evs : ∀ e ∈ ms, e.may = true ∧ Ev.short1 e = true
  bare : ms.map Ev.bare = (l.take j).map Ev.bare
  times : Bt.scan ba ms = ts.take j
  last : la = ba + Bt.sum ms
  okb : Ev.ok ba = true
  okl : Ev.ok la = true
theorem Bu.After.start (ts : List Int) (l : List Ev) : Bu.After ts l 0 0 0 ⟨#[]⟩ [] := ⟨rfl, by simp, by simp, by simp [Bt.scan], by simp [Bt.sum], by decide, by decide⟩
theorem Bu.After.len {ts : List Int} {l : List Ev} {j : Nat} {ba la : Int} {bo : ByteArray} {ms : List Ev} (h : Bu.After ts l j ba la bo ms) (hj : j ≤ l.length) : ms.length = j := by
  have := congrArg List.length h.bare
  simp at this
  omega
theorem Bu.After.size {ts : List Int} {l : List Ev} {j : Nat} {ba la : Int} {bo : ByteArray} {ms : List Ev} (h : Bu.After ts l j ba la bo ms) (hj : j ≤ l.length) : j ≤ bo.size ∧ bo.size ≤ 500 * j := by
  have h1 := h.len hj
  have h2 := Ev.catL_le ms h.evs
  have h3 := Ev.catL_ge ms
  rw [h.body, Ev.cats_size]
  omega
theorem Bu.After.step {ts : List Int} {l : List Ev} {j : Nat} {ba la : Int} {bo : ByteArray} {ms : List Ev} (h : Bu.After ts l j ba la bo ms) (hj : j ≤ l.length) {k d : Int} {xs : List Int} {tx : ByteArray} {t : Int}
    (hl : l.take (j + 1) = l.take j ++ [⟨k, d, xs, tx⟩]) (ht : ts.take (j + 1) = ts.take j ++ [t]) (hs : Ev.short1 ⟨k, d, xs, tx⟩ = true) {m m' ba' la' : Int} {bo' : ByteArray} (hp : Bu.put ⟨m, ba, la, bo⟩ t ⟨k, d, xs, tx⟩ = (⟨m', ba', la', bo'⟩, true)) :
    m' = m ∧ ∃ ms', Bu.After ts l (j + 1) ba' la' bo' ms' := by
  have hlen := h.len hj
  have hsz := h.size hj
  have hshort : ∀ dt, Ev.short1 ⟨k, dt, xs, tx⟩ = true := fun dt => by have := hs; unfold Ev.short1 at this ⊢; exact this
  cases hto : Ev.ok t with
  | false => rw [Bu.put_no hto] at hp; simp at hp
  | true =>
    have h0 := Ev.ok_wi.1 hto
    have h1 := Ev.ok_wi.1 h.okl
    unfold Wi.ok at h0 h1
    by_cases hb : bo.size = 0
    · have hj0 : j = 0 := by omega
      have hms : ms = [] := List.eq_nil_of_length_eq_zero (by omega)
      subst hms
      have e := Bu.put_empty (b := ⟨m, ba, la, bo⟩) (t := t) (e := ⟨k, d, xs, tx⟩) hb hto
      simp only at e
      rw [e] at hp
      cases hm : Ev.may ⟨k, 0, xs, tx⟩ with
      | false => rw [hm] at hp; simp at hp
      | true =>
        rw [hm] at hp
        simp only [if_true, Prod.mk.injEq, Bu.mk.injEq, and_true] at hp
        obtain ⟨rfl, rfl, rfl, rfl⟩ := hp
        refine ⟨rfl, [⟨k, 0, xs, tx⟩], ?_⟩
        refine ⟨?_, ?_, ?_, ?_, ?_, hto, hto⟩
        · rw [h.body]; exact Ev.cats_snoc [] hm
        · intro e he; simp at he; subst he; exact ⟨hm, hshort _⟩
        · rw [hl, hj0]; simp [Ev.bare]
        · rw [ht, hj0]; simp [Bt.scan]
        · simp [Bt.sum]
    · by_cases hle : la ≤ t
      · have hw : IntKind.i64.wrap (t - la) = t - la := IntWalk.i64_in _ (by omega)
        have e := Bu.put_more (b := ⟨m, ba, la, bo⟩) (t := t) (e := ⟨k, d, xs, tx⟩) hb hto hle
        simp only [hw] at e
        rw [e] at hp
        cases hm : Ev.may ⟨k, t - la, xs, tx⟩ with
        | false => rw [hm] at hp; simp at hp
        | true =>
          rw [hm] at hp
          simp only [if_true, Prod.mk.injEq, Bu.mk.injEq, and_true] at hp
          obtain ⟨rfl, rfl, rfl, rfl⟩ := hp
          refine ⟨rfl, ms ++ [⟨k, t - la, xs, tx⟩], ?_⟩
          refine ⟨?_, ?_, ?_, ?_, ?_, h.okb, hto⟩
          · rw [h.body]; exact Ev.cats_snoc ms hm
          · intro e he
            rcases List.mem_append.1 he with he | he
            · exact h.evs e he
            · simp at he; subst he; exact ⟨hm, hshort _⟩
          · rw [hl, List.map_append, List.map_append, h.bare]; simp [Ev.bare]
          · rw [ht, Bt.scan_snoc, h.times, ← h.last]
            simp only
            rw [show la + (t - la) = t by omega]
          · rw [Bt.sum_snoc]; have := h.last; simp only; omega
      · rw [Bu.put_early (b := ⟨m, ba, la, bo⟩) hb (by simp only; omega)] at hp
        simp at hp
theorem Bu.After.events {ts : List Int} {l : List Ev} {ba la : Int} {bo : ByteArray} {ms : List Ev} (h : Bu.After ts l l.length ba la bo ms) (hl : ts.length = l.length) (h60 : l.length ≤ 60) {m : Int} (h1 : 1 ≤ m) (h2 : m ≤ 1000) (h0 : l.length ≠ 0) :
    Bu.seal ⟨m, ba, la, bo⟩ 1 = (⟨1, m + 1, ba, bo⟩, ⟨m, 0, 0, ⟨#[]⟩⟩, true) ∧ Bt.events ⟨1, m + 1, ba, bo⟩ = (ms, ts, 0, 0) ∧ ms.map Ev.bare = l.map Ev.bare ∧ ms.length = l.length := by
  have hlen := h.len (Nat.le_refl _)
  have hsz := h.size (Nat.le_refl _)
  have hw : IntKind.i64.wrap (m + 1) = m + 1 := IntWalk.i64_in _ (by omega)
  have hmay : Bt.may ⟨1, m + 1, ba, bo⟩ = true := by
    unfold Bt.may
    have k1 : Ev.ok 1 = true := by decide
    have k2 : Ev.ok (m + 1) = true := Ev.ok_wi.2 (by unfold Wi.ok; omega)
    simp only [k1, k2, h.okb]
    simp
    omega
  have hbare := h.bare
  have htimes := h.times
  rw [List.take_length] at hbare
  rw [← hl, List.take_length] at htimes
  refine ⟨?_, ?_, hbare, hlen⟩
  · unfold Bu.seal
    rw [if_neg (by simp only; omega)]
    simp only [hw, hmay, if_true]
  · unfold Bt.events
    rw [if_pos hmay]
    simp only
    have hd : bo.data.toList = Ev.catL ms ++ [] := by rw [h.body, Ev.cats_data, List.append_nil]
    have hz : (Ev.catL ms).length = bo.size := by rw [h.body, Ev.cats_size]
    have hb1 := Ev.ok_wi.1 h.okb
    have hl1 := Ev.ok_wi.1 h.okl
    have hla := h.last
    unfold Wi.ok at hb1 hl1
    have hf : bo.size + 1 = ms.length + ((bo.size - ms.length) + 1) := by omega
    rw [hf]
    rcases Bt.run_list bo ms ((bo.size - ms.length) + 1) ba 0 [] (fun e he => ⟨(h.evs e he).1, by have := (h.evs e he).2; unfold Ev.short1 at this; simp at this; unfold Va.most; omega⟩) (by rw [List.drop_zero, hd]) with h3 | ⟨_, h3⟩
    · rw [h3]
      have hr : Bt.run bo ((bo.size - ms.length) + 1) (ba + Bt.sum ms) (0 + (Ev.catL ms).length) = ([], [], 0, 0) := by
        unfold Bt.run
        rw [if_pos (by omega)]
      rw [hr, htimes]
      simp [Bt.comb]
    · exact absurd ⟨by omega, by omega⟩ h3
theorem Bu.After.empty {ts : List Int} {l : List Ev} {ba la : Int} {bo : ByteArray} {ms : List Ev} (h : Bu.After ts l l.length ba la bo ms) (h0 : l.length = 0) (m : Int) :
    Bu.seal ⟨m, ba, la, bo⟩ 1 = (Bt.zero, Bu.zero, false) := by
  have hsz := h.size (Nat.le_refl _)
  unfold Bu.seal
  rw [if_pos (.inl (by simp only; omega))]
/-- Of two lists that are alike but for the times: the events at a place. -/
theorem Ev.bare_at {ms l : List Ev} (h : ms.map Ev.bare = l.map Ev.bare) (j : Nat) (h1 : j < ms.length) (h2 : j < l.length) : l[j].kind = ms[j].kind ∧ l[j].args = ms[j].args ∧ l[j].text = ms[j].text := by
  have h3 : (ms.map Ev.bare)[j]? = (l.map Ev.bare)[j]? := by rw [h]
  rw [List.getElem?_map, List.getElem?_map, List.getElem?_eq_getElem h1, List.getElem?_eq_getElem h2] at h3
  simp [Ev.bare] at h3
  exact ⟨h3.1.symm, h3.2.1.symm, h3.2.2.symm⟩
theorem uset4_at {v : World} {x : Nat} {c0 c1 c2 c3 : Value} {t : TypeId} (h : v.heap[x]? = some (.cells #[c0, c1, c2, c3] t (0, 0))) (d0 d1 d2 d3 : Value) :
    ((((v.setCell ⟨x, 0, none⟩ d0).setCell ⟨x, 1, none⟩ d1).setCell ⟨x, 2, none⟩ d2).setCell ⟨x, 3, none⟩ d3).heap[x]? = some (.cells #[d0, d1, d2, d3] t (0, 0)) :=
  blk_set (blk_set (blk_set (blk_set h 0 d0) 1 d1) 2 d2) 3 d3
theorem uset4_ext {W v : World} {x : Nat} (h : Ext W v) (hx : W.heap.size ≤ x) (d0 d1 d2 d3 : Value) :
    Ext W ((((v.setCell ⟨x, 0, none⟩ d0).setCell ⟨x, 1, none⟩ d1).setCell ⟨x, 2, none⟩ d2).setCell ⟨x, 3, none⟩ d3) :=
  (((h.setCell hx _).setCell hx _).setCell hx _).setCell hx _
theorem rbevents_eq (g st ba : Int) (bo : ByteArray) (l : List Ev) (ts : List Int) (p q : Nat) (h : Bt.events ⟨g, st, ba, bo⟩ = (l, ts, p, q)) (w : World) :
    Calls Try.prog 15 #[.agg #[.int .i64 g, .int .i64 st, .int .i64 ba, .string bo]] w fun r w' => ∃ A c A' c', r = .returned (.tuple #[.slice A l.length c, .slice A' ts.length c', .int .i64 (p : Int), .int .i64 (q : Int)]) ∧ EvsAt w' (.slice A l.length c) l ∧ IntsAt w' (.slice A' ts.length c') ts ∧ Ext w w' := by
  refine (rbevents_any g st ba bo w).mono ?_
  rw [h]
  rintro r w' ⟨ev, tv, rfl, hev, htv, hx, _⟩
  have h1 := hev
  have h2 := htv
  obtain ⟨A, c, rfl, _⟩ := h1
  obtain ⟨A', c', rfl, _⟩ := h2
  exact ⟨A, c, A', c', rfl, hev, htv, hx⟩
theorem rints_self (v u : Value) (xs : List Int) (w : World) (h : IntsAt w v xs) (k : IntsAt w u xs) (hn : xs.length ≤ 9223372036854775807) :
    Calls Try.prog 16 #[v, u] w fun e w' => e = .returned (.bool true) ∧ Ext w w' := rints_eq v u xs xs true (decide_eq_true rfl) w h k hn
theorem short_eq2 (v : Value) (l : List Ev) (b : Bool) (hb : Ev.short l = b) (w : World) (h : EvsAt w v l) (hn : l.length ≤ 9223372036854775807) :
    Calls Try.prog 8 #[v] w fun e w' => e = .returned (.bool b) ∧ w = w' := by subst hb; exact short_any v l w h hn
def UT (W : World) (u : Value) (v : World) : Prop := ∃ x, u = .pointer (some ⟨x, 0, none⟩) ∧ W.heap.size ≤ x ∧ v.heap[x]? = some (.cells #[.int .i64 0, .int .i64 0, .int .i64 0, .string ⟨#[]⟩] 23 (0, 0)) ∧ Ext W v
theorem UT.x {W : World} {u : Value} {v : World} (h : UT W u v) : Ext W v := by obtain ⟨_, _, _, _, h⟩ := h; exact h
theorem UT.at {W : World} {x : Nat} {v : World} (h : UT W (.pointer (some ⟨x, 0, none⟩)) v) : W.heap.size ≤ x ∧ v.heap[x]? = some (.cells #[.int .i64 0, .int .i64 0, .int .i64 0, .string ⟨#[]⟩] 23 (0, 0)) ∧ Ext W v := by
  obtain ⟨y, hy, h1, h2, h3⟩ := h
  simp only [Value.pointer.injEq, Option.some.injEq, Addr.mk.injEq, and_true] at hy
  subst hy
  exact ⟨h1, h2, h3⟩
def UR (W : World) (r : Value) (u : Value) (v : World) : Prop := u = r ∧ Ext W v
def UR2 (W : World) (r : Value) (x : Nat) (u : Value) (v : World) : Prop := u = r ∧ W.heap.size ≤ x ∧ v.heap[x]? = some (.cells #[.int .i64 0, .int .i64 0, .int .i64 0, .string ⟨#[]⟩] 23 (0, 0)) ∧ Ext W v
def US (W : World) (x : Nat) (cs : Array Value) (_ : Value) (v : World) : Prop := W.heap.size ≤ x ∧ v.heap[x]? = some (.cells cs 23 (0, 0)) ∧ Ext W v
theorem bput_r {W : World} (m ba la : Int) (bo : ByteArray) (t : Int) (k d : Int) (xs : List Int) (tx : ByteArray) (m' ba' la' : Int) (bo' : ByteArray) (ok : Bool) (h : Bu.put ⟨m, ba, la, bo⟩ t ⟨k, d, xs, tx⟩ = (⟨m', ba', la', bo'⟩, ok)) (A : Option Addr) (c : Nat) (w : World) (hbz : bo.size ≤ 1000000) (hI : IntsAt w (.slice A xs.length c) xs) (hn : xs.length ≤ 1000) (htx : tx.size ≤ 1000000) (hW : Ext W w) :
    Calls Try.prog 10 #[.agg #[.int .i64 m, .int .i64 ba, .int .i64 la, .string bo], .int .i64 t, .agg #[.int .i64 k, .int .i64 d, .slice A xs.length c, .string tx]] w fun r w' => ∃ u, r = .returned u ∧ UR W (.tuple #[.agg #[.int .i64 m', .int .i64 ba', .int .i64 la', .string bo'], .bool ok]) u w' :=
  (bput_k m ba la bo t k d xs tx m' ba' la' bo' ok h A c w hbz hI hn htx).mono fun _ _ ⟨he, hx⟩ => ⟨_, he, rfl, hW.trans hx⟩
theorem bput_r2 {W : World} {x : Nat} (m ba la : Int) (bo : ByteArray) (t : Int) (k d : Int) (xs : List Int) (tx : ByteArray) (m' ba' la' : Int) (bo' : ByteArray) (ok : Bool) (h : Bu.put ⟨m, ba, la, bo⟩ t ⟨k, d, xs, tx⟩ = (⟨m', ba', la', bo'⟩, ok)) (A : Option Addr) (c : Nat) (w : World) (hbz : bo.size ≤ 1000000) (hI : IntsAt w (.slice A xs.length c) xs) (hn : xs.length ≤ 1000) (htx : tx.size ≤ 1000000) (hW : UT W (.pointer (some ⟨x, 0, none⟩)) w) :
    Calls Try.prog 10 #[.agg #[.int .i64 m, .int .i64 ba, .int .i64 la, .string bo], .int .i64 t, .agg #[.int .i64 k, .int .i64 d, .slice A xs.length c, .string tx]] w fun r w' => ∃ u, r = .returned u ∧ UR2 W (.tuple #[.agg #[.int .i64 m', .int .i64 ba', .int .i64 la', .string bo'], .bool ok]) x u w' :=
  (bput_k m ba la bo t k d xs tx m' ba' la' bo' ok h A c w hbz hI hn htx).mono fun _ _ ⟨he, hx⟩ => ⟨_, he, rfl, hW.at.1, hx.blk hW.at.2.1, hW.at.2.2.trans hx⟩
set_option maxRecDepth 100000 in
set_option maxHeartbeats 1000000 in
theorem uback_out (m : Int) (A : Option Addr) (n c : Nat) (v : Value) (l : List Ev) (w : World) (hn : n ≤ maxLen) (hE : EvsAt w v l) (hl : l.length ≤ maxLen) (sh : Bool) (hsh : Ev.short l = sh)
    (h : m < 1 ∨ (1 ≤ m ∧ (1000 < m ∨ (m ≤ 1000 ∧ (sh = false ∨ (sh = true ∧ n ≠ l.length)))))) :
    Calls Try.prog 4 #[.int .i64 m, .slice A n c, v] w fun e w' => e = .returned (.bool true) ∧ Ext w w' := by
  unfold maxLen at hn hl
  have HE := Lib.hid hE
  have HSH := Lib.hid hsh
  clear hsh
  rcases h with h | ⟨h1, h | ⟨h2, h⟩⟩
  · clear hE
    go_enter Try.func4, Try.ntmps4
    go_wp2_with fail
    refine (ufixed_yes _).mono ?_
    rintro r w1 ⟨rfl, hx1⟩
    go_wp2_with fail
    refine (ufixed_yes _).mono ?_
    rintro r w2 ⟨rfl, hx2⟩
    go_wp2
    go_ret
    exact ⟨rfl, hx1.trans hx2⟩
  · clear hE
    go_enter Try.func4, Try.ntmps4
    go_wp2_with fail
    refine (ufixed_yes _).mono ?_
    rintro r w1 ⟨rfl, hx1⟩
    go_wp2_with fail
    refine (ufixed_yes _).mono ?_
    rintro r w2 ⟨rfl, hx2⟩
    go_wp2
    go_ret
    exact ⟨rfl, hx1.trans hx2⟩
  · rcases h with rfl | ⟨rfl, h⟩
    · clear hE
      go_enter Try.func4, Try.ntmps4
      go_wp2_with fail
      refine (ufixed_yes _).mono ?_
      rintro r w1 ⟨rfl, hx1⟩
      go_wp2_with fail
      refine (short_eq2 v l _ HSH.out _ (HE.out.ext hx1) (by omega)).mono ?_
      rintro r w2 ⟨rfl, rfl⟩
      go_wp2_with fail
      refine (ufixed_yes _).mono ?_
      rintro r w2 ⟨rfl, hx2⟩
      go_wp2
      go_ret
      exact ⟨rfl, hx1.trans hx2⟩
    · obtain ⟨A2, c2, rfl, _⟩ := hE
      have hne : ((n : Int) != (l.length : Int)) = true := by simp; omega
      go_enter Try.func4, Try.ntmps4
      go_wp2_with fail
      refine (ufixed_yes _).mono ?_
      rintro r w1 ⟨rfl, hx1⟩
      go_wp2_with fail
      refine (short_eq2 _ l _ HSH.out _ (HE.out.ext hx1) (by omega)).mono ?_
      rintro r w2 ⟨rfl, rfl⟩
      go_wp2_with fail
      refine (ufixed_yes _).mono ?_
      rintro r w2 ⟨rfl, hx2⟩
      go_wp2
      go_ret
      exact ⟨rfl, hx1.trans hx2⟩
set_option maxRecDepth 100000 in
set_option maxHeartbeats 1000000 in
theorem uback_in (m : Int) (A : Option Addr) (c : Nat) (ts : List Int) (A2 : Option Addr) (c2 : Nat) (l : List Ev) (w : World) (hT : IntsAt w (.slice A ts.length c) ts) (hE : EvsAt w (.slice A2 l.length c2) l) (h1 : 1 ≤ m) (h2 : m ≤ 1000) (hsh : Ev.short l = true) (hlen : ts.length = l.length) :
    Calls Try.prog 4 #[.int .i64 m, .slice A ts.length c, .slice A2 l.length c2] w fun e w' => e = .returned (.bool true) ∧ Ext w w' := by
  obtain ⟨hall, h60⟩ := Ev.short_all hsh
  have HT := Lib.hid hT
  have HE := Lib.hid hE
  have HSH := Lib.hid hsh
  have HALL := Lib.hid hall
  have HLEN := Lib.hid hlen
  have hne : ((ts.length : Int) != (l.length : Int)) = false := by simp; omega
  clear hT hE hsh hall
  go_enter Try.func4, Try.ntmps4
  go_wp2_with fail
  refine (ufixed_yes _).mono ?_
  rintro r w1 ⟨rfl, hx1⟩
  have HX1 := Lib.hid hx1
  clear hx1
  go_wp2_with fail
  refine (short_eq2 _ l true HSH.out _ (HE.out.ext HX1.out) (by omega)).mono ?_
  rintro r w2 ⟨rfl, rfl⟩
  go_wp2
  clear hne
  go_loopw [8] (fun i wr => ∃ (j : Nat) (ba la : Int) (bo : ByteArray) (ms : List Ev), j ≤ l.length ∧ i = .int .i64 j ∧ Bu.After ts l j ba la bo ms ∧ wr.heap[w1.heap.size]? = some (.cells #[.int .i64 m, .int .i64 ba, .int .i64 la, .string bo] 23 (0, 0)) ∧ Ext w wr) (fun i _ => l.length - (intOf i).toNat)
  case atStart => exact ⟨0, 0, 0, ⟨#[]⟩, [], by omega, rfl, Bu.After.start ts l, blk_new _ _, HX1.out.alloc _⟩
  case round =>
    obtain ⟨j, ba, la, bo, ms, hj, rfl, ha, hb, hx⟩ := hrel
    have HA := Lib.hid ha
    have HB := Lib.hid hb
    have HX := Lib.hid hx
    have hsz := ha.size hj
    clear ha hb hx
    by_cases hlt : j < l.length
    · have hlt2 : j < ts.length := by omega
      obtain ⟨A0, c0, hAA, hII⟩ := HT.out.ext HX.out
      obtain ⟨b, o, hbo1, hb, hc⟩ := hII (by omega)
      simp only [Value.slice.injEq, true_and] at hAA
      obtain ⟨rfl, rfl⟩ := hAA
      subst hbo1
      have HC := Lib.hid (hc j _ (List.getElem?_eq_getElem hlt2))
      have HBL := Lib.hid hb
      obtain ⟨A0, c0, hAA, hII'⟩ := HE.out.ext HX.out
      obtain ⟨b2, o2, hbo1, hb2, hc2⟩ := hII' (by omega)
      simp only [Value.slice.injEq, true_and] at hAA
      obtain ⟨rfl, rfl⟩ := hAA
      subst hbo1
      have HEL : Hid (EvCell wr b2 (o2 + j * 4) l[j]) := Lib.hid (hc2 j _ (List.getElem?_eq_getElem hlt))
      have HBL2 := Lib.hid hb2
      have HTL : Hid (l.take (j + 1) = l.take j ++ [l[j]]) := Lib.hid (by rw [List.take_succ_eq_append_getElem hlt])
      have HTT : Hid (ts.take (j + 1) = ts.take j ++ [ts[j]]) := Lib.hid (by rw [List.take_succ_eq_append_getElem hlt2])
      have HS1 := Lib.hid (HALL.out _ (List.getElem_mem hlt))
      clear hII hII' hc hc2 hb hb2
      generalize l[j] = e at *
      generalize ts[j] = t at *
      obtain ⟨k, d, xs, tx⟩ := e
      obtain ⟨A', c', e0, e1, e2, e3, hi⟩ := HEL.out
      have E0 := Lib.hid e0
      have E1 := Lib.hid e1
      have E2 := Lib.hid e2
      have E3 := Lib.hid e3
      have HI := Lib.hid hi
      obtain ⟨q1, q2⟩ := Ev.short_sizes HS1.out
      simp only at q1 q2
      rcases hp : Bu.put ⟨m, ba, la, bo⟩ t ⟨k, d, xs, tx⟩ with ⟨⟨m', ba', la', bo'⟩, ok⟩
      have HP := Lib.hid hp
      clear hp e0 e1 e2 e3 hi HEL
      go_wp2
      refine region_g 99 (fun v => Ext wr v) (fun v => Ext wr v) (by kernel_rfl) (Ext.refl _).drew ?_
      have HG : ∀ (l : Array Bool) v, Ext wr v → l.getD 99 false = false → Ext wr v := fun _ _ h _ => h
      have K0 : ∀ v, Ext wr v → v.cell? ⟨w1.heap.size, 0, none⟩ = some (.int .i64 m) := fun v hv => blk_cell (hv.blk HB.out) 0 _ rfl
      have K1 : ∀ v, Ext wr v → v.cell? ⟨w1.heap.size, 1, none⟩ = some (.int .i64 ba) := fun v hv => blk_cell (hv.blk HB.out) 1 _ rfl
      have K2 : ∀ v, Ext wr v → v.cell? ⟨w1.heap.size, 2, none⟩ = some (.int .i64 la) := fun v hv => blk_cell (hv.blk HB.out) 2 _ rfl
      have K3 : ∀ v, Ext wr v → v.cell? ⟨w1.heap.size, 3, none⟩ = some (.string bo) := fun v hv => blk_cell (hv.blk HB.out) 3 _ rfl
      have K4 : ∀ v, Ext wr v → v.cell? ⟨b, o + j, none⟩ = some (.int .i64 t) := fun v hv => by rw [Below.cell hv HBL.out]; exact HC.out
      have K5 : ∀ v, Ext wr v → v.cell? ⟨b2, o2 + j * 4, none⟩ = some (.int .i64 k) := fun v hv => by rw [Below.cell hv HBL2.out]; exact E0.out
      have K6 : ∀ v, Ext wr v → v.cell? ⟨b2, o2 + j * 4 + 1, none⟩ = some (.int .i64 d) := fun v hv => by rw [Below.cell hv HBL2.out]; exact E1.out
      have K7 : ∀ v, Ext wr v → v.cell? ⟨b2, o2 + j * 4 + 2, none⟩ = some (.slice A' xs.length c') := fun v hv => by rw [Below.cell hv HBL2.out]; exact E2.out
      have K8 : ∀ v, Ext wr v → v.cell? ⟨b2, o2 + j * 4 + 3, none⟩ = some (.string tx) := fun v hv => by rw [Below.cell hv HBL2.out]; exact E3.out
      have i0 : (0 : Int) ≤ (j : Int) := by omega
      have i1 : (j : Int) < (ts.length : Int) := by omega
      have i2 : (j : Int) < (l.length : Int) := by omega
      refine g_take (HG _) (i := 0) (v := ?_) rfl (by kernel_rfl) (by kernel_rfl) (by kernel_rfl) (by kernel_rfl) (by kernel_rfl) (fun _ _ _ h => h) (Still.yes (by kernel_rfl) fun w hS => ?_) ?_
      rotate_left 1
      · skip
        go_simp
        refine gives_mk ?_ rfl
        with_reducible rfl
      refine g_take (HG _) (i := 1) (v := ?_) rfl (by kernel_rfl) (by kernel_rfl) (by kernel_rfl) (by kernel_rfl) (by kernel_rfl) (fun _ _ _ h => h) (Still.yes (by kernel_rfl) fun w hS => ?_) ?_
      rotate_left 1
      · skip
        go_simp
        refine gives_mk ?_ rfl
        with_reducible rfl
      refine g_take (HG _) (i := 2) (v := ?_) rfl (by kernel_rfl) (by kernel_rfl) (by kernel_rfl) (by kernel_rfl) (by kernel_rfl) (fun _ _ _ h => h) (Still.yes (by kernel_rfl) fun w hS => ?_) ?_
      rotate_left 1
      · skip
        go_simp
        refine gives_mk ?_ rfl
        with_reducible rfl
      refine g_take (HG _) (i := 3) (v := ?_) rfl (by kernel_rfl) (by kernel_rfl) (by kernel_rfl) (by kernel_rfl) (by kernel_rfl) (fun _ _ _ h => h) (Still.yes (by kernel_rfl) fun w hS => ?_) ?_
      rotate_left 1
      · skip
        go_simp
        refine gives_mk ?_ rfl
        with_reducible rfl
      refine g_take (HG _) (i := 4) (v := ?_) rfl (by kernel_rfl) (by kernel_rfl) (by kernel_rfl) (by kernel_rfl) (by kernel_rfl) (fun _ _ _ h => h) (Still.yes (by kernel_rfl) fun w hS => ?_) ?_
      rotate_left 1
      · skip
        go_simp
        refine gives_mk ?_ rfl
        with_reducible rfl
      refine g_take (HG _) (i := 5) (v := ?_) rfl (by kernel_rfl) (by kernel_rfl) (by kernel_rfl) (by kernel_rfl) (by kernel_rfl) (fun _ _ _ h => h) (Still.yes (by kernel_rfl) fun w hS => ?_) ?_
      rotate_left 1
      · skip
        go_simp
        refine gives_mk ?_ rfl
        with_reducible rfl
      refine g_take (HG _) (i := 6) (v := ?_) rfl (by kernel_rfl) (by kernel_rfl) (by kernel_rfl) (by kernel_rfl) (by kernel_rfl) (fun _ _ _ h => h) (Still.yes (by kernel_rfl) fun w hS => ?_) ?_
      rotate_left 1
      · skip
        go_simp
        refine gives_mk ?_ rfl
        with_reducible rfl
      refine g_take (HG _) (i := 7) (v := ?_) rfl (by kernel_rfl) (by kernel_rfl) (by kernel_rfl) (by kernel_rfl) (by kernel_rfl) (fun _ _ _ h => h) (Still.yes (by kernel_rfl) fun w hS => ?_) ?_
      rotate_left 1
      · skip
        go_simp
        refine gives_mk ?_ rfl
        with_reducible rfl
      refine g_take (HG _) (i := 8) (v := ?_) rfl (by kernel_rfl) (by kernel_rfl) (by kernel_rfl) (by kernel_rfl) (by kernel_rfl) (fun _ _ _ h => h) (Still.yes (by kernel_rfl) fun w hS => ?_) ?_
      rotate_left 1
      · skip
        go_simp
        refine gives_mk ?_ rfl
        with_reducible rfl
      refine g_two (UR wr (.tuple #[.agg #[.int .i64 m', .int .i64 ba', .int .i64 la', .string bo'], .bool ok])) (UT wr) (k := 9) (l := 13) (by kernel_rfl) (fun _ _ h _ => h.2) (fun _ _ h _ => h.x) (fun v hv => ?_) (fun v hv => ?_)
      · refine at_call (S := fun _ => True) rfl (by kernel_rfl) (by go_simp; (try exact ⟨rfl, rfl⟩)) (bput_r m ba la bo t k d xs tx _ _ _ _ _ HP.out A' c' v (by omega) (HI.out.ext hv) (by omega) (by omega) hv) ?_
        rintro u ⟨_, rfl, _⟩
        replace HG : ∀ (l : Array Bool) v, UR wr (.tuple #[.agg #[.int .i64 m', .int .i64 ba', .int .i64 la', .string bo'], .bool ok]) (.tuple #[.agg #[.int .i64 m', .int .i64 ba', .int .i64 la', .string bo'], .bool ok]) v → l.getD 99 false = false → Ext wr v := fun _ _ h _ => h.2
        refine g_free (HG _) (i := 10) (v := ?_) rfl (by kernel_rfl) (by kernel_rfl) (by kernel_rfl) (by kernel_rfl) (fun _ _ _ h => h) (Still.yes (by kernel_rfl) fun w hS => ?_) ?_
        rotate_left 1
        · skip
          go_simp
          refine gives_mk ?_ rfl
          with_reducible rfl
        refine g_free (HG _) (i := 11) (v := ?_) rfl (by kernel_rfl) (by kernel_rfl) (by kernel_rfl) (by kernel_rfl) (fun _ _ _ h => h) (Still.yes (by kernel_rfl) fun w hS => ?_) ?_
        rotate_left 1
        · skip
          go_simp
          refine gives_mk ?_ rfl
          with_reducible rfl
        refine g_free (HG _) (i := 12) (v := ?_) rfl (by kernel_rfl) (by kernel_rfl) (by kernel_rfl) (by kernel_rfl) (fun _ _ _ h => h) (Still.yes (by kernel_rfl) fun w hS => ?_) ?_
        rotate_left 1
        · skip
          go_simp
          refine gives_mk ?_ rfl
          with_reducible rfl
        refine g_turn (UT wr) (k := 13) (by kernel_rfl) (fun _ _ h _ => h.x) (fun v hv => ?_)
        refine at_value rfl (by kernel_rfl) (by go_simp; exact ⟨_, _, ⟨rfl, rfl⟩, v.heap.size, rfl, hv.2.size, blk_new _ _, hv.2.alloc _⟩) ?_
        rintro u ⟨_, ga, rfl, _⟩
        refine g_turn (US wr ga #[.int .i64 m', .int .i64 ba', .int .i64 la', .string bo']) (k := 14) (by kernel_rfl) (fun _ _ h _ => h.2.2) (fun v hv => ?_)
        refine at_skip rfl (by kernel_rfl) ?_ ?_
        · have hga := hv.at.1
          have hzb := hv.at.2.1
          have HV := Lib.hid hv.at.2.2
          clear hv K0 K1 K2 K3 K4 K5 K6 K7 K8 HG i0 i1 i2
          have z0 := blk_cell hzb 0 (.int .i64 0) rfl
          have z1 := blk_cell hzb 1 (.int .i64 0) rfl
          have z2 := blk_cell hzb 2 (.int .i64 0) rfl
          have z3 := blk_cell hzb 3 (.string ⟨#[]⟩) rfl
          have y0 := frozen_of_row _ _ 0 _ _ hzb
          have y1 := frozen_of_row _ _ 1 _ _ hzb
          have y2 := frozen_of_row _ _ 2 _ _ hzb
          have y3 := frozen_of_row _ _ 3 _ _ hzb
          have HZB := Lib.hid hzb
          clear hzb
          go_simp
          first | exact ⟨hga, uset4_at HZB.out _ _ _ _, uset4_ext HV.out hga _ _ _ _⟩ | exact ⟨_, rfl, hga, uset4_at HZB.out _ _ _ _, uset4_ext HV.out hga _ _ _ _⟩
        replace HG : ∀ (l : Array Bool) v, US wr ga #[.int .i64 m', .int .i64 ba', .int .i64 la', .string bo'] undef v → l.getD 99 false = false → Ext wr v := fun _ _ h _ => h.2.2
        refine g_free (HG _) (i := 15) (v := ?_) rfl (by kernel_rfl) (by kernel_rfl) (by kernel_rfl) (by kernel_rfl) (fun _ _ _ h => h) (Still.yes (by kernel_rfl) fun w hS => ?_) ?_
        rotate_left 1
        · skip
          go_simp
          refine gives_mk ?_ rfl
          with_reducible rfl
        refine g_done (by kernel_rfl) ?_ _
        intro w6 hw6
        have HS6 := Lib.hid hw6.2.1
        have HX6 := Lib.hid hw6.2.2
        have HB6 := Lib.hid (hw6.2.2.blk HB.out)
        clear K0 K1 K2 K3 K4 K5 K6 K7 K8 i0 i1 i2 HG hw6
        go_simp
        cases ok with
        | false =>
          go_wp2
          go_ret
          exact ⟨rfl, HX.out.trans HX6.out⟩
        | true =>
          obtain ⟨rfl, ms', hms'⟩ := HA.out.step hj HTL.out HTT.out HS1.out HP.out
          have HM := Lib.hid hms'
          clear hms'
          obtain ⟨a0, a1, a2, a3⟩ := (show _ ∧ _ ∧ _ ∧ _ from ⟨blk_cell HS6.out 0 _ rfl, blk_cell HS6.out 1 _ rfl, blk_cell HS6.out 2 _ rfl, blk_cell HS6.out 3 _ rfl⟩)
          obtain ⟨z0, z1, z2, z3⟩ := (show _ ∧ _ ∧ _ ∧ _ from ⟨blk_cell HB6.out 0 _ rfl, blk_cell HB6.out 1 _ rfl, blk_cell HB6.out 2 _ rfl, blk_cell HB6.out 3 _ rfl⟩)
          have y0 := frozen_of_row _ _ 0 _ _ HB6.out
          have y1 := frozen_of_row _ _ 1 _ _ HB6.out
          have y2 := frozen_of_row _ _ 2 _ _ HB6.out
          have y3 := frozen_of_row _ _ 3 _ _ HB6.out
          go_wp2
          go_roundw
          case rel => exact ⟨j + 1, _, _, _, ms', by omega, by go_num, HM.out, uset4_at HB6.out _ _ _ _, uset4_ext (HX.out.trans HX6.out) HX1.out.size _ _ _ _⟩
          case measure => simp [intOf]; omega
      · refine at_value rfl (by kernel_rfl) (by go_simp; exact ⟨_, _, ⟨rfl, rfl⟩, v.heap.size, rfl, hv.size, blk_new _ _, hv.alloc _⟩) ?_
        rintro u ⟨_, ga, rfl, _⟩
        refine g_turn (UR2 wr (.tuple #[.agg #[.int .i64 m', .int .i64 ba', .int .i64 la', .string bo'], .bool ok]) ga) (k := 9) (by kernel_rfl) (fun _ _ h _ => h.2.2.2) (fun v hv => ?_)
        refine at_call (S := fun _ => True) rfl (by kernel_rfl) (by go_simp; (try exact ⟨rfl, rfl⟩)) (bput_r2 m ba la bo t k d xs tx _ _ _ _ _ HP.out A' c' v (by omega) (HI.out.ext hv.x) (by omega) (by omega) hv) ?_
        rintro u ⟨_, rfl, _⟩
        replace HG : ∀ (l : Array Bool) v, UR2 wr (.tuple #[.agg #[.int .i64 m', .int .i64 ba', .int .i64 la', .string bo'], .bool ok]) ga (.tuple #[.agg #[.int .i64 m', .int .i64 ba', .int .i64 la', .string bo'], .bool ok]) v → l.getD 99 false = false → Ext wr v := fun _ _ h _ => h.2.2.2
        refine g_free (HG _) (i := 10) (v := ?_) rfl (by kernel_rfl) (by kernel_rfl) (by kernel_rfl) (by kernel_rfl) (fun _ _ _ h => h) (Still.yes (by kernel_rfl) fun w hS => ?_) ?_
        rotate_left 1
        · skip
          go_simp
          refine gives_mk ?_ rfl
          with_reducible rfl
        refine g_free (HG _) (i := 11) (v := ?_) rfl (by kernel_rfl) (by kernel_rfl) (by kernel_rfl) (by kernel_rfl) (fun _ _ _ h => h) (Still.yes (by kernel_rfl) fun w hS => ?_) ?_
        rotate_left 1
        · skip
          go_simp
          refine gives_mk ?_ rfl
          with_reducible rfl
        refine g_free (HG _) (i := 12) (v := ?_) rfl (by kernel_rfl) (by kernel_rfl) (by kernel_rfl) (by kernel_rfl) (fun _ _ _ h => h) (Still.yes (by kernel_rfl) fun w hS => ?_) ?_
        rotate_left 1
        · skip
          go_simp
          refine gives_mk ?_ rfl
          with_reducible rfl
        refine g_turn (US wr ga #[.int .i64 m', .int .i64 ba', .int .i64 la', .string bo']) (k := 14) (by kernel_rfl) (fun _ _ h _ => h.2.2) (fun v hv => ?_)
        refine at_skip rfl (by kernel_rfl) ?_ ?_
        · have hga := hv.2.1
          have hzb := hv.2.2.1
          have HV := Lib.hid hv.2.2.2
          clear hv K0 K1 K2 K3 K4 K5 K6 K7 K8 HG i0 i1 i2
          have z0 := blk_cell hzb 0 (.int .i64 0) rfl
          have z1 := blk_cell hzb 1 (.int .i64 0) rfl
          have z2 := blk_cell hzb 2 (.int .i64 0) rfl
          have z3 := blk_cell hzb 3 (.string ⟨#[]⟩) rfl
          have y0 := frozen_of_row _ _ 0 _ _ hzb
          have y1 := frozen_of_row _ _ 1 _ _ hzb
          have y2 := frozen_of_row _ _ 2 _ _ hzb
          have y3 := frozen_of_row _ _ 3 _ _ hzb
          have HZB := Lib.hid hzb
          clear hzb
          go_simp
          first | exact ⟨hga, uset4_at HZB.out _ _ _ _, uset4_ext HV.out hga _ _ _ _⟩ | exact ⟨_, rfl, hga, uset4_at HZB.out _ _ _ _, uset4_ext HV.out hga _ _ _ _⟩
        replace HG : ∀ (l : Array Bool) v, US wr ga #[.int .i64 m', .int .i64 ba', .int .i64 la', .string bo'] undef v → l.getD 99 false = false → Ext wr v := fun _ _ h _ => h.2.2
        refine g_free (HG _) (i := 15) (v := ?_) rfl (by kernel_rfl) (by kernel_rfl) (by kernel_rfl) (by kernel_rfl) (fun _ _ _ h => h) (Still.yes (by kernel_rfl) fun w hS => ?_) ?_
        rotate_left 1
        · skip
          go_simp
          refine gives_mk ?_ rfl
          with_reducible rfl
        refine g_done (by kernel_rfl) ?_ _
        intro w6 hw6
        have HS6 := Lib.hid hw6.2.1
        have HX6 := Lib.hid hw6.2.2
        have HB6 := Lib.hid (hw6.2.2.blk HB.out)
        clear K0 K1 K2 K3 K4 K5 K6 K7 K8 i0 i1 i2 HG hw6
        go_simp
        cases ok with
        | false =>
          go_wp2
          go_ret
          exact ⟨rfl, HX.out.trans HX6.out⟩
        | true =>
          obtain ⟨rfl, ms', hms'⟩ := HA.out.step hj HTL.out HTT.out HS1.out HP.out
          have HM := Lib.hid hms'
          clear hms'
          obtain ⟨a0, a1, a2, a3⟩ := (show _ ∧ _ ∧ _ ∧ _ from ⟨blk_cell HS6.out 0 _ rfl, blk_cell HS6.out 1 _ rfl, blk_cell HS6.out 2 _ rfl, blk_cell HS6.out 3 _ rfl⟩)
          obtain ⟨z0, z1, z2, z3⟩ := (show _ ∧ _ ∧ _ ∧ _ from ⟨blk_cell HB6.out 0 _ rfl, blk_cell HB6.out 1 _ rfl, blk_cell HB6.out 2 _ rfl, blk_cell HB6.out 3 _ rfl⟩)
          have y0 := frozen_of_row _ _ 0 _ _ HB6.out
          have y1 := frozen_of_row _ _ 1 _ _ HB6.out
          have y2 := frozen_of_row _ _ 2 _ _ HB6.out
          have y3 := frozen_of_row _ _ 3 _ _ HB6.out
          go_wp2
          go_roundw
          case rel => exact ⟨j + 1, _, _, _, ms', by omega, by go_num, HM.out, uset4_at HB6.out _ _ _ _, uset4_ext (HX.out.trans HX6.out) HX1.out.size _ _ _ _⟩
          case measure => simp [intOf]; omega
    · obtain rfl : j = l.length := by omega
      clear hlt hj
      obtain ⟨a0, a1, a2, a3⟩ := (show _ ∧ _ ∧ _ ∧ _ from ⟨blk_cell HB.out 0 _ rfl, blk_cell HB.out 1 _ rfl, blk_cell HB.out 2 _ rfl, blk_cell HB.out 3 _ rfl⟩)
      by_cases h0 : l.length = 0
      · have HS : Hid (Bu.seal ⟨m, ba, la, bo⟩ 1 = (⟨0, 0, 0, ⟨#[]⟩⟩, ⟨0, 0, 0, ⟨#[]⟩⟩, false)) := Lib.hid (HA.out.empty h0 m)
        have hz0 : ((l.length : Int) == 0) = true := by rw [h0]; rfl
        clear h0
        go_wp2_with fail
        refine (bseal_k m ba la bo 1 _ _ _ _ _ _ _ _ _ HS.out _).mono ?_
        rintro r w7 ⟨rfl, hx7⟩
        go_wp2
        go_ret
        exact ⟨rfl, ((HX.out.trans hx7).alloc _).alloc _⟩
      · obtain ⟨hse, hev, hbare, hml⟩ := HA.out.events HLEN.out h60 h1 h2 h0
        have HS := Lib.hid hse
        have HEV := Lib.hid hev
        have HBARE := Lib.hid hbare
        have hz0 : ((l.length : Int) == 0) = false := beq_eq_false_iff_ne.2 (by omega)
        clear hse hev hbare h0
        go_wp2_with fail
        refine (bseal_k m ba la bo 1 _ _ _ _ _ _ _ _ _ HS.out _).mono ?_
        rintro r w7 ⟨rfl, hx7⟩
        have HX7 : Hid (Ext w ((w7.alloc (.cells #[.int .i64 1, .int .i64 (m + 1), .int .i64 ba, .string bo] 35)).alloc (.cells #[.int .i64 m, .int .i64 0, .int .i64 0, .string ⟨#[]⟩] 23))) := Lib.hid (((HX.out.trans hx7).alloc _).alloc _)
        have HPX := Lib.hid (blk_alloc (blk_new w7 (.cells #[.int .i64 1, .int .i64 (m + 1), .int .i64 ba, .string bo] 35)) (.cells #[.int .i64 m, .int .i64 0, .int .i64 0, .string ⟨#[]⟩] 23))
        have HPY : Hid (((w7.alloc (.cells #[.int .i64 1, .int .i64 (m + 1), .int .i64 ba, .string bo] 35)).alloc (.cells #[.int .i64 m, .int .i64 0, .int .i64 0, .string ⟨#[]⟩] 23)).heap[w7.heap.size + 1]? = some (.cells #[.int .i64 m, .int .i64 0, .int .i64 0, .string ⟨#[]⟩] 23 (0, 0))) := Lib.hid (by
          have := blk_new (w7.alloc (.cells #[.int .i64 1, .int .i64 (m + 1), .int .i64 ba, .string bo] 35)) (.cells #[.int .i64 m, .int .i64 0, .int .i64 0, .string ⟨#[]⟩] 23)
          rwa [World.size_alloc] at this)
        clear a0 a1 a2 a3 hx7
        obtain ⟨p0, p1, p2, p3⟩ := (show _ ∧ _ ∧ _ ∧ _ from ⟨blk_cell HPX.out 0 _ rfl, blk_cell HPX.out 1 _ rfl, blk_cell HPX.out 2 _ rfl, blk_cell HPX.out 3 _ rfl⟩)
        go_wp2_with fail
        refine (rbevents_eq 1 (m + 1) ba bo ms ts 0 0 HEV.out _).mono ?_
        rintro r w8 ⟨A3, c3, A4, c4, rfl, hev, htv, hx8⟩
        have HV8 := Lib.hid hev
        have HT8 := Lib.hid htv
        have HX8 := Lib.hid (HX7.out.trans hx8)
        have HPX8 := Lib.hid (hx8.blk HPX.out)
        have HPY8 := Lib.hid (hx8.blk HPY.out)
        clear p0 p1 p2 p3 hx8 hev htv
        have HT9 : Hid (IntsAt w8 (.slice A4 l.length c4) ts) := Lib.hid (by rw [← HLEN.out]; exact HT8.out)
        have HT0 : Hid (IntsAt w8 (.slice A l.length c) ts) := Lib.hid (by rw [← HLEN.out]; exact HT.out.ext HX8.out)
        have HTN : Hid (ts.length ≤ 9223372036854775807) := Lib.hid (by omega)
        have hml2 : ((ms.length : Int) != (l.length : Int)) = false := by simp; omega
        go_wp2_with fail
        refine (rints_self _ _ ts _ HT9.out HT0.out HTN.out).mono ?_
        rintro r w9 ⟨rfl, hx9⟩
        obtain ⟨p0, p1, p2, p3⟩ := (show _ ∧ _ ∧ _ ∧ _ from ⟨blk_cell (hx9.blk HPX8.out) 0 _ rfl, blk_cell (hx9.blk HPX8.out) 1 _ rfl, blk_cell (hx9.blk HPX8.out) 2 _ rfl, blk_cell (hx9.blk HPX8.out) 3 _ rfl⟩)
        obtain ⟨r0, r1, r2, r3⟩ := (show _ ∧ _ ∧ _ ∧ _ from ⟨blk_cell (hx9.blk HPY8.out) 0 _ rfl, blk_cell (hx9.blk HPY8.out) 1 _ rfl, blk_cell (hx9.blk HPY8.out) 2 _ rfl, blk_cell (hx9.blk HPY8.out) 3 _ rfl⟩)
        have HX9 := Lib.hid (HX8.out.trans hx9)
        have HV9 := Lib.hid (HV8.out.ext hx9)
        have hmm : (m != m) = false := by simp
        have hm1 : ((m + 1) != (m + 1)) = false := by simp
        have hwr : IntKind.i64.wrap (m + 1) = m + 1 := IntWalk.i64_in _ (by omega)
        have HE9 := Lib.hid (HE.out.ext HX9.out)
        clear hx9
        go_wp2
        clear p0 p1 p2 p3 r0 r1 r2 r3 hmm hm1 hwr hml2 hz0
        go_loopw [18] (fun i wr => ∃ i0 : Nat, i0 ≤ l.length ∧ i = .int .i64 i0 ∧ Ext w9 wr) (fun i _ => l.length - (intOf i).toNat)
        case atStart => exact ⟨0, by omega, rfl, Ext.refl _⟩
        case round =>
          obtain ⟨i, hi, rfl, hy⟩ := hrel
          have HY := Lib.hid hy
          clear hy
          by_cases hlt : i < l.length
          · have hlt2 : i < ms.length := by omega
            obtain ⟨A0, c0, hAA, hII⟩ := HE9.out.ext HY.out
            obtain ⟨b, o, hbo1, hb, hc⟩ := hII (by omega)
            simp only [Value.slice.injEq, true_and] at hAA
            obtain ⟨rfl, rfl⟩ := hAA
            subst hbo1
            have HEL : Hid (EvCell wr b (o + i * 4) l[i]) := Lib.hid (hc i _ (List.getElem?_eq_getElem hlt))
            have HBL := Lib.hid hb
            obtain ⟨A0, c0, hAA, hII'⟩ := HV9.out.ext HY.out
            obtain ⟨b2, o2, hbo1, hb2, hc2⟩ := hII' (by omega)
            simp only [Value.slice.injEq, true_and] at hAA
            obtain ⟨rfl, rfl⟩ := hAA
            subst hbo1
            have HEL2 : Hid (EvCell wr b2 (o2 + i * 4) ms[i]) := Lib.hid (hc2 i _ (List.getElem?_eq_getElem hlt2))
            have HBL2 := Lib.hid hb2
            have hq := Ev.bare_at HBARE.out i hlt2 hlt
            have HS1 := Lib.hid (HALL.out _ (List.getElem_mem hlt))
            clear hII hII' hc hc2 hb hb2
            generalize l[i] = e at *
            generalize ms[i] = f at *
            obtain ⟨k, d, xs, tx⟩ := e
            obtain ⟨k', d', xs', tx'⟩ := f
            simp only at hq
            obtain ⟨rfl, rfl, rfl⟩ := hq
            obtain ⟨A', c', e0, e1, e2, e3, hi1⟩ := HEL.out
            obtain ⟨A5, c5, f0, f1, f2, f3, hi2⟩ := HEL2.out
            have HI := Lib.hid hi1
            have HI2 := Lib.hid hi2
            have F0 := Lib.hid f0
            have F1 := Lib.hid f1
            have F2 := Lib.hid f2
            have F3 := Lib.hid f3
            obtain ⟨q1, q2⟩ := Ev.short_sizes HS1.out
            simp only at q1 q2 e0 e1 e2 e3 F0 F1 F2 F3 HI HI2
            have f1' : (wr.alloc (.cells #[.int .i64 k, .int .i64 d, .slice A' xs.length c', .string tx] 28)).cell? ⟨b2, o2 + i * 4 + 1, none⟩ = some (.int .i64 d') := by rw [Below.cell ((Ext.refl wr).alloc _) HBL2.out]; exact F1.out
            have hzb := blk_new wr (.cells #[.int .i64 k, .int .i64 d, .slice A' xs.length c', .string tx] 28)
            have z1 := blk_cell hzb 1 (.int .i64 d) rfl
            have y1 := frozen_of_row _ _ 1 _ _ hzb
            have HZ5 := Lib.hid (blk_new wr (.cells #[.int .i64 k, .int .i64 d', .slice A' xs.length c', .string tx] 28))
            have HW5 : Hid (Ext wr (wr.alloc (.cells #[.int .i64 k, .int .i64 d', .slice A' xs.length c', .string tx] 28))) := Lib.hid ((Ext.refl wr).alloc _)
            clear hi1 hi2 f0 f1 f2 f3 HEL HEL2 hzb
            have i0 : (0 : Int) ≤ (i : Int) := by omega
            have i1 : (i : Int) < (ms.length : Int) := by omega
            have i2 : (i : Int) < (l.length : Int) := by omega
            go_wp2
            clear e0 e1 e2 e3 f1' z1 y1
            generalize hw5 : wr.alloc (.cells #[.int .i64 k, .int .i64 d', .slice A' xs.length c', .string tx] 28) = w5 at *
            clear hw5
            refine region_all (fun v => Ext w5 v) (by kernel_rfl) (Ext.refl _).drew ?_
            have m0 : ∀ v, Ext w5 v → v.cell? ⟨wr.heap.size, 0, none⟩ = some (.int .i64 k) := fun v hv => blk_cell (hv.blk HZ5.out) 0 _ rfl
            have m1 : ∀ v, Ext w5 v → v.cell? ⟨wr.heap.size, 1, none⟩ = some (.int .i64 d') := fun v hv => blk_cell (hv.blk HZ5.out) 1 _ rfl
            have m2 : ∀ v, Ext w5 v → v.cell? ⟨wr.heap.size, 2, none⟩ = some (.slice A' xs.length c') := fun v hv => blk_cell (hv.blk HZ5.out) 2 _ rfl
            have m3 : ∀ v, Ext w5 v → v.cell? ⟨wr.heap.size, 3, none⟩ = some (.string tx) := fun v hv => blk_cell (hv.blk HZ5.out) 3 _ rfl
            have n0 : ∀ v, Ext w5 v → v.cell? ⟨b2, o2 + i * 4, none⟩ = some (.int .i64 k) := fun v hv => by rw [Below.cell (HW5.out.trans hv) HBL2.out]; exact F0.out
            have n1 : ∀ v, Ext w5 v → v.cell? ⟨b2, o2 + i * 4 + 1, none⟩ = some (.int .i64 d') := fun v hv => by rw [Below.cell (HW5.out.trans hv) HBL2.out]; exact F1.out
            have n2 : ∀ v, Ext w5 v → v.cell? ⟨b2, o2 + i * 4 + 2, none⟩ = some (.slice A5 xs.length c5) := fun v hv => by rw [Below.cell (HW5.out.trans hv) HBL2.out]; exact F2.out
            have n3 : ∀ v, Ext w5 v → v.cell? ⟨b2, o2 + i * 4 + 3, none⟩ = some (.string tx) := fun v hv => by rw [Below.cell (HW5.out.trans hv) HBL2.out]; exact F3.out
            refine all_take (i := 0) (v := ?_) rfl (by kernel_rfl) (by kernel_rfl) (by kernel_rfl) (fun _ _ _ h => h) (Tame.yes (by kernel_rfl) fun w hS => ?_) ?_
            rotate_left 1
            · skip
              go_simp
              refine gives_mk ?_ hS
              with_reducible rfl
            refine all_take (i := 1) (v := ?_) rfl (by kernel_rfl) (by kernel_rfl) (by kernel_rfl) (fun _ _ _ h => h) (Tame.yes (by kernel_rfl) fun w hS => ?_) ?_
            rotate_left 1
            · skip
              go_simp
              refine gives_mk ?_ hS
              with_reducible rfl
            refine all_take (i := 2) (v := ?_) rfl (by kernel_rfl) (by kernel_rfl) (by kernel_rfl) (fun _ _ _ h => h) (Tame.yes (by kernel_rfl) fun w hS => ?_) ?_
            rotate_left 1
            · skip
              go_simp
              refine gives_mk ?_ hS
              with_reducible rfl
            refine all_take (i := 3) (v := ?_) rfl (by kernel_rfl) (by kernel_rfl) (by kernel_rfl) (fun _ _ _ h => h) (Tame.yes (by kernel_rfl) fun w hS => ?_) ?_
            rotate_left 1
            · skip
              go_simp
              refine gives_mk ?_ hS
              with_reducible rfl
            refine all_take (i := 4) (v := ?_) rfl (by kernel_rfl) (by kernel_rfl) (by kernel_rfl) (fun _ _ _ h => h) (Tame.yes (by kernel_rfl) fun w hS => ?_) ?_
            rotate_left 1
            · skip
              go_simp
              refine gives_mk ?_ hS
              with_reducible rfl
            refine all_take (i := 5) (v := .bool true) rfl (by kernel_rfl) (by kernel_rfl) (by kernel_rfl) (fun _ _ _ h => h) (Tame.yes (by kernel_rfl) fun w hS => ?_) ?_
            · go_simp
              refine gives_call ((same_k k d' xs tx k d' xs tx true ((Ev.sameB_iff _ _).2 rfl) _ _ _ _ _ (HI.out.ext (HW5.out.trans hS)) (HI2.out.ext (HW5.out.trans hS)) (by omega)).mono ?_)
              exact fun r w2 ⟨he, hx⟩ => ⟨he, hS.trans hx⟩
            refine all_take (i := 6) (v := ?_) rfl (by kernel_rfl) (by kernel_rfl) (by kernel_rfl) (fun _ _ _ h => h) (Tame.yes (by kernel_rfl) fun w hS => ?_) ?_
            rotate_left 1
            · skip
              go_simp
              refine gives_mk ?_ hS
              with_reducible rfl
            refine all_done (by kernel_rfl) ?_ _
            intro w6 hw6
            have HW6 := Lib.hid hw6
            clear m0 m1 m2 m3 n0 n1 n2 n3 i0 i1 i2 hw6
            go_simp
            go_wp2
            go_roundw
            case rel => exact ⟨i + 1, by omega, by go_num, HY.out.trans (HW5.out.trans HW6.out)⟩
            case measure => simp [intOf]; omega
          · obtain rfl : i = l.length := by omega
            go_wp2
            go_ret
            exact ⟨rfl, HX9.out.trans HY.out⟩
theorem walk_BufBack (m : Int) (A : Option Addr) (n c : Nat) (zs : List Int) (v : Value) (l : List Ev) (w : World) (_ : (Lit.int .i64 m).wf = true) (hT : IsRow .i64 w A n c zs) (hE : EvsAt w v l) (hl : l.length ≤ maxLen) (_ : ∀ e ∈ l, EvIn e) :
    Calls Try.prog 4 #[.int .i64 m, .slice A n c, v] w fun e w' => e = .returned (.bool true) ∧ Ext w w' := by
  have hn : n ≤ maxLen := by
    rcases hT with ⟨_, h, _⟩ | ⟨_, _, h1, h2, _⟩
    · rw [h]; exact Nat.zero_le _
    · exact Nat.le_trans h1 h2
  by_cases h : m < 1 ∨ (1 ≤ m ∧ (1000 < m ∨ (m ≤ 1000 ∧ (Ev.short l = false ∨ (Ev.short l = true ∧ n ≠ l.length)))))
  · exact uback_out m A n c v l w hn hE hl _ rfl h
  · have h1 : 1 ≤ m := by omega
    have h2 : m ≤ 1000 := by omega
    cases hs : Ev.short l with
    | false => exact absurd (.inr ⟨h1, .inr ⟨h2, .inl hs⟩⟩) h
    | true =>
      have h3 : n = l.length := Decidable.byContradiction fun hx => h (.inr ⟨h1, .inr ⟨h2, .inr ⟨hs, hx⟩⟩⟩)
      obtain ⟨k1, k2, _⟩ := ints_of_row hT
      have hE' := hE
      obtain ⟨A2, c2, rfl, _⟩ := hE
      generalize zs.take n = ts at *
      subst k2
      exact uback_in m A c ts A2 c2 l w k1 hE' h1 h2 hs h3

end Go.Proofs.Ytcdfpifhjjiioaa
