/-
  The walk of the statement EventLen, where the event may be, of experimental kinds.
-/
import Derived.Test.YtnomofnhfaeohaaEz
set_option linter.unusedVariables false
set_option linter.unusedSimpArgs false
namespace Go.Proofs.Ytnomofnhfaeohaa
open Go.RowKit

set_option maxRecDepth 100000 in
set_option maxHeartbeats 1000000 in
theorem elen_exp (A : Option Addr) (c : Nat) (k d : Int) (xs : List Int) (t : ByteArray) (dt : Int) (w : World) (hI : IntsAt w (.slice A xs.length c) xs) (hn : xs.length ≤ maxLen) (ht : t.size ≤ 140737488351232) (hsh : Ev.short [⟨k, d, xs, t⟩] = true) (h20 : xs.length ≤ 20) (E F : ByteArray) (hE : Ev.enc ⟨k, d, xs, t⟩ = E) (hF : Ev.enc ⟨k, dt, xs, t⟩ = F)
    (h1 : E.toList.isEmpty = false) (h2 : ¬ E.toList = []) (h3 : 0 ≤ dt) (h4 : dt < 4611686018427387904) (hm : Ev.may ⟨k, d, xs, t⟩ = true) (hx : Ki.exp k = true) (hxs : xs = []) (tz : Nat) (htz : (Va.pz (t.size : Int)).size = tz) (htz9 : tz ≤ 9) (ht3 : t.size ≤ 300) (ld lt : Nat) (hld : (Va.pz d).size = ld) (hlt : (Va.pz dt).size = lt) (hld9 : ld ≤ 9) (hlt9 : lt ≤ 9)
    (hE0 : 0 < E.size) (hF0 : 0 < F.size) (hb0 : (((F[0].toNat : Nat) : Int) == ((E[0].toNat : Nat) : Int)) = true) (h36 : ((F.extract (1 + lt) F.size).toList == (E.extract (1 + ld) E.size).toList) = true)
    (hEs : E.size = 1 + ld + (tz + t.size)) (hFs : F.size = 1 + lt + (tz + t.size)) :
    Calls Try.prog 5 #[.agg #[.int .i64 k, .int .i64 d, .slice A xs.length c, .string t], .int .i64 dt] w fun e w' => e = .returned (.bool true) ∧ Ext w w' := by
  have HSH := Lib.hid hsh
  have HE := Lib.hid hE
  have HF := Lib.hid hF
  have HLD := Lib.hid hld
  have HLT := Lib.hid hlt
  have HES := Lib.hid hEs
  have HFS := Lib.hid hFs
  have hk128 : 128 ≤ k := by
    unfold Ki.exp at hx
    have := of_decide_eq_true hx
    omega
  clear hsh hE hF hld hlt hEs hFs hm hx
  have HXL : Hid ((Va.pz (t.size : Int)).size = tz ∧ xs.length = 0 ∧ t.size ≤ 300 ∧ tz ≤ 9 ∧ 128 ≤ k) := Lib.hid ⟨htz, by rw [hxs]; rfl, ht3, htz9, hk128⟩
  clear hxs ht3 htz9 hk128 htz
  have HI : Hid (∀ v, Ext (w.alloc (.cells #[.int .i64 k, .int .i64 d, .slice A xs.length c, .string t] 24)) v → IntsAt v (.slice A xs.length c) xs) := Lib.hid fun v hv => hI.ext (((Ext.refl w).alloc _).trans hv)
  have HA : Hid (∀ v, Ext (w.alloc (.cells #[.int .i64 k, .int .i64 d, .slice A xs.length c, .string t] 24)) v → BoxA w (.int .i64 k) (.int .i64 d) (.slice A xs.length c) (.string t) v w.heap.size) := Lib.hid fun v hv => ⟨Ext.box hv 0 _ rfl, Ext.box hv 1 _ rfl, Ext.box hv 2 _ rfl, Ext.box hv 3 _ rfl⟩
  clear hI
  go_enter Try.func5, Try.ntmps5
  go_wp2_with fail
  refine (encode_k k d xs t _ HE.out _ _ _ (HI.out _ (Ext.refl _)) (by unfold maxLen at hn; omega) ht).mono ?_
  rintro r w1 ⟨rfl, hx1⟩
  go_wp2_with fail
  refine (efixed_yes _).mono ?_
  rintro r w2 ⟨rfl, hx2⟩
  have HX2 : Hid (Ext (w.alloc (.cells #[.int .i64 k, .int .i64 d, .slice A xs.length c, .string t] 24)) w2) := Lib.hid (hx1.trans hx2)
  clear hx1 hx2
  obtain ⟨a0, a1, a2, a3⟩ := HA.out _ HX2.out
  go_wp2_with fail
  refine (short_eq _ _ _ HSH.out _ (evs_single _ ⟨k, d, xs, t⟩ A c (HI.out _ HX2.out)) (by simp)).mono ?_
  rintro r w3 ⟨rfl, rfl⟩
  clear a0 a1 a2 a3
  have HT := Lib.hid ht
  clear ht
  obtain ⟨a0, a1, a2, a3⟩ := HA.out _ (HX2.out.alloc (.cells #[.int .i64 k, .int .i64 d, .slice A xs.length c, .string t] 24))
  go_wp2_with fail
  refine (rlen_eq d ld HLD.out _).mono ?_
  rintro r w4 ⟨rfl, hx4⟩
  have HX4 : Hid (Ext (w.alloc (.cells #[.int .i64 k, .int .i64 d, .slice A xs.length c, .string t] 24)) w4) := Lib.hid ((HX2.out.alloc (.cells #[.int .i64 k, .int .i64 d, .slice A xs.length c, .string t] 24)).trans hx4)
  clear a0 a1 a2 a3 hx4
  go_wp2
  go_loopw [6, 7] (fun nv i wr => nv = .int .i64 (1 + (ld : Int)) ∧ i = .int .i64 0 ∧ Ext (w.alloc (.cells #[.int .i64 k, .int .i64 d, .slice A xs.length c, .string t] 24)) wr) (fun _ i _ => 0)
  case atStart => exact ⟨by simp, rfl, HX4.out⟩
  case round =>
    obtain ⟨rfl, rfl, hx⟩ := hrel
    have HX := Lib.hid hx
    obtain ⟨a0, a1, a2, a3⟩ := HA.out _ HX.out
    clear hx
    obtain ⟨htz, hxl, ht3, htz9, hk128⟩ := HXL.out
    have HTZ := Lib.hid htz
    clear htz
    go_wp2
    clear a0 a1 a2 a3 hxl
    have ht := HT.out
    refine region_all (fun v => Ext (w.alloc (.cells #[.int .i64 k, .int .i64 d, .slice A xs.length c, .string t] 24)) v) (by kernel_rfl) HX.out.drew ?_
    have a3 : ∀ v, Ext (w.alloc (.cells #[.int .i64 k, .int .i64 d, .slice A xs.length c, .string t] 24)) v → v.cell? ⟨w.heap.size, 3, none⟩ = some (.string t) := fun v hv => (HA.out v hv).2.2.2
    have w1 : IntKind.i64.wrap ((tz : Int) + (t.size : Int)) = (tz : Int) + (t.size : Int) := IntWalk.i64_in _ (by omega)
    have w2 : IntKind.i64.wrap ((1 + (ld : Int)) + ((tz : Int) + (t.size : Int))) = (1 + (ld : Int)) + ((tz : Int) + (t.size : Int)) := IntWalk.i64_in _ (by omega)
    refine all_take (i := 0) (v := ?_) rfl (by kernel_rfl) (by kernel_rfl) (by kernel_rfl) (fun _ _ _ h => h) (Tame.yes (by kernel_rfl) fun w hS => ?_) ?_
    rotate_left 1
    · skip
      go_simp
      try simp only [w1, w2]
      refine gives_mk ?_ hS
      with_reducible rfl
    refine all_take (i := 1) (v := ?_) rfl (by kernel_rfl) (by kernel_rfl) (by kernel_rfl) (fun _ _ _ h => h) (Tame.yes (by kernel_rfl) fun w hS => ?_) ?_
    rotate_left 1
    · skip
      go_simp
      try simp only [w1, w2]
      refine gives_mk ?_ hS
      with_reducible rfl
    refine all_take (i := 2) (v := ?_) rfl (by kernel_rfl) (by kernel_rfl) (by kernel_rfl) (fun _ _ _ h => h) (Tame.yes (by kernel_rfl) fun w hS => ?_) ?_
    rotate_left 1
    · skip
      go_simp
      try simp only [w1, w2]
      refine gives_mk ?_ hS
      with_reducible rfl
    refine all_take (i := 3) (v := ?_) rfl (by kernel_rfl) (by kernel_rfl) (by kernel_rfl) (fun _ _ _ h => h) (Tame.yes (by kernel_rfl) fun w hS => ?_) ?_
    rotate_left 1
    · skip
      go_simp
      try simp only [w1, w2]
      refine gives_mk ?_ hS
      with_reducible rfl
    refine all_take (i := 4) (v := .int .i64 tz) rfl (by kernel_rfl) (by kernel_rfl) (by kernel_rfl) (fun _ _ _ h => h) (Tame.yes (by kernel_rfl) fun w hS => ?_) ?_
    · go_simp
      refine gives_call ((rlen_eq (t.size : Int) tz HTZ.out _).mono ?_)
      exact fun r w2 ⟨he, hx⟩ => ⟨he, hS.trans hx⟩
    refine all_take (i := 5) (v := ?_) rfl (by kernel_rfl) (by kernel_rfl) (by kernel_rfl) (fun _ _ _ h => h) (Tame.yes (by kernel_rfl) fun w hS => ?_) ?_
    rotate_left 1
    · skip
      go_simp
      try simp only [w1, w2]
      refine gives_mk ?_ hS
      with_reducible rfl
    refine all_take (i := 6) (v := ?_) rfl (by kernel_rfl) (by kernel_rfl) (by kernel_rfl) (fun _ _ _ h => h) (Tame.yes (by kernel_rfl) fun w hS => ?_) ?_
    rotate_left 1
    · skip
      go_simp
      try simp only [w1, w2]
      refine gives_mk ?_ hS
      with_reducible rfl
    refine all_take (i := 7) (v := ?_) rfl (by kernel_rfl) (by kernel_rfl) (by kernel_rfl) (fun _ _ _ h => h) (Tame.yes (by kernel_rfl) fun w hS => ?_) ?_
    rotate_left 1
    · skip
      go_simp
      try simp only [w1, w2]
      refine gives_mk ?_ hS
      with_reducible rfl
    refine all_take (i := 8) (v := ?_) rfl (by kernel_rfl) (by kernel_rfl) (by kernel_rfl) (fun _ _ _ h => h) (Tame.yes (by kernel_rfl) fun w hS => ?_) ?_
    rotate_left 1
    · skip
      go_simp
      try simp only [w1, w2]
      refine gives_mk ?_ hS
      with_reducible rfl
    refine all_take (i := 9) (v := ?_) rfl (by kernel_rfl) (by kernel_rfl) (by kernel_rfl) (fun _ _ _ h => h) (Tame.yes (by kernel_rfl) fun w hS => ?_) ?_
    rotate_left 1
    · skip
      go_simp
      try simp only [w1, w2]
      refine gives_mk ?_ hS
      with_reducible rfl
    refine all_take (i := 10) (v := ?_) rfl (by kernel_rfl) (by kernel_rfl) (by kernel_rfl) (fun _ _ _ h => h) (Tame.yes (by kernel_rfl) fun w hS => ?_) ?_
    rotate_left 1
    · skip
      go_simp
      try simp only [w1, w2]
      refine gives_mk ?_ hS
      with_reducible rfl
    refine all_done ?_ ?_ _
    · kernel_rfl
    intro w5 hw5
    have HX5 := Lib.hid hw5
    clear a3 w1 w2 hw5
    go_simp
    obtain ⟨a0, a1, a2, a3⟩ := HA.out _ HX5.out
    go_wp2_with fail
    refine (encode_k k dt xs t F HF.out _ _ _ (by first | exact HI.out _ (HX5.out.alloc _) | exact HI.out _ ((HX5.out.alloc _).setCell (by have := HX5.out.size; simp at *; omega) _)) (by omega) ht).mono ?_
    rintro r w6 ⟨rfl, hx6⟩
    have HX6 : Hid (Ext (w.alloc (.cells #[.int .i64 k, .int .i64 d, .slice A xs.length c, .string t] 24)) w6) := Lib.hid (by first | exact (HX5.out.alloc _).trans hx6 | exact ((HX5.out.alloc _).setCell (by have := HX5.out.size; simp at *; omega) _).trans hx6)
    clear hx6 a0 a1 a2 a3
    go_wp2
    have e1 : ((E.size : Int) == (1 + (ld : Int)) + ((tz : Int) + (t.size : Int))) = true := by have := HES.out; simp; omega
    have w3 : IntKind.i64.wrap ((1 + (ld : Int)) + ((tz : Int) + (t.size : Int)) - (ld : Int)) = (1 + (ld : Int)) + ((tz : Int) + (t.size : Int)) - (ld : Int) := IntWalk.i64_in _ (by omega)
    have w4 : IntKind.i64.wrap ((1 + (ld : Int)) + ((tz : Int) + (t.size : Int)) - (ld : Int) + (lt : Int)) = (1 + (ld : Int)) + ((tz : Int) + (t.size : Int)) - (ld : Int) + (lt : Int) := IntWalk.i64_in _ (by omega)
    have e2 : ((F.size : Int) == (1 + (ld : Int)) + ((tz : Int) + (t.size : Int)) - (ld : Int) + (lt : Int)) = true := by have := HFS.out; simp; omega
    refine region_all (fun v => Ext w6 v) (by kernel_rfl) (Ext.refl _).drew ?_
    have a1 : ∀ v, Ext w6 v → v.cell? ⟨w.heap.size, 1, none⟩ = some (.int .i64 d) := fun v hv => (HA.out v (HX6.out.trans hv)).2.1
    refine all_take (i := 0) (v := ?_) rfl (by kernel_rfl) (by kernel_rfl) (by kernel_rfl) (fun _ _ _ h => h) (Tame.yes (by kernel_rfl) fun w hS => ?_) ?_
    rotate_left 1
    · skip
      go_simp
      try simp only [e1, w3, w4, e2]
      refine gives_mk ?_ hS
      with_reducible rfl
    refine all_take (i := 1) (v := ?_) rfl (by kernel_rfl) (by kernel_rfl) (by kernel_rfl) (fun _ _ _ h => h) (Tame.yes (by kernel_rfl) fun w hS => ?_) ?_
    rotate_left 1
    · skip
      go_simp
      try simp only [e1, w3, w4, e2]
      refine gives_mk ?_ hS
      with_reducible rfl
    refine all_take (i := 2) (v := ?_) rfl (by kernel_rfl) (by kernel_rfl) (by kernel_rfl) (fun _ _ _ h => h) (Tame.yes (by kernel_rfl) fun w hS => ?_) ?_
    rotate_left 1
    · skip
      go_simp
      try simp only [e1, w3, w4, e2]
      refine gives_mk ?_ hS
      with_reducible rfl
    refine all_take (i := 3) (v := ?_) rfl (by kernel_rfl) (by kernel_rfl) (by kernel_rfl) (fun _ _ _ h => h) (Tame.yes (by kernel_rfl) fun w hS => ?_) ?_
    rotate_left 1
    · skip
      go_simp
      try simp only [e1, w3, w4, e2]
      refine gives_mk ?_ hS
      with_reducible rfl
    refine all_take (i := 4) (v := ?_) rfl (by kernel_rfl) (by kernel_rfl) (by kernel_rfl) (fun _ _ _ h => h) (Tame.yes (by kernel_rfl) fun w hS => ?_) ?_
    rotate_left 1
    · skip
      go_simp
      try simp only [e1, w3, w4, e2]
      refine gives_mk ?_ hS
      with_reducible rfl
    refine all_take (i := 5) (v := ?_) rfl (by kernel_rfl) (by kernel_rfl) (by kernel_rfl) (fun _ _ _ h => h) (Tame.yes (by kernel_rfl) fun w hS => ?_) ?_
    rotate_left 1
    · skip
      go_simp
      try simp only [e1, w3, w4, e2]
      refine gives_mk ?_ hS
      with_reducible rfl
    refine all_take (i := 6) (v := ?_) rfl (by kernel_rfl) (by kernel_rfl) (by kernel_rfl) (fun _ _ _ h => h) (Tame.yes (by kernel_rfl) fun w hS => ?_) ?_
    rotate_left 1
    · skip
      go_simp
      try simp only [e1, w3, w4, e2]
      refine gives_mk ?_ hS
      with_reducible rfl
    refine all_take (i := 7) (v := ?_) rfl (by kernel_rfl) (by kernel_rfl) (by kernel_rfl) (fun _ _ _ h => h) (Tame.yes (by kernel_rfl) fun w hS => ?_) ?_
    rotate_left 1
    · skip
      go_simp
      try simp only [e1, w3, w4, e2]
      refine gives_mk ?_ hS
      with_reducible rfl
    refine all_take (i := 8) (v := ?_) rfl (by kernel_rfl) (by kernel_rfl) (by kernel_rfl) (fun _ _ _ h => h) (Tame.yes (by kernel_rfl) fun w hS => ?_) ?_
    rotate_left 1
    · skip
      go_simp
      try simp only [e1, w3, w4, e2]
      refine gives_mk ?_ hS
      with_reducible rfl
    refine all_take (i := 9) (v := ?_) rfl (by kernel_rfl) (by kernel_rfl) (by kernel_rfl) (fun _ _ _ h => h) (Tame.yes (by kernel_rfl) fun w hS => ?_) ?_
    rotate_left 1
    · skip
      go_simp
      try simp only [e1, w3, w4, e2]
      refine gives_mk ?_ hS
      with_reducible rfl
    refine all_take (i := 10) (v := .int .i64 ld) rfl (by kernel_rfl) (by kernel_rfl) (by kernel_rfl) (fun _ _ _ h => h) (Tame.yes (by kernel_rfl) fun w hS => ?_) ?_
    · go_simp
      refine gives_call ((rlen_eq d ld HLD.out _).mono ?_)
      exact fun r w2 ⟨he, hx⟩ => ⟨he, hS.trans hx⟩
    refine all_take (i := 11) (v := ?_) rfl (by kernel_rfl) (by kernel_rfl) (by kernel_rfl) (fun _ _ _ h => h) (Tame.yes (by kernel_rfl) fun w hS => ?_) ?_
    rotate_left 1
    · skip
      go_simp
      try simp only [e1, w3, w4, e2]
      refine gives_mk ?_ hS
      with_reducible rfl
    refine all_take (i := 12) (v := ?_) rfl (by kernel_rfl) (by kernel_rfl) (by kernel_rfl) (fun _ _ _ h => h) (Tame.yes (by kernel_rfl) fun w hS => ?_) ?_
    rotate_left 1
    · skip
      go_simp
      try simp only [e1, w3, w4, e2]
      refine gives_mk ?_ hS
      with_reducible rfl
    refine all_take (i := 13) (v := .int .i64 lt) rfl (by kernel_rfl) (by kernel_rfl) (by kernel_rfl) (fun _ _ _ h => h) (Tame.yes (by kernel_rfl) fun w hS => ?_) ?_
    · go_simp
      refine gives_call ((rlen_eq dt lt HLT.out _).mono ?_)
      exact fun r w2 ⟨he, hx⟩ => ⟨he, hS.trans hx⟩
    refine all_take (i := 14) (v := ?_) rfl (by kernel_rfl) (by kernel_rfl) (by kernel_rfl) (fun _ _ _ h => h) (Tame.yes (by kernel_rfl) fun w hS => ?_) ?_
    rotate_left 1
    · skip
      go_simp
      try simp only [e1, w3, w4, e2]
      refine gives_mk ?_ hS
      with_reducible rfl
    refine all_take (i := 15) (v := ?_) rfl (by kernel_rfl) (by kernel_rfl) (by kernel_rfl) (fun _ _ _ h => h) (Tame.yes (by kernel_rfl) fun w hS => ?_) ?_
    rotate_left 1
    · skip
      go_simp
      try simp only [e1, w3, w4, e2]
      refine gives_mk ?_ hS
      with_reducible rfl
    refine all_take (i := 16) (v := ?_) rfl (by kernel_rfl) (by kernel_rfl) (by kernel_rfl) (fun _ _ _ h => h) (Tame.yes (by kernel_rfl) fun w hS => ?_) ?_
    rotate_left 1
    · skip
      go_simp
      try simp only [e1, w3, w4, e2]
      refine gives_mk ?_ hS
      with_reducible rfl
    refine all_take (i := 17) (v := ?_) rfl (by kernel_rfl) (by kernel_rfl) (by kernel_rfl) (fun _ _ _ h => h) (Tame.yes (by kernel_rfl) fun w hS => ?_) ?_
    rotate_left 1
    · skip
      go_simp
      try simp only [e1, w3, w4, e2]
      refine gives_mk ?_ hS
      with_reducible rfl
    refine all_take (i := 18) (v := ?_) rfl (by kernel_rfl) (by kernel_rfl) (by kernel_rfl) (fun _ _ _ h => h) (Tame.yes (by kernel_rfl) fun w hS => ?_) ?_
    rotate_left 1
    · skip
      go_simp
      try simp only [e1, w3, w4, e2]
      refine gives_mk ?_ hS
      with_reducible rfl
    have w1 : IntKind.i64.wrap (1 + (lt : Int)) = 1 + (lt : Int) := IntWalk.i64_in _ (by omega)
    have w2 : IntKind.i64.wrap (1 + (ld : Int)) = 1 + (ld : Int) := IntWalk.i64_in _ (by omega)
    have s1 : (0 : Int) ≤ 1 + (lt : Int) := by omega
    have s2 : 1 + (lt : Int) ≤ (F.size : Int) := by have := HFS.out; omega
    have s3 : (0 : Int) ≤ 1 + (ld : Int) := by omega
    have s4 : 1 + (ld : Int) ≤ (E.size : Int) := by have := HES.out; omega
    refine all_take (i := 19) (v := ?_) rfl (by kernel_rfl) (by kernel_rfl) (by kernel_rfl) (fun _ _ _ h => h) (Tame.yes (by kernel_rfl) fun w hS => ?_) ?_
    rotate_left 1
    · skip
      go_simp
      try simp only [dif_pos hF0, dif_pos hE0, hb0, w1, Result.andThen]
      refine gives_mk ?_ hS
      with_reducible rfl
    refine all_take (i := 20) (v := ?_) rfl (by kernel_rfl) (by kernel_rfl) (by kernel_rfl) (fun _ _ _ h => h) (Tame.yes (by kernel_rfl) fun w hS => ?_) ?_
    rotate_left 1
    · skip
      go_simp
      try simp only [dif_pos hF0, dif_pos hE0, hb0, w1, Result.andThen]
      refine gives_mk ?_ hS
      with_reducible rfl
    refine all_take (i := 21) (v := ?_) rfl (by kernel_rfl) (by kernel_rfl) (by kernel_rfl) (fun _ _ _ h => h) (Tame.yes (by kernel_rfl) fun w hS => ?_) ?_
    rotate_left 1
    · skip
      go_simp
      try simp only [dif_pos hF0, dif_pos hE0, hb0, w1, Result.andThen]
      refine gives_mk ?_ hS
      with_reducible rfl
    refine all_take (i := 22) (v := ?_) rfl (by kernel_rfl) (by kernel_rfl) (by kernel_rfl) (fun _ _ _ h => h) (Tame.yes (by kernel_rfl) fun w hS => ?_) ?_
    rotate_left 1
    · skip
      go_simp
      try simp only [dif_pos hF0, dif_pos hE0, hb0, w1, Result.andThen]
      refine gives_mk ?_ hS
      with_reducible rfl
    refine all_take (i := 23) (v := ?_) rfl (by kernel_rfl) (by kernel_rfl) (by kernel_rfl) (fun _ _ _ h => h) (Tame.yes (by kernel_rfl) fun w hS => ?_) ?_
    rotate_left 1
    · skip
      go_simp
      try simp only [dif_pos hF0, dif_pos hE0, hb0, w1, Result.andThen]
      refine gives_mk ?_ hS
      with_reducible rfl
    refine all_take (i := 24) (v := ?_) rfl (by kernel_rfl) (by kernel_rfl) (by kernel_rfl) (fun _ _ _ h => h) (Tame.yes (by kernel_rfl) fun w hS => ?_) ?_
    rotate_left 1
    · skip
      go_simp
      try simp only [dif_pos hF0, dif_pos hE0, hb0, w1, Result.andThen]
      refine gives_mk ?_ hS
      with_reducible rfl
    refine all_take (i := 25) (v := ?_) rfl (by kernel_rfl) (by kernel_rfl) (by kernel_rfl) (fun _ _ _ h => h) (Tame.yes (by kernel_rfl) fun w hS => ?_) ?_
    rotate_left 1
    · skip
      go_simp
      try simp only [dif_pos hF0, dif_pos hE0, hb0, w1, Result.andThen]
      refine gives_mk ?_ hS
      with_reducible rfl
    refine all_take (i := 26) (v := ?_) rfl (by kernel_rfl) (by kernel_rfl) (by kernel_rfl) (fun _ _ _ h => h) (Tame.yes (by kernel_rfl) fun w hS => ?_) ?_
    rotate_left 1
    · skip
      go_simp
      try simp only [dif_pos hF0, dif_pos hE0, hb0, w1, Result.andThen]
      refine gives_mk ?_ hS
      with_reducible rfl
    refine all_take (i := 27) (v := .int .i64 lt) rfl (by kernel_rfl) (by kernel_rfl) (by kernel_rfl) (fun _ _ _ h => h) (Tame.yes (by kernel_rfl) fun w hS => ?_) ?_
    · go_simp
      refine gives_call ((rlen_eq dt lt HLT.out _).mono ?_)
      exact fun r w2 ⟨he, hx⟩ => ⟨he, hS.trans hx⟩
    refine all_take (i := 28) (v := ?_) rfl (by kernel_rfl) (by kernel_rfl) (by kernel_rfl) (fun _ _ _ h => h) (Tame.yes (by kernel_rfl) fun w hS => ?_) ?_
    rotate_left 1
    · skip
      go_simp
      try simp only [dif_pos hF0, dif_pos hE0, hb0, w1, Result.andThen]
      refine gives_mk ?_ hS
      with_reducible rfl
    have h37 : ((F.extract (1 + (lt : Int)).toNat F.size).toList == (E.extract (1 + (ld : Int)).toNat E.size).toList) = true := by
      rw [show (1 + (lt : Int)).toNat = 1 + lt by omega, show (1 + (ld : Int)).toNat = 1 + ld by omega]; exact h36
    refine all_take (i := 29) (v := ?_) rfl (by kernel_rfl) (by kernel_rfl) (by kernel_rfl) (fun _ _ _ h => h) (Tame.yes (by kernel_rfl) fun w hS => ?_) ?_
    rotate_left 1
    · skip
      go_simp
      try simp only [h37, w2]
      refine gives_mk ?_ hS
      with_reducible rfl
    refine all_take (i := 30) (v := ?_) rfl (by kernel_rfl) (by kernel_rfl) (by kernel_rfl) (fun _ _ _ h => h) (Tame.yes (by kernel_rfl) fun w hS => ?_) ?_
    rotate_left 1
    · skip
      go_simp
      try simp only [h37, w2]
      refine gives_mk ?_ hS
      with_reducible rfl
    refine all_take (i := 31) (v := ?_) rfl (by kernel_rfl) (by kernel_rfl) (by kernel_rfl) (fun _ _ _ h => h) (Tame.yes (by kernel_rfl) fun w hS => ?_) ?_
    rotate_left 1
    · skip
      go_simp
      try simp only [h37, w2]
      refine gives_mk ?_ hS
      with_reducible rfl
    refine all_take (i := 32) (v := ?_) rfl (by kernel_rfl) (by kernel_rfl) (by kernel_rfl) (fun _ _ _ h => h) (Tame.yes (by kernel_rfl) fun w hS => ?_) ?_
    rotate_left 1
    · skip
      go_simp
      try simp only [h37, w2]
      refine gives_mk ?_ hS
      with_reducible rfl
    refine all_take (i := 33) (v := .int .i64 ld) rfl (by kernel_rfl) (by kernel_rfl) (by kernel_rfl) (fun _ _ _ h => h) (Tame.yes (by kernel_rfl) fun w hS => ?_) ?_
    · go_simp
      refine gives_call ((rlen_eq d ld HLD.out _).mono ?_)
      exact fun r w2 ⟨he, hx⟩ => ⟨he, hS.trans hx⟩
    refine all_take (i := 34) (v := ?_) rfl (by kernel_rfl) (by kernel_rfl) (by kernel_rfl) (fun _ _ _ h => h) (Tame.yes (by kernel_rfl) fun w hS => ?_) ?_
    rotate_left 1
    · skip
      go_simp
      try simp only [h37, w2]
      refine gives_mk ?_ hS
      with_reducible rfl
    refine all_take (i := 35) (v := ?_) rfl (by kernel_rfl) (by kernel_rfl) (by kernel_rfl) (fun _ _ _ h => h) (Tame.yes (by kernel_rfl) fun w hS => ?_) ?_
    rotate_left 1
    · skip
      go_simp
      try simp only [h37, w2]
      refine gives_mk ?_ hS
      with_reducible rfl
    refine all_take (i := 36) (v := ?_) rfl (by kernel_rfl) (by kernel_rfl) (by kernel_rfl) (fun _ _ _ h => h) (Tame.yes (by kernel_rfl) fun w hS => ?_) ?_
    rotate_left 1
    · skip
      go_simp
      try simp only [h37, w2]
      refine gives_mk ?_ hS
      with_reducible rfl
    refine all_take (i := 37) (v := ?_) rfl (by kernel_rfl) (by kernel_rfl) (by kernel_rfl) (fun _ _ _ h => h) (Tame.yes (by kernel_rfl) fun w hS => ?_) ?_
    rotate_left 1
    · skip
      go_simp
      try simp only [h37, w2]
      refine gives_mk ?_ hS
      with_reducible rfl
    refine all_take (i := 38) (v := ?_) rfl (by kernel_rfl) (by kernel_rfl) (by kernel_rfl) (fun _ _ _ h => h) (Tame.yes (by kernel_rfl) fun w hS => ?_) ?_
    rotate_left 1
    · skip
      go_simp
      try simp only [h37, w2]
      refine gives_mk ?_ hS
      with_reducible rfl
    refine all_done ?_ ?_ _
    · kernel_rfl
    intro w7 hw7
    clear a1 e1 e2 w3 w4 hb0 h36 h37 w1 w2 s1 s2 s3 s4
    go_simp
    go_wp2
    go_ret
    exact ⟨rfl, ((Ext.refl w).alloc _).trans (HX6.out.trans hw7)⟩

end Go.Proofs.Ytnomofnhfaeohaa
