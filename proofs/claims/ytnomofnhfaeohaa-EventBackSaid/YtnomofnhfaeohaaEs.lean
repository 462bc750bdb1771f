/-
  The walk of the statement EventBack: for every list of events, every number and every text it returns true.
-/
import Derived.Test.YtnomofnhfaeohaaEr
import Derived.Deep.DeepCutAuto
set_option linter.unusedVariables false
set_option linter.unusedSimpArgs false
namespace Go.Proofs.Ytnomofnhfaeohaa
open Go.RowKit

set_option maxRecDepth 100000 in
set_option maxHeartbeats 1000000 in
theorem eback_out (v : Value) (l : List Ev) (cut : Int) (s : ByteArray) (w : World) (h : EvsAt w v l) (hl : l.length ≤ maxLen) (hs : s.size ≤ maxLen) (ho : Ev.short l = false ∨ 5000 < s.size) :
    Calls Try.prog 4 #[v, .int .i64 cut, .string s] w fun e w' => e = .returned (.bool true) ∧ Ext w w' := by
  unfold maxLen at hs
  cases hsh : Ev.short l with
  | false =>
    have HSH := Lib.hid hsh
    clear hsh ho
    go_enter Try.func4, Try.ntmps4
    go_wp2_with fail
    refine (efixed_yes _).mono ?_
    rintro r w1 ⟨rfl, hx1⟩
    go_wp2_with fail
    refine (short_eq v l false HSH.out _ (h.ext hx1) hl).mono ?_
    rintro r w2 ⟨rfl, rfl⟩
    go_wp2_with fail
    refine (efixed_yes _).mono ?_
    rintro r w2 ⟨rfl, hx2⟩
    go_wp2
    go_ret
    exact ⟨rfl, hx1.trans hx2⟩
  | true =>
    have h5 : 5000 < s.size := by rcases ho with ho | ho; · rw [hsh] at ho; cases ho
                                  · exact ho
    have HSH := Lib.hid hsh
    clear hsh ho
    go_enter Try.func4, Try.ntmps4
    go_wp2_with fail
    refine (efixed_yes _).mono ?_
    rintro r w1 ⟨rfl, hx1⟩
    go_wp2_with fail
    refine (short_eq v l true HSH.out _ (h.ext hx1) hl).mono ?_
    rintro r w2 ⟨rfl, rfl⟩
    go_wp2_with fail
    refine (efixed_yes _).mono ?_
    rintro r w2 ⟨rfl, hx2⟩
    go_wp2
    go_ret
    exact ⟨rfl, hx1.trans hx2⟩
set_option maxRecDepth 100000 in
set_option maxHeartbeats 1000000 in
theorem eback_in (A : Option Addr) (c : Nat) (l : List Ev) (cut : Int) (s : ByteArray) (w : World) (hA : 0 < l.length → ∃ b o, A = some ⟨b, o, none⟩ ∧ b < w.heap.size ∧ ∀ j e, l[j]? = some e → EvCell w b (o + j * 4) e) (hsh : Ev.short l = true) (hs : s.size ≤ 5000) (hcut : cut < 0 ∨ ∃ q : Nat, cut = q) :
    Calls Try.prog 4 #[.slice A l.length c, .int .i64 cut, .string s] w fun e w' => e = .returned (.bool true) ∧ Ext w w' := by
  have hEv : EvsAt w (.slice A l.length c) l := ⟨A, c, rfl, hA⟩
  have HEv := Lib.hid hEv
  have HA := Lib.hid hA
  have HSH := Lib.hid hsh
  obtain ⟨hall, h60⟩ := Ev.short_all hsh
  have HALL := Lib.hid hall
  have HC := Lib.hid hcut
  clear hEv hA hsh hall hcut
  go_enter Try.func4, Try.ntmps4
  go_wp2_with fail
  refine (efixed_yes _).mono ?_
  rintro r w1 ⟨rfl, hx1⟩
  have HX1 := Lib.hid hx1
  clear hx1
  go_wp2_with fail
  refine (short_eq _ l true HSH.out _ (HEv.out.ext HX1.out) (by omega)).mono ?_
  rintro r w2 ⟨rfl, rfl⟩
  have HP : Hid (((Ev.decP s 0).2.2 = 0 ∧ ∃ (e : Ev) (c : Nat), Ev.decP s 0 = (e, (c : Int), 0) ∧ e.may = true ∧ c ≤ s.size ∧ e.enc = s.extract 0 c ∧ e.text.size ≤ s.size ∧ e.args.length ≤ 3) ∨ ¬ (Ev.decP s 0).2.2 = 0) := Lib.hid (by
    have hd := Ev.decP_nat s 0 (by omega)
    rw [List.drop_zero] at hd
    by_cases h0 : (Ev.dec s.data.toList).2.2 = 0
    · exact .inl ⟨by rw [show ((0 : Int)) = ((0 : Nat) : Int) from rfl, hd]; simp only; omega, Ev.dec_first h0⟩
    · exact .inr (by rw [show ((0 : Int)) = ((0 : Nat) : Int) from rfl, hd]; simp only; omega))
  rcases hp : Ev.decP s 0 with ⟨⟨k, d, xs, t⟩, p, q⟩
  rw [hp] at HP
  have HPP := Lib.hid hp
  clear hp
  go_wp2_with fail
  refine (decode_k s 0 k d xs t p q HPP.out _ (by unfold maxLen; omega)).mono ?_
  rintro r w3 ⟨A3, c3, rfl, hI3, hx3⟩
  have HX3 := Lib.hid (HX1.out.trans hx3)
  have HI3 := Lib.hid hI3
  clear hx3 hI3
  go_upto_region 4 with fail
  go_cut [62] (fun s62 wx => s62 = .bool false ∧ Ext w wx)
  case first =>
    rename_i q1 q2 q3 q4
    have HW4 : Hid (Ext w (w3.alloc (.cells #[.int .i64 k, .int .i64 d, .slice A3 xs.length c3, .string t] 24))) := Lib.hid (HX3.out.alloc _)
    rcases HP.out with ⟨hq, e, n0, he, hm, hn0, henc, htx, hxs⟩ | hq
    · simp only [Prod.mk.injEq] at he
      obtain ⟨rfl, rfl, _⟩ := he
      simp only at hq hm henc htx hxs
      subst hq
      have hmin : min (n0 : Int) (s.size : Int) = (n0 : Int) := by omega
      have h1 : decide (s.size < n0) = false := by simp; omega
      have h2 : (0 : Int) ≤ (n0 : Int) := by omega
      have h3 : (n0 : Int) ≤ (s.size : Int) := by omega
      have HM := Lib.hid hm
      have hnn : ((s.extract 0 n0).toList != (s.extract 0 n0).toList) = false := by simp
      have HEN := Lib.hid henc
      clear hm henc HP
      refine region_all (fun v => Ext (w3.alloc (.cells #[.int .i64 k, .int .i64 d, .slice A3 xs.length c3, .string t] 24)) v) (by kernel_rfl) (Ext.refl _).drew ?_
      have k0 : ∀ v, Ext (w3.alloc (.cells #[.int .i64 k, .int .i64 d, .slice A3 xs.length c3, .string t] 24)) v → v.cell? ⟨w3.heap.size, 0, none⟩ = some (.int .i64 k) := fun v hv => Ext.box hv 0 _ rfl
      have k1 : ∀ v, Ext (w3.alloc (.cells #[.int .i64 k, .int .i64 d, .slice A3 xs.length c3, .string t] 24)) v → v.cell? ⟨w3.heap.size, 1, none⟩ = some (.int .i64 d) := fun v hv => Ext.box hv 1 _ rfl
      have k2 : ∀ v, Ext (w3.alloc (.cells #[.int .i64 k, .int .i64 d, .slice A3 xs.length c3, .string t] 24)) v → v.cell? ⟨w3.heap.size, 2, none⟩ = some (.slice A3 xs.length c3) := fun v hv => Ext.box hv 2 _ rfl
      have k3 : ∀ v, Ext (w3.alloc (.cells #[.int .i64 k, .int .i64 d, .slice A3 xs.length c3, .string t] 24)) v → v.cell? ⟨w3.heap.size, 3, none⟩ = some (.string t) := fun v hv => Ext.box hv 3 _ rfl
      refine all_take (i := 0) (v := ?_) rfl (by kernel_rfl) (by kernel_rfl) (by kernel_rfl) (fun _ _ _ h => h) (Tame.yes (by kernel_rfl) fun w hS => ?_) ?_
      rotate_left 1
      · skip
        go_simp
        try simp only [h1, hmin, hnn]
        refine gives_mk ?_ hS
        with_reducible rfl
      refine all_take (i := 1) (v := ?_) rfl (by kernel_rfl) (by kernel_rfl) (by kernel_rfl) (fun _ _ _ h => h) (Tame.yes (by kernel_rfl) fun w hS => ?_) ?_
      rotate_left 1
      · skip
        go_simp
        try simp only [h1, hmin, hnn]
        refine gives_mk ?_ hS
        with_reducible rfl
      refine all_take (i := 2) (v := ?_) rfl (by kernel_rfl) (by kernel_rfl) (by kernel_rfl) (fun _ _ _ h => h) (Tame.yes (by kernel_rfl) fun w hS => ?_) ?_
      rotate_left 1
      · skip
        go_simp
        try simp only [h1, hmin, hnn]
        refine gives_mk ?_ hS
        with_reducible rfl
      refine all_take (i := 3) (v := ?_) rfl (by kernel_rfl) (by kernel_rfl) (by kernel_rfl) (fun _ _ _ h => h) (Tame.yes (by kernel_rfl) fun w hS => ?_) ?_
      rotate_left 1
      · skip
        go_simp
        try simp only [h1, hmin, hnn]
        refine gives_mk ?_ hS
        with_reducible rfl
      refine all_take (i := 4) (v := .bool true) rfl (by kernel_rfl) (by kernel_rfl) (by kernel_rfl) (fun _ _ _ h => h) (Tame.yes (by kernel_rfl) fun w hS => ?_) ?_
      · go_simp
        refine gives_call ((may_k k d xs t true HM.out _ _ _ (HI3.out.ext (((Ext.refl w3).alloc _).trans hS)) (by omega)).mono ?_)
        exact fun r w2 ⟨he, hx⟩ => ⟨he, hS.trans hx⟩
      refine all_take (i := 5) (v := ?_) rfl (by kernel_rfl) (by kernel_rfl) (by kernel_rfl) (fun _ _ _ h => h) (Tame.yes (by kernel_rfl) fun w hS => ?_) ?_
      rotate_left 1
      · skip
        go_simp
        try simp only [h1, hmin, hnn]
        refine gives_mk ?_ hS
        with_reducible rfl
      refine all_take (i := 6) (v := ?_) rfl (by kernel_rfl) (by kernel_rfl) (by kernel_rfl) (fun _ _ _ h => h) (Tame.yes (by kernel_rfl) fun w hS => ?_) ?_
      rotate_left 1
      · skip
        go_simp
        try simp only [h1, hmin, hnn]
        refine gives_mk ?_ hS
        with_reducible rfl
      refine all_take (i := 7) (v := ?_) rfl (by kernel_rfl) (by kernel_rfl) (by kernel_rfl) (fun _ _ _ h => h) (Tame.yes (by kernel_rfl) fun w hS => ?_) ?_
      rotate_left 1
      · skip
        go_simp
        try simp only [h1, hmin, hnn]
        refine gives_mk ?_ hS
        with_reducible rfl
      refine all_take (i := 8) (v := ?_) rfl (by kernel_rfl) (by kernel_rfl) (by kernel_rfl) (fun _ _ _ h => h) (Tame.yes (by kernel_rfl) fun w hS => ?_) ?_
      rotate_left 1
      · skip
        go_simp
        try simp only [h1, hmin, hnn]
        refine gives_mk ?_ hS
        with_reducible rfl
      refine all_take (i := 9) (v := ?_) rfl (by kernel_rfl) (by kernel_rfl) (by kernel_rfl) (fun _ _ _ h => h) (Tame.yes (by kernel_rfl) fun w hS => ?_) ?_
      rotate_left 1
      · skip
        go_simp
        try simp only [h1, hmin, hnn]
        refine gives_mk ?_ hS
        with_reducible rfl
      refine all_take (i := 10) (v := ?_) rfl (by kernel_rfl) (by kernel_rfl) (by kernel_rfl) (fun _ _ _ h => h) (Tame.yes (by kernel_rfl) fun w hS => ?_) ?_
      rotate_left 1
      · skip
        go_simp
        try simp only [h1, hmin, hnn]
        refine gives_mk ?_ hS
        with_reducible rfl
      refine all_take (i := 11) (v := ?_) rfl (by kernel_rfl) (by kernel_rfl) (by kernel_rfl) (fun _ _ _ h => h) (Tame.yes (by kernel_rfl) fun w hS => ?_) ?_
      rotate_left 1
      · skip
        go_simp
        try simp only [h1, hmin, hnn]
        refine gives_mk ?_ hS
        with_reducible rfl
      refine all_take (i := 12) (v := ?_) rfl (by kernel_rfl) (by kernel_rfl) (by kernel_rfl) (fun _ _ _ h => h) (Tame.yes (by kernel_rfl) fun w hS => ?_) ?_
      rotate_left 1
      · skip
        go_simp
        try simp only [h1, hmin, hnn]
        refine gives_mk ?_ hS
        with_reducible rfl
      refine all_take (i := 13) (v := ?_) rfl (by kernel_rfl) (by kernel_rfl) (by kernel_rfl) (fun _ _ _ h => h) (Tame.yes (by kernel_rfl) fun w hS => ?_) ?_
      rotate_left 1
      · skip
        go_simp
        try simp only [h1, hmin, hnn]
        refine gives_mk ?_ hS
        with_reducible rfl
      refine all_take (i := 14) (v := .string (s.extract 0 n0)) rfl (by kernel_rfl) (by kernel_rfl) (by kernel_rfl) (fun _ _ _ h => h) (Tame.yes (by kernel_rfl) fun w hS => ?_) ?_
      · go_simp
        refine gives_call ((encode_k k d xs t _ HEN.out _ _ _ (HI3.out.ext (((Ext.refl w3).alloc _).trans hS)) (by omega) (by omega)).mono ?_)
        exact fun r w2 ⟨he, hx⟩ => ⟨he, hS.trans hx⟩
      refine all_take (i := 15) (v := ?_) rfl (by kernel_rfl) (by kernel_rfl) (by kernel_rfl) (fun _ _ _ h => h) (Tame.yes (by kernel_rfl) fun w hS => ?_) ?_
      rotate_left 1
      · skip
        go_simp
        try simp only [h1, hmin, hnn]
        refine gives_mk ?_ hS
        with_reducible rfl
      refine all_take (i := 16) (v := ?_) rfl (by kernel_rfl) (by kernel_rfl) (by kernel_rfl) (fun _ _ _ h => h) (Tame.yes (by kernel_rfl) fun w hS => ?_) ?_
      rotate_left 1
      · skip
        go_simp
        try simp only [h1, hmin, hnn]
        refine gives_mk ?_ hS
        with_reducible rfl
      refine all_take (i := 17) (v := ?_) rfl (by kernel_rfl) (by kernel_rfl) (by kernel_rfl) (fun _ _ _ h => h) (Tame.yes (by kernel_rfl) fun w hS => ?_) ?_
      rotate_left 1
      · skip
        go_simp
        try simp only [h1, hmin, hnn]
        refine gives_mk ?_ hS
        with_reducible rfl
      refine all_take (i := 18) (v := ?_) rfl (by kernel_rfl) (by kernel_rfl) (by kernel_rfl) (fun _ _ _ h => h) (Tame.yes (by kernel_rfl) fun w hS => ?_) ?_
      rotate_left 1
      · skip
        go_simp
        try simp only [h1, hmin, hnn]
        refine gives_mk ?_ hS
        with_reducible rfl
      refine all_take (i := 19) (v := ?_) rfl (by kernel_rfl) (by kernel_rfl) (by kernel_rfl) (fun _ _ _ h => h) (Tame.yes (by kernel_rfl) fun w hS => ?_) ?_
      rotate_left 1
      · skip
        go_simp
        try simp only [h1, hmin, hnn]
        refine gives_mk ?_ hS
        with_reducible rfl
      refine all_take (i := 20) (v := ?_) rfl (by kernel_rfl) (by kernel_rfl) (by kernel_rfl) (fun _ _ _ h => h) (Tame.yes (by kernel_rfl) fun w hS => ?_) ?_
      rotate_left 1
      · skip
        go_simp
        try simp only [h1, hmin, hnn]
        refine gives_mk ?_ hS
        with_reducible rfl
      refine all_take (i := 21) (v := ?_) rfl (by kernel_rfl) (by kernel_rfl) (by kernel_rfl) (fun _ _ _ h => h) (Tame.yes (by kernel_rfl) fun w hS => ?_) ?_
      rotate_left 1
      · skip
        go_simp
        try simp only [h1, hmin, hnn]
        refine gives_mk ?_ hS
        with_reducible rfl
      refine all_take (i := 22) (v := ?_) rfl (by kernel_rfl) (by kernel_rfl) (by kernel_rfl) (fun _ _ _ h => h) (Tame.yes (by kernel_rfl) fun w hS => ?_) ?_
      rotate_left 1
      · skip
        go_simp
        try simp only [h1, hmin, hnn]
        refine gives_mk ?_ hS
        with_reducible rfl
      refine all_take (i := 23) (v := ?_) rfl (by kernel_rfl) (by kernel_rfl) (by kernel_rfl) (fun _ _ _ h => h) (Tame.yes (by kernel_rfl) fun w hS => ?_) ?_
      rotate_left 1
      · skip
        go_simp
        try simp only [h1, hmin, hnn]
        refine gives_mk ?_ hS
        with_reducible rfl
      refine all_done ?_ ?_ _
      · kernel_rfl
      intro w5 hw5
      clear k0 k1 k2 k3 h1 hmin hnn
      go_simp
      first | refine q4 _ _ (Met.intro (q3 _ _ ?_)) | refine Met.intro (q3 _ _ ?_) | refine q3 _ _ ?_
      repeat apply Exists.intro
      refine ⟨?rel, rfl⟩
      case rel => exact ⟨rfl, HX3.out.trans (((Ext.refl w3).alloc _).trans hw5)⟩
    · have h1 : (q == 0) = false := by simpa using hq
      clear HP
      refine region_all (fun v => Ext w v) (by kernel_rfl) HW4.out.drew ?_
      refine all_take (i := 0) (v := ?_) rfl (by kernel_rfl) (by kernel_rfl) (by kernel_rfl) (fun _ _ _ h => h) (Tame.yes (by kernel_rfl) fun w hS => ?_) ?_
      rotate_left 1
      · skip
        go_simp
        try simp only [h1]
        refine gives_mk ?_ hS
        with_reducible rfl
      refine all_take (i := 1) (v := ?_) rfl (by kernel_rfl) (by kernel_rfl) (by kernel_rfl) (fun _ _ _ h => h) (Tame.yes (by kernel_rfl) fun w hS => ?_) ?_
      rotate_left 1
      · skip
        go_simp
        try simp only [h1]
        refine gives_mk ?_ hS
        with_reducible rfl
      refine all_take (i := 2) (v := ?_) rfl (by kernel_rfl) (by kernel_rfl) (by kernel_rfl) (fun _ _ _ h => h) (Tame.yes (by kernel_rfl) fun w hS => ?_) ?_
      rotate_left 1
      · skip
        go_simp
        try simp only [h1]
        refine gives_mk ?_ hS
        with_reducible rfl
      refine all_take (i := 3) rfl (by kernel_rfl) (by kernel_rfl) (by kernel_rfl) (fun _ _ _ h => h) (Tame.no (by kernel_rfl)) ?_
      refine all_take (i := 4) rfl (by kernel_rfl) (by kernel_rfl) (by kernel_rfl) (fun _ _ _ h => h) (Tame.no (by kernel_rfl)) ?_
      refine all_take (i := 5) rfl (by kernel_rfl) (by kernel_rfl) (by kernel_rfl) (fun _ _ _ h => h) (Tame.no (by kernel_rfl)) ?_
      refine all_take (i := 6) rfl (by kernel_rfl) (by kernel_rfl) (by kernel_rfl) (fun _ _ _ h => h) (Tame.no (by kernel_rfl)) ?_
      refine all_take (i := 7) rfl (by kernel_rfl) (by kernel_rfl) (by kernel_rfl) (fun _ _ _ h => h) (Tame.no (by kernel_rfl)) ?_
      refine all_take (i := 8) rfl (by kernel_rfl) (by kernel_rfl) (by kernel_rfl) (fun _ _ _ h => h) (Tame.no (by kernel_rfl)) ?_
      refine all_take (i := 9) rfl (by kernel_rfl) (by kernel_rfl) (by kernel_rfl) (fun _ _ _ h => h) (Tame.no (by kernel_rfl)) ?_
      refine all_take (i := 10) rfl (by kernel_rfl) (by kernel_rfl) (by kernel_rfl) (fun _ _ _ h => h) (Tame.no (by kernel_rfl)) ?_
      refine all_take (i := 11) rfl (by kernel_rfl) (by kernel_rfl) (by kernel_rfl) (fun _ _ _ h => h) (Tame.no (by kernel_rfl)) ?_
      refine all_take (i := 12) rfl (by kernel_rfl) (by kernel_rfl) (by kernel_rfl) (fun _ _ _ h => h) (Tame.no (by kernel_rfl)) ?_
      refine all_take (i := 13) rfl (by kernel_rfl) (by kernel_rfl) (by kernel_rfl) (fun _ _ _ h => h) (Tame.no (by kernel_rfl)) ?_
      refine all_take (i := 14) rfl (by kernel_rfl) (by kernel_rfl) (by kernel_rfl) (fun _ _ _ h => h) (Tame.no (by kernel_rfl)) ?_
      refine all_take (i := 15) rfl (by kernel_rfl) (by kernel_rfl) (by kernel_rfl) (fun _ _ _ h => h) (Tame.no (by kernel_rfl)) ?_
      refine all_take (i := 16) rfl (by kernel_rfl) (by kernel_rfl) (by kernel_rfl) (fun _ _ _ h => h) (Tame.no (by kernel_rfl)) ?_
      refine all_take (i := 17) rfl (by kernel_rfl) (by kernel_rfl) (by kernel_rfl) (fun _ _ _ h => h) (Tame.no (by kernel_rfl)) ?_
      refine all_take (i := 18) rfl (by kernel_rfl) (by kernel_rfl) (by kernel_rfl) (fun _ _ _ h => h) (Tame.no (by kernel_rfl)) ?_
      refine all_take (i := 19) rfl (by kernel_rfl) (by kernel_rfl) (by kernel_rfl) (fun _ _ _ h => h) (Tame.no (by kernel_rfl)) ?_
      refine all_take (i := 20) rfl (by kernel_rfl) (by kernel_rfl) (by kernel_rfl) (fun _ _ _ h => h) (Tame.no (by kernel_rfl)) ?_
      refine all_take (i := 21) rfl (by kernel_rfl) (by kernel_rfl) (by kernel_rfl) (fun _ _ _ h => h) (Tame.no (by kernel_rfl)) ?_
      refine all_take (i := 22) rfl (by kernel_rfl) (by kernel_rfl) (by kernel_rfl) (fun _ _ _ h => h) (Tame.no (by kernel_rfl)) ?_
      refine all_take (i := 23) (v := ?_) rfl (by kernel_rfl) (by kernel_rfl) (by kernel_rfl) (fun _ _ _ h => h) (Tame.yes (by kernel_rfl) fun w hS => ?_) ?_
      rotate_left 1
      · skip
        go_simp
        try simp only [h1]
        refine gives_mk ?_ hS
        with_reducible rfl
      refine all_done ?_ ?_ _
      · kernel_rfl
      intro w5 hw5
      clear h1
      go_simp
      first | refine q4 _ _ (Met.intro (q3 _ _ ?_)) | refine Met.intro (q3 _ _ ?_) | refine q3 _ _ ?_
      repeat apply Exists.intro
      refine ⟨?rel, rfl⟩
      case rel => exact ⟨rfl, hw5⟩
  case rest =>
    obtain ⟨rfl, hx⟩ := hcut
    have HX := Lib.hid hx
    clear hx HX3 HI3 HPP HP HX1
    go_wp2
    go_loopw [10, 11] (fun tv i wr => ∃ j : Nat, j ≤ l.length ∧ tv = .string (Ev.cats (l.take j)) ∧ i = .int .i64 j ∧ (∀ e ∈ l.take j, e.may = true) ∧ Ext w wr) (fun _ i _ => l.length - (intOf i).toNat)
    case atStart => exact ⟨0, by omega, rfl, rfl, by simp, HX.out⟩
    case round =>
      clear HX
      obtain ⟨j, hj, rfl, rfl, hmay, hx⟩ := hrel
      have HX := Lib.hid hx
      have HMAY := Lib.hid hmay
      clear hx hmay
      by_cases hlt : j < l.length
      · have HT : Hid (l.take (j + 1) = l.take j ++ [l[j]]) := Lib.hid (by rw [List.take_succ_eq_append_getElem hlt])
        obtain ⟨b, o, rfl, hb, hc⟩ := HA.out (by omega)
        have HEL : Hid (EvCell w b (o + j * 4) l[j]) := Lib.hid (hc j _ (List.getElem?_eq_getElem hlt))
        have HSZ := Lib.hid (Ev.short_sizes (HALL.out l[j] (List.getElem_mem hlt)))
        have HCZ : Hid ((Ev.cats (l.take j)).size ≤ 30000) := Lib.hid (by
          rw [Ev.cats_size]
          have := Ev.catL_le (l.take j) (fun e he => ⟨HMAY.out e he, HALL.out e (List.mem_of_mem_take he)⟩)
          rw [List.length_take] at this
          omega)
        clear hc
        generalize l[j] = e at *
        obtain ⟨k', d', xs', t'⟩ := e
        obtain ⟨A', c', e0, e1, e2, e3, hi⟩ := HEL.out.ext HX.out hb
        have HI := Lib.hid hi
        obtain ⟨hz1, hz2⟩ := HSZ.out
        simp only at e0 e1 e2 e3 hz1 hz2
        clear hi
        cases hm : Ev.may ⟨k', d', xs', t'⟩ with
        | false =>
          have HM := Lib.hid hm
          have HE : Hid (Ev.enc ⟨k', d', xs', t'⟩ = ⟨#[]⟩) := Lib.hid (by unfold Ev.enc; rw [hm]; simp)
          clear hm
          go_wp2_with fail
          refine (may_k k' d' xs' t' false HM.out _ _ _ HI.out (by omega)).mono ?_
          rintro r w4 ⟨rfl, hx4⟩
          have HX4 := Lib.hid (HX.out.trans hx4)
          clear e0 e1 e2 e3 hx4 HI
          obtain ⟨A', c', e0, e1, e2, e3, hi⟩ := HEL.out.ext HX4.out hb
          have HI := Lib.hid hi
          simp only at e0 e1 e2 e3
          clear hi
          go_wp2_with fail
          refine (encode_k k' d' xs' t' _ HE.out _ _ _ HI.out (by omega) (by omega)).mono ?_
          rintro r w5 ⟨rfl, hx5⟩
          go_wp2
          go_ret
          exact ⟨rfl, HX4.out.trans hx5⟩
        | true =>
          have HM := Lib.hid hm
          have hez : (Ev.enc ⟨k', d', xs', t'⟩).size ≤ 500 := by
            rw [Ev.enc_size hm]
            have := Ev.encL_le hm (by unfold Va.most; simp only; omega)
            simp only at this
            omega
          have hcz := HCZ.out
          have HSN := Lib.hid (Ev.cats_snoc (l.take j) hm)
          clear hm
          go_wp2_with fail
          refine (may_k k' d' xs' t' true HM.out _ _ _ HI.out (by omega)).mono ?_
          rintro r w4 ⟨rfl, hx4⟩
          have HX4 := Lib.hid (HX.out.trans hx4)
          clear e0 e1 e2 e3 hx4 HI
          obtain ⟨A', c', e0, e1, e2, e3, hi⟩ := HEL.out.ext HX4.out hb
          have HI := Lib.hid hi
          simp only at e0 e1 e2 e3
          clear hi
          go_wp2_with fail
          refine (encode_k k' d' xs' t' _ rfl _ _ _ HI.out (by omega) (by omega)).mono ?_
          rintro r w5 ⟨rfl, hx5⟩
          go_wp2
          go_roundw
          case rel =>
            refine ⟨j + 1, by omega, ?_, by go_num, ?_, HX4.out.trans hx5⟩
            · rw [HT.out, ← HSN.out]
            · rw [HT.out]
              intro x hx
              rcases List.mem_append.1 hx with hx | hx
              · exact HMAY.out x hx
              · rw [List.mem_singleton.1 hx]; exact HM.out
          case measure => simp [intOf]; omega
      · obtain rfl : j = l.length := by omega
        have HM : Hid (∀ e ∈ l, e.may = true) := Lib.hid (by have := HMAY.out; rwa [List.take_length] at this)
        have hcz : (Ev.cats l).size ≤ 30000 := by
          rw [Ev.cats_size]
          have := Ev.catL_le l (fun e he => ⟨HM.out e he, HALL.out e he⟩)
          omega
        have htl : l.take l.length = l := List.take_length
        rw [htl]
        clear htl HMAY
        go_wp2
        go_loopw [12, 13] (fun a i wr => ∃ j : Nat, j ≤ l.length ∧ a = .int .i64 ((Ev.cats (l.take j)).size : Nat) ∧ i = .int .i64 j ∧ Ext w wr) (fun _ i _ => l.length - (intOf i).toNat)
        case atStart => exact ⟨0, by omega, rfl, rfl, HX.out⟩
        case round =>
          clear HX
          obtain ⟨j, hj, rfl, rfl, hx⟩ := hrel
          have HX := Lib.hid hx
          clear hx
          by_cases hlt : j < l.length
          · obtain ⟨b, o, rfl, hb, hc⟩ := HA.out (by omega)
            obtain ⟨A', c', e0, e1, e2, e3, hi⟩ := hc j _ (List.getElem?_eq_getElem hlt)
            have HSZ := Lib.hid (Ev.short_sizes (HALL.out l[j] (List.getElem_mem hlt)))
            have hmj := HM.out l[j] (List.getElem_mem hlt)
            have htj : l[j].text.size < Va.most := by have := HSZ.out.2; unfold Va.most; omega
            have HAT := Lib.hid (Ev.cats_at l j hlt hmj htj)
            have HCUT : Hid (∀ q, (Ev.cats (l.take j)).size ≤ q → q < (Ev.cats (l.take (j + 1))).size → Ev.decP ((Ev.cats l).extract 0 q) ((Ev.cats (l.take j)).size : Int) = (⟨0, 0, [], ⟨#[]⟩⟩, 0, 10)) := Lib.hid (fun q h1 h2 => Ev.cats_cut l j q hlt hmj htj h1 h2)
            obtain ⟨hm1, hm2⟩ := Ev.cats_mono l j hlt
            clear hc hmj htj
            generalize ha : (Ev.cats (l.take j)).size = a at *
            generalize hn : (Ev.cats (l.take (j + 1))).size = n at *
            have HN := Lib.hid hn
            clear ha hn
            generalize l[j] = e at *
            obtain ⟨k', d', xs', t'⟩ := e
            obtain ⟨hz1, hz2⟩ := HSZ.out
            simp only at e0 e1 e2 e3 hz1 hz2
            have HI := Lib.hid hi
            have E0 := Lib.hid e0
            have E1 := Lib.hid e1
            have E2 := Lib.hid e2
            have E3 := Lib.hid e3
            clear hi e0 e1 e2 e3
            have hcz' : (Ev.cats l).size ≤ 30000 := hcz
            go_wp2_with fail
            refine (decode_k (Ev.cats l) (a : Int) k' d' xs' t' (n : Int) 0 HAT.out _ (by unfold maxLen; omega)).mono ?_
            rintro r w4 ⟨A4, c4, rfl, hI4, hx4⟩
            have HX4 := Lib.hid (HX.out.trans hx4)
            have HI4 := Lib.hid hI4
            clear hx4 hI4
            go_wp2
            refine region_all (fun v => Ext (w4.alloc (.cells #[.int .i64 k', .int .i64 d', .slice A4 xs'.length c4, .string t'] 24)) v) (by kernel_rfl) (Ext.refl _).drew ?_
            have k0 : ∀ v, Ext (w4.alloc (.cells #[.int .i64 k', .int .i64 d', .slice A4 xs'.length c4, .string t'] 24)) v → v.cell? ⟨w4.heap.size, 0, none⟩ = some (.int .i64 k') := fun v hv => Ext.box hv 0 _ rfl
            have k1 : ∀ v, Ext (w4.alloc (.cells #[.int .i64 k', .int .i64 d', .slice A4 xs'.length c4, .string t'] 24)) v → v.cell? ⟨w4.heap.size, 1, none⟩ = some (.int .i64 d') := fun v hv => Ext.box hv 1 _ rfl
            have k2 : ∀ v, Ext (w4.alloc (.cells #[.int .i64 k', .int .i64 d', .slice A4 xs'.length c4, .string t'] 24)) v → v.cell? ⟨w4.heap.size, 2, none⟩ = some (.slice A4 xs'.length c4) := fun v hv => Ext.box hv 2 _ rfl
            have k3 : ∀ v, Ext (w4.alloc (.cells #[.int .i64 k', .int .i64 d', .slice A4 xs'.length c4, .string t'] 24)) v → v.cell? ⟨w4.heap.size, 3, none⟩ = some (.string t') := fun v hv => Ext.box hv 3 _ rfl
            have m0 : ∀ v, Ext (w4.alloc (.cells #[.int .i64 k', .int .i64 d', .slice A4 xs'.length c4, .string t'] 24)) v → v.cell? ⟨b, o + j * 4, none⟩ = some (.int .i64 k') := fun v hv => by rw [Below.cell ((HX4.out.alloc _).trans hv) hb]; exact E0.out
            have m1 : ∀ v, Ext (w4.alloc (.cells #[.int .i64 k', .int .i64 d', .slice A4 xs'.length c4, .string t'] 24)) v → v.cell? ⟨b, o + j * 4 + 1, none⟩ = some (.int .i64 d') := fun v hv => by rw [Below.cell ((HX4.out.alloc _).trans hv) hb]; exact E1.out
            have m2 : ∀ v, Ext (w4.alloc (.cells #[.int .i64 k', .int .i64 d', .slice A4 xs'.length c4, .string t'] 24)) v → v.cell? ⟨b, o + j * 4 + 2, none⟩ = some (.slice A' xs'.length c') := fun v hv => by rw [Below.cell ((HX4.out.alloc _).trans hv) hb]; exact E2.out
            have m3 : ∀ v, Ext (w4.alloc (.cells #[.int .i64 k', .int .i64 d', .slice A4 xs'.length c4, .string t'] 24)) v → v.cell? ⟨b, o + j * 4 + 3, none⟩ = some (.string t') := fun v hv => by rw [Below.cell ((HX4.out.alloc _).trans hv) hb]; exact E3.out
            have i0 : (0 : Int) ≤ (j : Int) := by omega
            have i1 : (j : Int) < (l.length : Int) := by omega
            refine all_take (i := 0) (v := ?_) rfl (by kernel_rfl) (by kernel_rfl) (by kernel_rfl) (fun _ _ _ h => h) (Tame.yes (by kernel_rfl) fun w hS => ?_) ?_
            rotate_left 1
            · skip
              go_simp
              refine gives_mk ?_ hS
              with_reducible rfl
            refine all_take (i := 1) (v := ?_) rfl (by kernel_rfl) (by kernel_rfl) (by kernel_rfl) (fun _ _ _ h => h) (Tame.yes (by kernel_rfl) fun w hS => ?_) ?_
            rotate_left 1
            · skip
              go_simp
              refine gives_mk ?_ hS
              with_reducible rfl
            refine all_take (i := 2) (v := ?_) rfl (by kernel_rfl) (by kernel_rfl) (by kernel_rfl) (fun _ _ _ h => h) (Tame.yes (by kernel_rfl) fun w hS => ?_) ?_
            rotate_left 1
            · skip
              go_simp
              refine gives_mk ?_ hS
              with_reducible rfl
            refine all_take (i := 3) (v := ?_) rfl (by kernel_rfl) (by kernel_rfl) (by kernel_rfl) (fun _ _ _ h => h) (Tame.yes (by kernel_rfl) fun w hS => ?_) ?_
            rotate_left 1
            · skip
              go_simp
              refine gives_mk ?_ hS
              with_reducible rfl
            refine all_take (i := 4) (v := ?_) rfl (by kernel_rfl) (by kernel_rfl) (by kernel_rfl) (fun _ _ _ h => h) (Tame.yes (by kernel_rfl) fun w hS => ?_) ?_
            rotate_left 1
            · skip
              go_simp
              refine gives_mk ?_ hS
              with_reducible rfl
            refine all_take (i := 5) (v := ?_) rfl (by kernel_rfl) (by kernel_rfl) (by kernel_rfl) (fun _ _ _ h => h) (Tame.yes (by kernel_rfl) fun w hS => ?_) ?_
            rotate_left 1
            · skip
              go_simp
              refine gives_mk ?_ hS
              with_reducible rfl
            refine all_take (i := 6) (v := ?_) rfl (by kernel_rfl) (by kernel_rfl) (by kernel_rfl) (fun _ _ _ h => h) (Tame.yes (by kernel_rfl) fun w hS => ?_) ?_
            rotate_left 1
            · skip
              go_simp
              refine gives_mk ?_ hS
              with_reducible rfl
            refine all_take (i := 7) (v := ?_) rfl (by kernel_rfl) (by kernel_rfl) (by kernel_rfl) (fun _ _ _ h => h) (Tame.yes (by kernel_rfl) fun w hS => ?_) ?_
            rotate_left 1
            · skip
              go_simp
              refine gives_mk ?_ hS
              with_reducible rfl
            refine all_take (i := 8) (v := .bool true) rfl (by kernel_rfl) (by kernel_rfl) (by kernel_rfl) (fun _ _ _ h => h) (Tame.yes (by kernel_rfl) fun w hS => ?_) ?_
            · go_simp
              refine gives_call ((same_k k' d' xs' t' k' d' xs' t' true ((Ev.sameB_iff _ _).2 rfl) _ _ _ _ _ (HI4.out.ext (((Ext.refl w4).alloc _).trans hS)) (HI.out.ext ((HX4.out.alloc _).trans hS)) (by omega)).mono ?_)
              exact fun r w2 ⟨he, hx⟩ => ⟨he, hS.trans hx⟩
            refine all_take (i := 9) (v := ?_) rfl (by kernel_rfl) (by kernel_rfl) (by kernel_rfl) (fun _ _ _ h => h) (Tame.yes (by kernel_rfl) fun w hS => ?_) ?_
            rotate_left 1
            · skip
              go_simp
              refine gives_mk ?_ hS
              with_reducible rfl
            refine all_take (i := 10) (v := ?_) rfl (by kernel_rfl) (by kernel_rfl) (by kernel_rfl) (fun _ _ _ h => h) (Tame.yes (by kernel_rfl) fun w hS => ?_) ?_
            rotate_left 1
            · skip
              go_simp
              refine gives_mk ?_ hS
              with_reducible rfl
            refine all_done ?_ ?_ _
            · kernel_rfl
            intro w5 hw5
            have HX5 : Hid (Ext w w5) := Lib.hid ((HX4.out.alloc _).trans hw5)
            clear k0 k1 k2 k3 m0 m1 m2 m3 i0 i1 hw5
            go_simp
            rcases HC.out with hneg | ⟨q, rfl⟩
            · have hd : decide ((a : Int) ≤ cut) = false := by simp; omega
              go_wp2
              go_roundw
              case rel => exact ⟨j + 1, by omega, by rw [HN.out], by go_num, HX5.out⟩
              case measure => simp [intOf]; omega
            · by_cases h1 : a ≤ q
              · by_cases h2 : q < n
                · skip
                  go_wp2_with fail
                  refine (decode_k ((Ev.cats l).extract 0 q) (a : Int) 0 0 [] ⟨#[]⟩ 0 10 (HCUT.out q h1 h2) _ (by unfold maxLen; simp; omega)).mono ?_
                  rintro r w6 ⟨A6, c6, rfl, hI6, hx6⟩
                  go_wp2
                  go_roundw
                  case rel => exact ⟨j + 1, by omega, by rw [HN.out], by go_num, (HX5.out.trans hx6).alloc _⟩
                  case measure => simp [intOf]; omega
                · have h2' : n ≤ q := by omega
                  clear h2
                  go_wp2
                  go_roundw
                  case rel => exact ⟨j + 1, by omega, by rw [HN.out], by go_num, HX5.out⟩
                  case measure => simp [intOf]; omega
              · have h1' : q < a := by omega
                clear h1
                go_wp2
                go_roundw
                case rel => exact ⟨j + 1, by omega, by rw [HN.out], by go_num, HX5.out⟩
                case measure => simp [intOf]; omega
          · obtain rfl : j = l.length := by omega
            have htl : l.take l.length = l := List.take_length
            rw [htl]
            clear htl
            go_wp2
            go_ret
            exact ⟨by simp, HX.out⟩

theorem walk_EventBack (v : Value) (l : List Ev) (cut : Int) (s : ByteArray) (w : World) (h : EvsAt w v l) (hl : l.length ≤ maxLen) (_ : ∀ e ∈ l, EvIn e) (_ : (Lit.int .i64 cut).wf = true) (hs : s.size ≤ maxLen) :
    Calls Try.prog 4 #[v, .int .i64 cut, .string s] w fun e w' => e = .returned (.bool true) ∧ Ext w w' := by
  by_cases ho : Ev.short l = false ∨ 5000 < s.size
  · exact eback_out v l cut s w h hl hs ho
  · obtain ⟨A, c, rfl, hA⟩ := h
    refine eback_in A c l cut s w hA (by cases hsh : Ev.short l with | true => rfl | false => exact absurd (.inl hsh) ho) (by omega) ?_
    by_cases hc : cut < 0
    · exact .inl hc
    · exact .inr ⟨cut.toNat, by omega⟩

end Go.Proofs.Ytnomofnhfaeohaa
