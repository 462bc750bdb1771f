/-
  Contracts of package event: which may be; and of the document's answers.
-/
import Derived.Test.YtcdfpifhjjiioaaEa
set_option linter.unusedVariables false
set_option linter.unusedSimpArgs false
namespace Go.Proofs.Ytcdfpifhjjiioaa
open Go.RowKit

theorem number_any (n : Int) (w : World) : Calls Try.prog 26 #[.int .i64 n] w fun e w' => e = .returned (.bool (Ev.ok n)) ∧ w = w' := by
  unfold Ev.ok
  by_cases h : 0 ≤ n
  · by_cases h2 : n < 4611686018427387904
    · rw [decide_eq_true (show 0 ≤ n ∧ n < 4611686018427387904 from ⟨h, h2⟩)]
      go_enter Try.func26, Try.ntmps26
      go_wp2
      go_ret
      exact ⟨rfl, rfl⟩
    · rw [decide_eq_false (show ¬ (0 ≤ n ∧ n < 4611686018427387904) by omega)]
      have hd : decide (n < 4611686018427387904) = false := by simp; omega
      clear h2
      go_enter Try.func26, Try.ntmps26
      go_wp2
      go_ret
      exact ⟨rfl, rfl⟩
  · rw [decide_eq_false (show ¬ (0 ≤ n ∧ n < 4611686018427387904) by omega)]
    have hd : decide (0 ≤ n) = false := by simp; omega
    go_enter Try.func26, Try.ntmps26
    go_wp2
    go_ret
    exact ⟨rfl, rfl⟩
theorem fits_any (n : Int) (w : World) : Calls Try.prog 20 #[.int .i64 n] w fun e w' => e = .returned (.bool (Ev.ok n)) ∧ w = w' := by
  unfold Ev.ok
  by_cases h : 0 ≤ n
  · by_cases h2 : n < 4611686018427387904
    · rw [decide_eq_true (show 0 ≤ n ∧ n < 4611686018427387904 from ⟨h, h2⟩)]
      go_enter Try.func20, Try.ntmps20
      go_wp2
      go_ret
      exact ⟨rfl, rfl⟩
    · rw [decide_eq_false (show ¬ (0 ≤ n ∧ n < 4611686018427387904) by omega)]
      have hd : decide (n < 4611686018427387904) = false := by simp; omega
      clear h2
      go_enter Try.func20, Try.ntmps20
      go_wp2
      go_ret
      exact ⟨rfl, rfl⟩
  · rw [decide_eq_false (show ¬ (0 ≤ n ∧ n < 4611686018427387904) by omega)]
    have hd : decide (0 ≤ n) = false := by simp; omega
    go_enter Try.func20, Try.ntmps20
    go_wp2
    go_ret
    exact ⟨rfl, rfl⟩

set_option maxRecDepth 100000 in
set_option maxHeartbeats 1000000 in
theorem numbers_any (v : Value) (xs : List Int) (w : World) (h : IntsAt w v xs) (hn : xs.length ≤ 9223372036854775807) :
    Calls Try.prog 30 #[v] w fun e w' => e = .returned (.bool (xs.all Ev.ok)) ∧ w = w' := by
  obtain ⟨A, c, rfl, hA⟩ := h
  have HA := Lib.hid hA; clear hA
  go_enter Try.func30, Try.ntmps30
  go_wp2
  go_loop [7] (fun i => ∃ k : Nat, k ≤ xs.length ∧ i = .int .i64 k ∧ (xs.take k).all Ev.ok = true) (fun i => xs.length - (intOf i).toNat)
  case atStart => exact ⟨0, by omega, rfl, by simp⟩
  case round =>
    obtain ⟨k, hk, rfl, hall⟩ := hrel
    have HL := Lib.hid hall; clear hall
    by_cases hlt : k < xs.length
    · obtain ⟨b, o, rfl, hb, hc⟩ := HA.out (by omega)
      have hcell : w.cell? ⟨b, o + k, none⟩ = some (.int .i64 xs[k]) := hc k _ (List.getElem?_eq_getElem hlt)
      clear hc
      have HT : Hid (xs.take (k + 1) = xs.take k ++ [xs[k]]) := Lib.hid (by rw [List.take_succ_eq_append_getElem hlt])
      have HD : Hid (xs = xs.take k ++ xs[k] :: xs.drop (k + 1)) := Lib.hid (by rw [← List.drop_eq_getElem_cons hlt, List.take_append_drop])
      generalize xs[k] = x at *
      cases ho : Ev.ok x with
      | true =>
        go_wp2_with (go_at_call 26; refine (number_any x _).mono ?_; rintro e w1 ⟨rfl, rfl⟩)
        go_round
        case rel => exact ⟨k + 1, by omega, by go_num, by rw [HT.out, List.all_append, HL.out]; simp [ho]⟩
        case measure => simp [intOf]; omega
      | false =>
        go_wp2_with (go_at_call 26; refine (number_any x _).mono ?_; rintro e w1 ⟨rfl, rfl⟩)
        go_ret
        exact ⟨by rw [show xs.all Ev.ok = false by rw [HD.out, List.all_append, List.all_cons, ho]; simp]; rfl, rfl⟩
    · have HE : Hid (xs.take k = xs) := Lib.hid (List.take_of_length_le (by omega))
      go_wp2
      go_ret
      exact ⟨by rw [show xs.all Ev.ok = true by have := HL.out; rwa [HE.out] at this]; rfl, rfl⟩

/-- A value that reads as an event. -/
def EvAt (w : World) (v : Value) (e : Ev) : Prop :=
  ∃ A c, v = .agg #[.int .i64 e.kind, .int .i64 e.dt, .slice A e.args.length c, .string e.text] ∧ IntsAt w (.slice A e.args.length c) e.args
theorem EvAt.ext {w w' : World} {v : Value} {e : Ev} (h : EvAt w v e) (hx : Ext w w') : EvAt w' v e := by
  obtain ⟨A, c, rfl, hi⟩ := h
  exact ⟨A, c, rfl, hi.ext hx⟩
theorem Ev.may_eq {e : Ev} (h : Ev.ok e.dt = true) (hx : Ki.exp e.kind = false) : e.may = (Ki.known e.kind && e.args.length == (Ki.args e.kind).length && e.args.all Ev.ok && e.text.size == 0) := by
  unfold Ev.may; rw [h, if_neg (by simp [hx])]; simp

theorem Ev.str_empty {s : ByteArray} (h : s.size = 0) : (s.toList == (⟨#[]⟩ : ByteArray).toList) = true := by
  have : s = ⟨#[]⟩ := by apply ByteArray.ext; apply Array.eq_empty_of_size_eq_zero; exact h
  subst this; exact beq_self_eq_true _
theorem Ev.str_nonempty {s : ByteArray} (h : ¬ s.size = 0) : s.toList.isEmpty = false ∧ ¬ s.toList = [] := by
  have h1 : s.toList.isEmpty = false := by
    rw [ByteArray.toList_eq]
    cases hl : s.data.toList with
    | nil => have h2 : s.size = s.data.toList.length := by simp
             rw [hl, List.length_nil] at h2; omega
    | cons x y => rfl
  exact ⟨h1, fun h => by rw [h] at h1; simp at h1⟩
theorem Ev.str_nil {s : ByteArray} (h : s.size = 0) : s.toList = [] := by
  rw [ByteArray.toList_eq]; apply List.eq_nil_of_length_eq_zero; simpa using h
theorem known_eq (k : Int) (b : Bool) (h : Ki.known k = b) (w : World) : Calls Try.prog 28 #[.int .i64 k] w fun e w' => e = .returned (.bool b) ∧ w = w' := by subst h; exact known_any k w
theorem exp_eq (k : Int) (b : Bool) (h : Ki.exp k = b) (w : World) : Calls Try.prog 27 #[.int .i64 k] w fun e w' => e = .returned (.bool b) ∧ w = w' := by subst h; exact exp_any k w
theorem rknown_eq (k : Int) (b : Bool) (h : Ki.known k = b) (w : World) : Calls Try.prog 37 #[.int .i64 k] w fun e w' => e = .returned (.bool b) ∧ w = w' := by subst h; exact rknown_any k w
theorem rexp_eq (k : Int) (b : Bool) (h : Ki.exp k = b) (w : World) : Calls Try.prog 36 #[.int .i64 k] w fun e w' => e = .returned (.bool b) ∧ w = w' := by subst h; exact rexp_any k w
theorem number_eq (k : Int) (b : Bool) (h : Ev.ok k = b) (w : World) : Calls Try.prog 26 #[.int .i64 k] w fun e w' => e = .returned (.bool b) ∧ w = w' := by subst h; exact number_any k w
theorem numbers_eq (v : Value) (xs : List Int) (b : Bool) (hb : xs.all Ev.ok = b) (w : World) (h : IntsAt w v xs) (hn : xs.length ≤ 9223372036854775807) : Calls Try.prog 30 #[v] w fun e w' => e = .returned (.bool b) ∧ w = w' := by subst hb; exact numbers_any v xs w h hn
def ArgsT (n : Nat) (W : World) (v : Value) (w : World) : Prop := Ext W w ∧ ∃ A c, v = .slice A n c
theorem args_T (k : Int) (W w : World) (h : Ext W w) : Calls Try.prog 29 #[.int .i64 k] w fun e w' => ∃ v, e = .returned v ∧ ArgsT (Ki.args k).length W v w' :=
  (args_any k w).mono fun _ _ ⟨v, he, A, c, hv, _, _, hx, _⟩ => ⟨v, he, h.trans hx, A, c, hv⟩
theorem rargs_T (k : Int) (W w : World) (h : Ext W w) : Calls Try.prog 38 #[.int .i64 k] w fun e w' => ∃ v, e = .returned v ∧ ArgsT (Ki.args k).length W v w' :=
  (rargs_any k w).mono fun _ _ ⟨v, he, A, c, hv, _, _, hx, _⟩ => ⟨v, he, h.trans hx, A, c, hv⟩

set_option maxRecDepth 100000 in
set_option maxHeartbeats 1000000 in
theorem may_e (v : Value) (e : Ev) (w : World) (h : EvAt w v e) (hn : e.args.length ≤ 9223372036854775807) :
    Calls Try.prog 18 #[v] w fun r w' => r = .returned (.bool e.may) ∧ Ext w w' := by
  obtain ⟨A, c, rfl, hI⟩ := h
  have HI := Lib.hid hI; clear hI
  have HN := Lib.hid hn
  obtain ⟨k, d, xs, t⟩ := e
  simp only at *
  cases hd : Ev.ok d with
  | false =>
    have HM : Hid (Ev.may ⟨k, d, xs, t⟩ = false) := Lib.hid (by unfold Ev.may; simp [hd])
    go_enter Try.func18, Try.ntmps18
    go_wp2_with (go_at_call 26; refine (number_eq d false hd _).mono ?_; rintro r w1 ⟨rfl, rfl⟩)
    go_ret
    exact ⟨by rw [HM.out]; rfl, (Ext.refl _).alloc _⟩
  | true =>
    have HD := Lib.hid hd; clear hd
    cases hx : Ki.exp k with
    | true =>
      have HM : Hid (Ev.may ⟨k, d, xs, t⟩ = (xs.length == 0)) := Lib.hid (by unfold Ev.may; simp [HD.out, hx])
      have HX := Lib.hid hx; clear hx
      go_enter Try.func18, Try.ntmps18
      go_wp2_with (first | (go_at_call 26; refine (number_eq d true HD.out _).mono ?_; rintro r w1 ⟨rfl, rfl⟩) | (go_at_call 27; refine (exp_eq k true HX.out _).mono ?_; rintro r w1 ⟨rfl, rfl⟩))
      go_ret
      refine ⟨?_, (Ext.refl _).alloc _⟩
      rw [HM.out]
      congr 2
      cases xs <;> rfl
    | false =>
      have HM := Lib.hid (Ev.may_eq (e := ⟨k, d, xs, t⟩) HD.out hx)
      have HX := Lib.hid hx; clear hx
      simp only at HM
      cases hk : Ki.known k with
      | false =>
        have HK := Lib.hid hk
        rw [hk] at HM
        clear hk
        go_enter Try.func18, Try.ntmps18
        go_wp2_with (first | (go_at_call 26; refine (number_eq d true HD.out _).mono ?_; rintro r w1 ⟨rfl, rfl⟩) | (go_at_call 27; refine (exp_eq k false HX.out _).mono ?_; rintro r w1 ⟨rfl, rfl⟩))
        refine region_all (fun v => Ext (w.alloc (.cells #[.int .i64 k, .int .i64 d, .slice A xs.length c, .string t] 28)) v) (by kernel_rfl) (Ext.drew (Ext.refl _)) ?_
        have K0 : ∀ v, Ext (w.alloc (.cells #[.int .i64 k, .int .i64 d, .slice A xs.length c, .string t] 28)) v → v.cell? ⟨w.heap.size, 0, none⟩ = some (.int .i64 k) := fun v hv => Ext.box hv 0 _ rfl
        refine all_take (i := 0) (v := ?_) rfl (by kernel_rfl) (by kernel_rfl) (by kernel_rfl) (fun _ _ _ h => h) (Tame.yes (by kernel_rfl) fun w hS => ?_) ?_
        rotate_left 1
        · skip
          go_simp
          refine gives_mk ?_ hS
          with_reducible rfl
        refine all_take (i := 1) (v := ?_) rfl (by kernel_rfl) (by kernel_rfl) (by kernel_rfl) (fun _ _ _ h => h) (Tame.yes (by kernel_rfl) fun w hS => ?_) ?_
        rotate_left 1
        · skip
          go_simp
          refine gives_mk ?_ hS
          with_reducible rfl
        refine all_take (i := 2) (v := .bool false) rfl (by kernel_rfl) (by kernel_rfl) (by kernel_rfl) (fun _ _ _ h => h) (Tame.yes (by kernel_rfl) fun w hS => ?_) ?_
        · go_simp
          refine gives_call ((known_eq _ _ HK.out _).mono ?_)
          exact fun r w2 ⟨he, hx⟩ => ⟨he, hx ▸ hS⟩
        refine all_take (i := 3) (v := ?_) rfl (by kernel_rfl) (by kernel_rfl) (by kernel_rfl) (fun _ _ _ h => h) (Tame.yes (by kernel_rfl) fun w hS => ?_) ?_
        rotate_left 1
        · skip
          go_simp
          refine gives_mk ?_ hS
          with_reducible rfl
        refine all_take (i := 4) rfl (by kernel_rfl) (by kernel_rfl) (by kernel_rfl) (fun _ _ _ h => h) (Tame.no (by kernel_rfl)) ?_
        refine all_take (i := 5) rfl (by kernel_rfl) (by kernel_rfl) (by kernel_rfl) (fun _ _ _ h => h) (Tame.no (by kernel_rfl)) ?_
        refine all_take (i := 6) rfl (by kernel_rfl) (by kernel_rfl) (by kernel_rfl) (fun _ _ _ h => h) (Tame.no (by kernel_rfl)) ?_
        refine all_take (i := 7) rfl (by kernel_rfl) (by kernel_rfl) (by kernel_rfl) (fun _ _ _ h => h) (Tame.no (by kernel_rfl)) ?_
        refine all_take (i := 8) rfl (by kernel_rfl) (by kernel_rfl) (by kernel_rfl) (fun _ _ _ h => h) (Tame.no (by kernel_rfl)) ?_
        refine all_take (i := 9) rfl (by kernel_rfl) (by kernel_rfl) (by kernel_rfl) (fun _ _ _ h => h) (Tame.no (by kernel_rfl)) ?_
        refine all_take (i := 10) rfl (by kernel_rfl) (by kernel_rfl) (by kernel_rfl) (fun _ _ _ h => h) (Tame.no (by kernel_rfl)) ?_
        refine all_take (i := 11) rfl (by kernel_rfl) (by kernel_rfl) (by kernel_rfl) (fun _ _ _ h => h) (Tame.no (by kernel_rfl)) ?_
        refine all_take (i := 12) (v := ?_) rfl (by kernel_rfl) (by kernel_rfl) (by kernel_rfl) (fun _ _ _ h => h) (Tame.yes (by kernel_rfl) fun w hS => ?_) ?_
        rotate_left 1
        · skip
          go_simp
          refine gives_mk ?_ hS
          with_reducible rfl
        refine all_take (i := 13) (v := ?_) rfl (by kernel_rfl) (by kernel_rfl) (by kernel_rfl) (fun _ _ _ h => h) (Tame.yes (by kernel_rfl) fun w hS => ?_) ?_
        rotate_left 1
        · skip
          go_simp
          refine gives_mk ?_ hS
          with_reducible rfl
        refine all_take (i := 14) rfl (by kernel_rfl) (by kernel_rfl) (by kernel_rfl) (fun _ _ _ h => h) (Tame.no (by kernel_rfl)) ?_
        refine all_take (i := 15) rfl (by kernel_rfl) (by kernel_rfl) (by kernel_rfl) (fun _ _ _ h => h) (Tame.no (by kernel_rfl)) ?_
        refine all_take (i := 16) rfl (by kernel_rfl) (by kernel_rfl) (by kernel_rfl) (fun _ _ _ h => h) (Tame.no (by kernel_rfl)) ?_
        refine all_take (i := 17) (v := ?_) rfl (by kernel_rfl) (by kernel_rfl) (by kernel_rfl) (fun _ _ _ h => h) (Tame.yes (by kernel_rfl) fun w hS => ?_) ?_
        rotate_left 1
        · skip
          go_simp
          refine gives_mk ?_ hS
          with_reducible rfl
        refine all_take (i := 18) (v := ?_) rfl (by kernel_rfl) (by kernel_rfl) (by kernel_rfl) (fun _ _ _ h => h) (Tame.yes (by kernel_rfl) fun w hS => ?_) ?_
        rotate_left 1
        · skip
          go_simp
          refine gives_mk ?_ hS
          with_reducible rfl
        refine all_take (i := 19) rfl (by kernel_rfl) (by kernel_rfl) (by kernel_rfl) (fun _ _ _ h => h) (Tame.no (by kernel_rfl)) ?_
        refine all_take (i := 20) rfl (by kernel_rfl) (by kernel_rfl) (by kernel_rfl) (fun _ _ _ h => h) (Tame.no (by kernel_rfl)) ?_
        refine all_take (i := 21) rfl (by kernel_rfl) (by kernel_rfl) (by kernel_rfl) (fun _ _ _ h => h) (Tame.no (by kernel_rfl)) ?_
        refine all_take (i := 22) (v := ?_) rfl (by kernel_rfl) (by kernel_rfl) (by kernel_rfl) (fun _ _ _ h => h) (Tame.yes (by kernel_rfl) fun w hS => ?_) ?_
        rotate_left 1
        · skip
          go_simp
          refine gives_mk ?_ hS
          with_reducible rfl
        refine all_take (i := 23) (v := ?_) rfl (by kernel_rfl) (by kernel_rfl) (by kernel_rfl) (fun _ _ _ h => h) (Tame.yes (by kernel_rfl) fun w hS => ?_) ?_
        rotate_left 1
        · skip
          go_simp
          refine gives_mk ?_ hS
          with_reducible rfl
        refine all_done ?_ ?_ _
        · kernel_rfl
        intro w2 hw2
        clear K0
        go_simp
        go_wp2
        go_ret
        exact ⟨by rw [HM.out]; rfl, ((Ext.refl _).alloc _).trans hw2⟩
      | true =>
        have HK := Lib.hid hk
        rw [hk, Bool.true_and] at HM
        clear hk
        go_enter Try.func18, Try.ntmps18
        go_wp2_with (first | (go_at_call 26; refine (number_eq d true HD.out _).mono ?_; rintro r w1 ⟨rfl, rfl⟩) | (go_at_call 27; refine (exp_eq k false HX.out _).mono ?_; rintro r w1 ⟨rfl, rfl⟩))
        have HU : Cov (fun v => Ext (w.alloc (.cells #[.int .i64 k, .int .i64 d, .slice A xs.length c, .string t] 28)) v) (fun v => Ext (w.alloc (.cells #[.int .i64 k, .int .i64 d, .slice A xs.length c, .string t] 28)) v) [(9, ArgsT (Ki.args k).length (w.alloc (.cells #[.int .i64 k, .int .i64 d, .slice A xs.length c, .string t] 28)))] :=
          ⟨fun _ h => h, fun p hp u w h => by rw [List.mem_singleton] at hp; subst hp; exact h.1⟩
        refine region_ph (fun v => Ext (w.alloc (.cells #[.int .i64 k, .int .i64 d, .slice A xs.length c, .string t] 28)) v) [(9, ArgsT (Ki.args k).length (w.alloc (.cells #[.int .i64 k, .int .i64 d, .slice A xs.length c, .string t] 28)))] (by kernel_rfl) (Ext.drew (Ext.refl _)) ?_
        have K0 : ∀ v, Ext (w.alloc (.cells #[.int .i64 k, .int .i64 d, .slice A xs.length c, .string t] 28)) v → v.cell? ⟨w.heap.size, 0, none⟩ = some (.int .i64 k) := fun v hv => Ext.box hv 0 _ rfl
        have K2 : ∀ v, Ext (w.alloc (.cells #[.int .i64 k, .int .i64 d, .slice A xs.length c, .string t] 28)) v → v.cell? ⟨w.heap.size, 2, none⟩ = some (.slice A xs.length c) := fun v hv => Ext.box hv 2 _ rfl
        have K3 : ∀ v, Ext (w.alloc (.cells #[.int .i64 k, .int .i64 d, .slice A xs.length c, .string t] 28)) v → v.cell? ⟨w.heap.size, 3, none⟩ = some (.string t) := fun v hv => Ext.box hv 3 _ rfl
        refine ph_take HU (i := 0) (v := ?_) rfl (by kernel_rfl) (by kernel_rfl) (by kernel_rfl) (by kernel_rfl) (fun _ _ _ h => h) (Still.yes (by kernel_rfl) fun w hS => ?_) ?_
        rotate_left 1
        · skip
          go_simp
          refine gives_mk ?_ rfl
          with_reducible rfl
        refine ph_take HU (i := 1) (v := ?_) rfl (by kernel_rfl) (by kernel_rfl) (by kernel_rfl) (by kernel_rfl) (fun _ _ _ h => h) (Still.yes (by kernel_rfl) fun w hS => ?_) ?_
        rotate_left 1
        · skip
          go_simp
          refine gives_mk ?_ rfl
          with_reducible rfl
        refine ph_take HU (i := 2) (v := .bool true) rfl (by kernel_rfl) (by kernel_rfl) (by kernel_rfl) (by kernel_rfl) (fun _ _ _ h => h) (Still.yes (by kernel_rfl) fun w hS => ?_) ?_
        · go_simp
          refine gives_call ((known_eq _ _ HK.out _).mono ?_)
          exact fun r w2 ⟨he, hx⟩ => ⟨he, hx.symm⟩
        refine ph_take HU (i := 3) (v := ?_) rfl (by kernel_rfl) (by kernel_rfl) (by kernel_rfl) (by kernel_rfl) (fun _ _ _ h => h) (Still.yes (by kernel_rfl) fun w hS => ?_) ?_
        rotate_left 1
        · skip
          go_simp
          refine gives_mk ?_ rfl
          with_reducible rfl
        refine ph_take HU (i := 4) (v := ?_) rfl (by kernel_rfl) (by kernel_rfl) (by kernel_rfl) (by kernel_rfl) (fun _ _ _ h => h) (Still.yes (by kernel_rfl) fun w hS => ?_) ?_
        rotate_left 1
        · skip
          go_simp
          refine gives_mk ?_ rfl
          with_reducible rfl
        refine ph_take HU (i := 5) (v := ?_) rfl (by kernel_rfl) (by kernel_rfl) (by kernel_rfl) (by kernel_rfl) (fun _ _ _ h => h) (Still.yes (by kernel_rfl) fun w hS => ?_) ?_
        rotate_left 1
        · skip
          go_simp
          refine gives_mk ?_ rfl
          with_reducible rfl
        refine ph_take HU (i := 6) (v := ?_) rfl (by kernel_rfl) (by kernel_rfl) (by kernel_rfl) (by kernel_rfl) (fun _ _ _ h => h) (Still.yes (by kernel_rfl) fun w hS => ?_) ?_
        rotate_left 1
        · skip
          go_simp
          refine gives_mk ?_ rfl
          with_reducible rfl
        refine ph_take HU (i := 7) (v := ?_) rfl (by kernel_rfl) (by kernel_rfl) (by kernel_rfl) (by kernel_rfl) (fun _ _ _ h => h) (Still.yes (by kernel_rfl) fun w hS => ?_) ?_
        rotate_left 1
        · skip
          go_simp
          refine gives_mk ?_ rfl
          with_reducible rfl
        refine ph_take HU (i := 8) (v := ?_) rfl (by kernel_rfl) (by kernel_rfl) (by kernel_rfl) (by kernel_rfl) (fun _ _ _ h => h) (Still.yes (by kernel_rfl) fun w hS => ?_) ?_
        rotate_left 1
        · skip
          go_simp
          refine gives_mk ?_ rfl
          with_reducible rfl
        refine ph_call (by kernel_rfl) rfl (by kernel_rfl) (fun _ => by go_simp) (fun w hS => args_T k _ w hS) ?_
        rintro v ⟨w9, hT, A9, c9, rfl⟩
        have HU := HU.next (.slice A9 (Ki.args k).length c9)
        clear hT w9
        by_cases hl : xs.length = (Ki.args k).length
        · have hlb : ((xs.length : Int) == ((Ki.args k).length : Int)) = true := by simp; omega
          have HL : Hid ((xs.length == (Ki.args k).length) = true) := Lib.hid (by simpa using hl)
          clear hl
          rw [HL.out, Bool.true_and] at HM
          cases hall : xs.all Ev.ok with
          | true =>
            have HALL := Lib.hid hall
            rw [hall, Bool.true_and] at HM
            clear hall
            by_cases ht : t.size = 0
            · have hst := Ev.str_nil ht
              refine ph_take HU (i := 10) (v := ?_) rfl (by kernel_rfl) (by kernel_rfl) (by kernel_rfl) (by kernel_rfl) (fun _ _ _ h => h) (Still.yes (by kernel_rfl) fun w hS => ?_) ?_
              rotate_left 1
              · skip
                go_simp
                try simp only [hlb, hst]
                refine gives_mk ?_ rfl
                with_reducible rfl
              refine ph_take HU (i := 11) (v := ?_) rfl (by kernel_rfl) (by kernel_rfl) (by kernel_rfl) (by kernel_rfl) (fun _ _ _ h => h) (Still.yes (by kernel_rfl) fun w hS => ?_) ?_
              rotate_left 1
              · skip
                go_simp
                try simp only [hlb, hst]
                refine gives_mk ?_ rfl
                with_reducible rfl
              refine ph_take HU (i := 12) (v := ?_) rfl (by kernel_rfl) (by kernel_rfl) (by kernel_rfl) (by kernel_rfl) (fun _ _ _ h => h) (Still.yes (by kernel_rfl) fun w hS => ?_) ?_
              rotate_left 1
              · skip
                go_simp
                try simp only [hlb, hst]
                refine gives_mk ?_ rfl
                with_reducible rfl
              refine ph_take HU (i := 13) (v := ?_) rfl (by kernel_rfl) (by kernel_rfl) (by kernel_rfl) (by kernel_rfl) (fun _ _ _ h => h) (Still.yes (by kernel_rfl) fun w hS => ?_) ?_
              rotate_left 1
              · skip
                go_simp
                try simp only [hlb, hst]
                refine gives_mk ?_ rfl
                with_reducible rfl
              refine ph_take HU (i := 14) (v := ?_) rfl (by kernel_rfl) (by kernel_rfl) (by kernel_rfl) (by kernel_rfl) (fun _ _ _ h => h) (Still.yes (by kernel_rfl) fun w hS => ?_) ?_
              rotate_left 1
              · skip
                go_simp
                try simp only [hlb, hst]
                refine gives_mk ?_ rfl
                with_reducible rfl
              refine ph_take HU (i := 15) (v := ?_) rfl (by kernel_rfl) (by kernel_rfl) (by kernel_rfl) (by kernel_rfl) (fun _ _ _ h => h) (Still.yes (by kernel_rfl) fun w hS => ?_) ?_
              rotate_left 1
              · skip
                go_simp
                try simp only [hlb, hst]
                refine gives_mk ?_ rfl
                with_reducible rfl
              refine ph_take HU (i := 16) (v := .bool true) rfl (by kernel_rfl) (by kernel_rfl) (by kernel_rfl) (by kernel_rfl) (fun _ _ _ h => h) (Still.yes (by kernel_rfl) fun w hS => ?_) ?_
              · go_simp
                refine gives_call ((numbers_eq _ xs true HALL.out _ (HI.out.ext ((Ext.alloc (Ext.refl _) _).trans hS)) HN.out).mono ?_)
                exact fun r w2 ⟨he, hx⟩ => ⟨he, hx.symm⟩
              refine ph_take HU (i := 17) (v := ?_) rfl (by kernel_rfl) (by kernel_rfl) (by kernel_rfl) (by kernel_rfl) (fun _ _ _ h => h) (Still.yes (by kernel_rfl) fun w hS => ?_) ?_
              rotate_left 1
              · skip
                go_simp
                try simp only [hlb, hst]
                refine gives_mk ?_ rfl
                with_reducible rfl
              refine ph_take HU (i := 18) (v := ?_) rfl (by kernel_rfl) (by kernel_rfl) (by kernel_rfl) (by kernel_rfl) (fun _ _ _ h => h) (Still.yes (by kernel_rfl) fun w hS => ?_) ?_
              rotate_left 1
              · skip
                go_simp
                try simp only [hlb, hst]
                refine gives_mk ?_ rfl
                with_reducible rfl
              refine ph_take HU (i := 19) (v := ?_) rfl (by kernel_rfl) (by kernel_rfl) (by kernel_rfl) (by kernel_rfl) (fun _ _ _ h => h) (Still.yes (by kernel_rfl) fun w hS => ?_) ?_
              rotate_left 1
              · skip
                go_simp
                try simp only [hlb, hst]
                refine gives_mk ?_ rfl
                with_reducible rfl
              refine ph_take HU (i := 20) (v := ?_) rfl (by kernel_rfl) (by kernel_rfl) (by kernel_rfl) (by kernel_rfl) (fun _ _ _ h => h) (Still.yes (by kernel_rfl) fun w hS => ?_) ?_
              rotate_left 1
              · skip
                go_simp
                try simp only [hlb, hst]
                refine gives_mk ?_ rfl
                with_reducible rfl
              refine ph_take HU (i := 21) (v := ?_) rfl (by kernel_rfl) (by kernel_rfl) (by kernel_rfl) (by kernel_rfl) (fun _ _ _ h => h) (Still.yes (by kernel_rfl) fun w hS => ?_) ?_
              rotate_left 1
              · skip
                go_simp
                try simp only [hlb, hst]
                refine gives_mk ?_ rfl
                with_reducible rfl
              refine ph_take HU (i := 22) (v := ?_) rfl (by kernel_rfl) (by kernel_rfl) (by kernel_rfl) (by kernel_rfl) (fun _ _ _ h => h) (Still.yes (by kernel_rfl) fun w hS => ?_) ?_
              rotate_left 1
              · skip
                go_simp
                try simp only [hlb, hst]
                refine gives_mk ?_ rfl
                with_reducible rfl
              refine ph_take HU (i := 23) (v := ?_) rfl (by kernel_rfl) (by kernel_rfl) (by kernel_rfl) (by kernel_rfl) (fun _ _ _ h => h) (Still.yes (by kernel_rfl) fun w hS => ?_) ?_
              rotate_left 1
              · skip
                go_simp
                try simp only [hlb, hst]
                refine gives_mk ?_ rfl
                with_reducible rfl
              refine ph_done ?_ ?_ _
              · kernel_rfl
              intro w2 hw2
              clear K0 K2 K3
              go_simp
              go_wp2
              go_ret
              exact ⟨by rw [HM.out]; simp [ht], ((Ext.refl _).alloc _).trans hw2.1⟩
            · obtain ⟨hs1, hs2⟩ := Ev.str_nonempty ht
              refine ph_take HU (i := 10) (v := ?_) rfl (by kernel_rfl) (by kernel_rfl) (by kernel_rfl) (by kernel_rfl) (fun _ _ _ h => h) (Still.yes (by kernel_rfl) fun w hS => ?_) ?_
              rotate_left 1
              · skip
                go_simp
                try simp only [hlb, hs1, hs2]
                refine gives_mk ?_ rfl
                with_reducible rfl
              refine ph_take HU (i := 11) (v := ?_) rfl (by kernel_rfl) (by kernel_rfl) (by kernel_rfl) (by kernel_rfl) (fun _ _ _ h => h) (Still.yes (by kernel_rfl) fun w hS => ?_) ?_
              rotate_left 1
              · skip
                go_simp
                try simp only [hlb, hs1, hs2]
                refine gives_mk ?_ rfl
                with_reducible rfl
              refine ph_take HU (i := 12) (v := ?_) rfl (by kernel_rfl) (by kernel_rfl) (by kernel_rfl) (by kernel_rfl) (fun _ _ _ h => h) (Still.yes (by kernel_rfl) fun w hS => ?_) ?_
              rotate_left 1
              · skip
                go_simp
                try simp only [hlb, hs1, hs2]
                refine gives_mk ?_ rfl
                with_reducible rfl
              refine ph_take HU (i := 13) (v := ?_) rfl (by kernel_rfl) (by kernel_rfl) (by kernel_rfl) (by kernel_rfl) (fun _ _ _ h => h) (Still.yes (by kernel_rfl) fun w hS => ?_) ?_
              rotate_left 1
              · skip
                go_simp
                try simp only [hlb, hs1, hs2]
                refine gives_mk ?_ rfl
                with_reducible rfl
              refine ph_take HU (i := 14) (v := ?_) rfl (by kernel_rfl) (by kernel_rfl) (by kernel_rfl) (by kernel_rfl) (fun _ _ _ h => h) (Still.yes (by kernel_rfl) fun w hS => ?_) ?_
              rotate_left 1
              · skip
                go_simp
                try simp only [hlb, hs1, hs2]
                refine gives_mk ?_ rfl
                with_reducible rfl
              refine ph_take HU (i := 15) (v := ?_) rfl (by kernel_rfl) (by kernel_rfl) (by kernel_rfl) (by kernel_rfl) (fun _ _ _ h => h) (Still.yes (by kernel_rfl) fun w hS => ?_) ?_
              rotate_left 1
              · skip
                go_simp
                try simp only [hlb, hs1, hs2]
                refine gives_mk ?_ rfl
                with_reducible rfl
              refine ph_take HU (i := 16) (v := .bool true) rfl (by kernel_rfl) (by kernel_rfl) (by kernel_rfl) (by kernel_rfl) (fun _ _ _ h => h) (Still.yes (by kernel_rfl) fun w hS => ?_) ?_
              · go_simp
                refine gives_call ((numbers_eq _ xs true HALL.out _ (HI.out.ext ((Ext.alloc (Ext.refl _) _).trans hS)) HN.out).mono ?_)
                exact fun r w2 ⟨he, hx⟩ => ⟨he, hx.symm⟩
              refine ph_take HU (i := 17) (v := ?_) rfl (by kernel_rfl) (by kernel_rfl) (by kernel_rfl) (by kernel_rfl) (fun _ _ _ h => h) (Still.yes (by kernel_rfl) fun w hS => ?_) ?_
              rotate_left 1
              · skip
                go_simp
                try simp only [hlb, hs1, hs2]
                refine gives_mk ?_ rfl
                with_reducible rfl
              refine ph_take HU (i := 18) (v := ?_) rfl (by kernel_rfl) (by kernel_rfl) (by kernel_rfl) (by kernel_rfl) (fun _ _ _ h => h) (Still.yes (by kernel_rfl) fun w hS => ?_) ?_
              rotate_left 1
              · skip
                go_simp
                try simp only [hlb, hs1, hs2]
                refine gives_mk ?_ rfl
                with_reducible rfl
              refine ph_take HU (i := 19) (v := ?_) rfl (by kernel_rfl) (by kernel_rfl) (by kernel_rfl) (by kernel_rfl) (fun _ _ _ h => h) (Still.yes (by kernel_rfl) fun w hS => ?_) ?_
              rotate_left 1
              · skip
                go_simp
                try simp only [hlb, hs1, hs2]
                refine gives_mk ?_ rfl
                with_reducible rfl
              refine ph_take HU (i := 20) (v := ?_) rfl (by kernel_rfl) (by kernel_rfl) (by kernel_rfl) (by kernel_rfl) (fun _ _ _ h => h) (Still.yes (by kernel_rfl) fun w hS => ?_) ?_
              rotate_left 1
              · skip
                go_simp
                try simp only [hlb, hs1, hs2]
                refine gives_mk ?_ rfl
                with_reducible rfl
              refine ph_take HU (i := 21) (v := ?_) rfl (by kernel_rfl) (by kernel_rfl) (by kernel_rfl) (by kernel_rfl) (fun _ _ _ h => h) (Still.yes (by kernel_rfl) fun w hS => ?_) ?_
              rotate_left 1
              · skip
                go_simp
                try simp only [hlb, hs1, hs2]
                refine gives_mk ?_ rfl
                with_reducible rfl
              refine ph_take HU (i := 22) (v := ?_) rfl (by kernel_rfl) (by kernel_rfl) (by kernel_rfl) (by kernel_rfl) (fun _ _ _ h => h) (Still.yes (by kernel_rfl) fun w hS => ?_) ?_
              rotate_left 1
              · skip
                go_simp
                try simp only [hlb, hs1, hs2]
                refine gives_mk ?_ rfl
                with_reducible rfl
              refine ph_take HU (i := 23) (v := ?_) rfl (by kernel_rfl) (by kernel_rfl) (by kernel_rfl) (by kernel_rfl) (fun _ _ _ h => h) (Still.yes (by kernel_rfl) fun w hS => ?_) ?_
              rotate_left 1
              · skip
                go_simp
                try simp only [hlb, hs1, hs2]
                refine gives_mk ?_ rfl
                with_reducible rfl
              refine ph_done ?_ ?_ _
              · kernel_rfl
              intro w2 hw2
              clear K0 K2 K3
              go_simp
              go_wp2
              go_ret
              exact ⟨by rw [HM.out]; simp [ht], ((Ext.refl _).alloc _).trans hw2.1⟩
          | false =>
            have HALL := Lib.hid hall
            rw [hall] at HM
            clear hall
            refine ph_take HU (i := 10) (v := ?_) rfl (by kernel_rfl) (by kernel_rfl) (by kernel_rfl) (by kernel_rfl) (fun _ _ _ h => h) (Still.yes (by kernel_rfl) fun w hS => ?_) ?_
            rotate_left 1
            · skip
              go_simp
              try simp only [hlb]
              refine gives_mk ?_ rfl
              with_reducible rfl
            refine ph_take HU (i := 11) (v := ?_) rfl (by kernel_rfl) (by kernel_rfl) (by kernel_rfl) (by kernel_rfl) (fun _ _ _ h => h) (Still.yes (by kernel_rfl) fun w hS => ?_) ?_
            rotate_left 1
            · skip
              go_simp
              try simp only [hlb]
              refine gives_mk ?_ rfl
              with_reducible rfl
            refine ph_take HU (i := 12) (v := ?_) rfl (by kernel_rfl) (by kernel_rfl) (by kernel_rfl) (by kernel_rfl) (fun _ _ _ h => h) (Still.yes (by kernel_rfl) fun w hS => ?_) ?_
            rotate_left 1
            · skip
              go_simp
              try simp only [hlb]
              refine gives_mk ?_ rfl
              with_reducible rfl
            refine ph_take HU (i := 13) (v := ?_) rfl (by kernel_rfl) (by kernel_rfl) (by kernel_rfl) (by kernel_rfl) (fun _ _ _ h => h) (Still.yes (by kernel_rfl) fun w hS => ?_) ?_
            rotate_left 1
            · skip
              go_simp
              try simp only [hlb]
              refine gives_mk ?_ rfl
              with_reducible rfl
            refine ph_take HU (i := 14) (v := ?_) rfl (by kernel_rfl) (by kernel_rfl) (by kernel_rfl) (by kernel_rfl) (fun _ _ _ h => h) (Still.yes (by kernel_rfl) fun w hS => ?_) ?_
            rotate_left 1
            · skip
              go_simp
              try simp only [hlb]
              refine gives_mk ?_ rfl
              with_reducible rfl
            refine ph_take HU (i := 15) (v := ?_) rfl (by kernel_rfl) (by kernel_rfl) (by kernel_rfl) (by kernel_rfl) (fun _ _ _ h => h) (Still.yes (by kernel_rfl) fun w hS => ?_) ?_
            rotate_left 1
            · skip
              go_simp
              try simp only [hlb]
              refine gives_mk ?_ rfl
              with_reducible rfl
            refine ph_take HU (i := 16) (v := .bool false) rfl (by kernel_rfl) (by kernel_rfl) (by kernel_rfl) (by kernel_rfl) (fun _ _ _ h => h) (Still.yes (by kernel_rfl) fun w hS => ?_) ?_
            · go_simp
              refine gives_call ((numbers_eq _ xs false HALL.out _ (HI.out.ext ((Ext.alloc (Ext.refl _) _).trans hS)) HN.out).mono ?_)
              exact fun r w2 ⟨he, hx⟩ => ⟨he, hx.symm⟩
            refine ph_take HU (i := 17) (v := ?_) rfl (by kernel_rfl) (by kernel_rfl) (by kernel_rfl) (by kernel_rfl) (fun _ _ _ h => h) (Still.yes (by kernel_rfl) fun w hS => ?_) ?_
            rotate_left 1
            · skip
              go_simp
              try simp only [hlb]
              refine gives_mk ?_ rfl
              with_reducible rfl
            refine ph_take HU (i := 18) (v := ?_) rfl (by kernel_rfl) (by kernel_rfl) (by kernel_rfl) (by kernel_rfl) (fun _ _ _ h => h) (Still.yes (by kernel_rfl) fun w hS => ?_) ?_
            rotate_left 1
            · skip
              go_simp
              try simp only [hlb]
              refine gives_mk ?_ rfl
              with_reducible rfl
            refine ph_take HU (i := 19) rfl (by kernel_rfl) (by kernel_rfl) (by kernel_rfl) (by kernel_rfl) (fun _ _ _ h => h) (Still.no (by kernel_rfl)) ?_
            refine ph_take HU (i := 20) rfl (by kernel_rfl) (by kernel_rfl) (by kernel_rfl) (by kernel_rfl) (fun _ _ _ h => h) (Still.no (by kernel_rfl)) ?_
            refine ph_take HU (i := 21) rfl (by kernel_rfl) (by kernel_rfl) (by kernel_rfl) (by kernel_rfl) (fun _ _ _ h => h) (Still.no (by kernel_rfl)) ?_
            refine ph_take HU (i := 22) (v := ?_) rfl (by kernel_rfl) (by kernel_rfl) (by kernel_rfl) (by kernel_rfl) (fun _ _ _ h => h) (Still.yes (by kernel_rfl) fun w hS => ?_) ?_
            rotate_left 1
            · skip
              go_simp
              try simp only [hlb]
              refine gives_mk ?_ rfl
              with_reducible rfl
            refine ph_take HU (i := 23) (v := ?_) rfl (by kernel_rfl) (by kernel_rfl) (by kernel_rfl) (by kernel_rfl) (fun _ _ _ h => h) (Still.yes (by kernel_rfl) fun w hS => ?_) ?_
            rotate_left 1
            · skip
              go_simp
              try simp only [hlb]
              refine gives_mk ?_ rfl
              with_reducible rfl
            refine ph_done ?_ ?_ _
            · kernel_rfl
            intro w2 hw2
            clear K0 K2 K3
            go_simp
            go_wp2
            go_ret
            exact ⟨by rw [HM.out]; rfl, ((Ext.refl _).alloc _).trans hw2.1⟩
        · have hlb : ((xs.length : Int) == ((Ki.args k).length : Int)) = false := by simp; omega
          have HL : Hid ((xs.length == (Ki.args k).length) = false) := Lib.hid (by simpa using hl)
          clear hl
          rw [HL.out] at HM
          refine ph_take HU (i := 10) (v := ?_) rfl (by kernel_rfl) (by kernel_rfl) (by kernel_rfl) (by kernel_rfl) (fun _ _ _ h => h) (Still.yes (by kernel_rfl) fun w hS => ?_) ?_
          rotate_left 1
          · skip
            go_simp
            try simp only [hlb]
            refine gives_mk ?_ rfl
            with_reducible rfl
          refine ph_take HU (i := 11) (v := ?_) rfl (by kernel_rfl) (by kernel_rfl) (by kernel_rfl) (by kernel_rfl) (fun _ _ _ h => h) (Still.yes (by kernel_rfl) fun w hS => ?_) ?_
          rotate_left 1
          · skip
            go_simp
            try simp only [hlb]
            refine gives_mk ?_ rfl
            with_reducible rfl
          refine ph_take HU (i := 12) (v := ?_) rfl (by kernel_rfl) (by kernel_rfl) (by kernel_rfl) (by kernel_rfl) (fun _ _ _ h => h) (Still.yes (by kernel_rfl) fun w hS => ?_) ?_
          rotate_left 1
          · skip
            go_simp
            try simp only [hlb]
            refine gives_mk ?_ rfl
            with_reducible rfl
          refine ph_take HU (i := 13) (v := ?_) rfl (by kernel_rfl) (by kernel_rfl) (by kernel_rfl) (by kernel_rfl) (fun _ _ _ h => h) (Still.yes (by kernel_rfl) fun w hS => ?_) ?_
          rotate_left 1
          · skip
            go_simp
            try simp only [hlb]
            refine gives_mk ?_ rfl
            with_reducible rfl
          refine ph_take HU (i := 14) rfl (by kernel_rfl) (by kernel_rfl) (by kernel_rfl) (by kernel_rfl) (fun _ _ _ h => h) (Still.no (by kernel_rfl)) ?_
          refine ph_take HU (i := 15) rfl (by kernel_rfl) (by kernel_rfl) (by kernel_rfl) (by kernel_rfl) (fun _ _ _ h => h) (Still.no (by kernel_rfl)) ?_
          refine ph_take HU (i := 16) rfl (by kernel_rfl) (by kernel_rfl) (by kernel_rfl) (by kernel_rfl) (fun _ _ _ h => h) (Still.no (by kernel_rfl)) ?_
          refine ph_take HU (i := 17) (v := ?_) rfl (by kernel_rfl) (by kernel_rfl) (by kernel_rfl) (by kernel_rfl) (fun _ _ _ h => h) (Still.yes (by kernel_rfl) fun w hS => ?_) ?_
          rotate_left 1
          · skip
            go_simp
            try simp only [hlb]
            refine gives_mk ?_ rfl
            with_reducible rfl
          refine ph_take HU (i := 18) (v := ?_) rfl (by kernel_rfl) (by kernel_rfl) (by kernel_rfl) (by kernel_rfl) (fun _ _ _ h => h) (Still.yes (by kernel_rfl) fun w hS => ?_) ?_
          rotate_left 1
          · skip
            go_simp
            try simp only [hlb]
            refine gives_mk ?_ rfl
            with_reducible rfl
          refine ph_take HU (i := 19) rfl (by kernel_rfl) (by kernel_rfl) (by kernel_rfl) (by kernel_rfl) (fun _ _ _ h => h) (Still.no (by kernel_rfl)) ?_
          refine ph_take HU (i := 20) rfl (by kernel_rfl) (by kernel_rfl) (by kernel_rfl) (by kernel_rfl) (fun _ _ _ h => h) (Still.no (by kernel_rfl)) ?_
          refine ph_take HU (i := 21) rfl (by kernel_rfl) (by kernel_rfl) (by kernel_rfl) (by kernel_rfl) (fun _ _ _ h => h) (Still.no (by kernel_rfl)) ?_
          refine ph_take HU (i := 22) (v := ?_) rfl (by kernel_rfl) (by kernel_rfl) (by kernel_rfl) (by kernel_rfl) (fun _ _ _ h => h) (Still.yes (by kernel_rfl) fun w hS => ?_) ?_
          rotate_left 1
          · skip
            go_simp
            try simp only [hlb]
            refine gives_mk ?_ rfl
            with_reducible rfl
          refine ph_take HU (i := 23) (v := ?_) rfl (by kernel_rfl) (by kernel_rfl) (by kernel_rfl) (by kernel_rfl) (fun _ _ _ h => h) (Still.yes (by kernel_rfl) fun w hS => ?_) ?_
          rotate_left 1
          · skip
            go_simp
            try simp only [hlb]
            refine gives_mk ?_ rfl
            with_reducible rfl
          refine ph_done ?_ ?_ _
          · kernel_rfl
          intro w2 hw2
          clear K0 K2 K3
          go_simp
          go_wp2
          go_ret
          exact ⟨by rw [HM.out]; rfl, ((Ext.refl _).alloc _).trans hw2.1⟩

end Go.Proofs.Ytcdfpifhjjiioaa
