/-
  Contracts of the document's May and Encode, of events.
-/
import Derived.Test.YtcdfpifhjjiioaaEk
set_option linter.unusedVariables false
set_option linter.unusedSimpArgs false
namespace Go.Proofs.Ytcdfpifhjjiioaa
open Go.RowKit

theorem fits_eq (k : Int) (b : Bool) (h : Ev.ok k = b) (w : World) : Calls Try.prog 20 #[.int .i64 k] w fun e w' => e = .returned (.bool b) ∧ w = w' := by subst h; exact fits_any k w
theorem Ev.may_eq2 {e : Ev} (h : Ev.ok e.dt = true) (hx : Ki.exp e.kind = false) (ha : e.args.all Ev.ok = true) : e.may = (Ki.known e.kind && e.args.length == (Ki.args e.kind).length && e.text.size == 0) := by
  rw [Ev.may_eq h hx, ha]; simp
set_option maxRecDepth 100000 in
set_option maxHeartbeats 1000000 in
theorem rmay_no (A : Option Addr) (c : Nat) (k d : Int) (xs : List Int) (t : ByteArray) (w : World) (hI : IntsAt w (.slice A xs.length c) xs) (hn : xs.length ≤ 1000000) (hno : Ev.ok d = false ∨ Ki.exp k = true) :
    Calls Try.prog 21 #[.agg #[.int .i64 k, .int .i64 d, .slice A xs.length c, .string t]] w fun r w' => r = .returned (.bool (Ev.may ⟨k, d, xs, t⟩)) ∧ Ext w w' := by
  have HI := Lib.hid hI; clear hI
  cases hd : Ev.ok d with
  | false =>
    have HM : Hid (Ev.may ⟨k, d, xs, t⟩ = false) := Lib.hid (by unfold Ev.may; simp [hd])
    go_enter Try.func21, Try.ntmps21
    go_wp2_with (go_at_call 20; refine (fits_eq d false hd _).mono ?_; rintro r w1 ⟨rfl, rfl⟩)
    go_ret
    exact ⟨by rw [HM.out]; rfl, (Ext.refl _).alloc _⟩
  | true =>
    have hx : Ki.exp k = true := by rcases hno with h | h; · rw [hd] at h; cases h
                                    · exact h
    have HD := Lib.hid hd
    have HM : Hid (Ev.may ⟨k, d, xs, t⟩ = (xs.length == 0)) := Lib.hid (by unfold Ev.may; simp [hd, hx])
    have HX := Lib.hid hx
    clear hd hx hno
    go_enter Try.func21, Try.ntmps21
    go_wp2_with (first | (go_at_call 20; refine (fits_eq d true HD.out _).mono ?_; rintro r w1 ⟨rfl, rfl⟩) | (go_at_call 36; refine (rexp_eq k true HX.out _).mono ?_; rintro r w1 ⟨rfl, rfl⟩))
    go_ret
    refine ⟨?_, (Ext.refl _).alloc _⟩
    rw [HM.out]
    congr 2
    cases xs <;> rfl
set_option maxRecDepth 100000 in
set_option maxHeartbeats 1000000 in
theorem rmay_in (A : Option Addr) (c : Nat) (k d : Int) (xs : List Int) (t : ByteArray) (w : World) (hI : IntsAt w (.slice A xs.length c) xs) (hn : xs.length ≤ 1000000) (hd : Ev.ok d = true) (hx : Ki.exp k = false) :
    Calls Try.prog 21 #[.agg #[.int .i64 k, .int .i64 d, .slice A xs.length c, .string t]] w fun r w' => r = .returned (.bool (Ev.may ⟨k, d, xs, t⟩)) ∧ Ext w w' := by
  have HI := Lib.hid hI; clear hI
  have HD := Lib.hid hd
  have HX := Lib.hid hx
  clear hd hx
  go_enter Try.func21, Try.ntmps21
  go_wp2_with (first | (go_at_call 20; refine (fits_eq d true HD.out _).mono ?_; rintro r w1 ⟨rfl, rfl⟩) | (go_at_call 36; refine (rexp_eq k false HX.out _).mono ?_; rintro r w1 ⟨rfl, rfl⟩))
  go_loop [3] (fun i => ∃ j : Nat, j ≤ xs.length ∧ i = .int .i64 j ∧ (xs.take j).all Ev.ok = true) (fun i => xs.length - (intOf i).toNat)
  case atStart => exact ⟨0, by omega, rfl, by simp⟩
  case round =>
    obtain ⟨j, hj, rfl, hall⟩ := hrel
    have HL := Lib.hid hall; clear hall
    by_cases hlt : j < xs.length
    · obtain ⟨A', c', hAA, hII⟩ := HI.out
      obtain ⟨b, o, rfl, hb, hc⟩ := hII (by omega)
      simp only [Value.slice.injEq, true_and] at hAA
      obtain ⟨rfl, rfl⟩ := hAA
      have hcell : (w.alloc (.cells #[.int .i64 k, .int .i64 d, .slice (some ⟨b, o, none⟩) xs.length c, .string t] 28)).cell? ⟨b, o + j, none⟩ = some (.int .i64 xs[j]) := by
        rw [Below.cell ((Ext.refl w).alloc _) hb]; exact hc j _ (List.getElem?_eq_getElem hlt)
      have HT : Hid (xs.take (j + 1) = xs.take j ++ [xs[j]]) := Lib.hid (by rw [List.take_succ_eq_append_getElem hlt])
      have HDD : Hid (xs = xs.take j ++ xs[j] :: xs.drop (j + 1)) := Lib.hid (by rw [← List.drop_eq_getElem_cons hlt, List.take_append_drop])
      clear hc hII
      generalize xs[j] = x at *
      cases ho : Ev.ok x with
      | true =>
        have HO := Lib.hid ho; clear ho
        go_wp2_with (go_at_call 20; refine (fits_eq x true HO.out _).mono ?_; rintro e w1 ⟨rfl, rfl⟩)
        go_round
        case rel => exact ⟨j + 1, by omega, by go_num, by rw [HT.out, List.all_append, HL.out]; simp [HO.out]⟩
        case measure => simp [intOf]; omega
      | false =>
        have HO := Lib.hid ho; clear ho
        have HM : Hid (Ev.may ⟨k, d, xs, t⟩ = false) := Lib.hid (by
          rw [Ev.may_eq HD.out HX.out, show xs.all Ev.ok = false by rw [HDD.out, List.all_append, List.all_cons, HO.out]; simp]; simp)
        go_wp2_with (go_at_call 20; refine (fits_eq x false HO.out _).mono ?_; rintro e w1 ⟨rfl, rfl⟩)
        go_ret
        exact ⟨by rw [HM.out]; rfl, (Ext.refl _).alloc _⟩
    · have hal : xs.all Ev.ok = true := by have := HL.out; rwa [List.take_of_length_le (by omega)] at this
      have HM := Lib.hid (Ev.may_eq2 (e := ⟨k, d, xs, t⟩) HD.out HX.out hal)
      simp only at HM
      clear hal
      have hK0 := fun v (hv : Ext (w.alloc (.cells #[.int .i64 k, .int .i64 d, .slice A xs.length c, .string t] 28)) v) => Ext.box hv 0 (.int .i64 k) rfl
      have hK2 := fun v (hv : Ext (w.alloc (.cells #[.int .i64 k, .int .i64 d, .slice A xs.length c, .string t] 28)) v) => Ext.box hv 2 (.slice A xs.length c) rfl
      have hK3 := fun v (hv : Ext (w.alloc (.cells #[.int .i64 k, .int .i64 d, .slice A xs.length c, .string t] 28)) v) => Ext.box hv 3 (.string t) rfl
      have HK0 := Lib.hid hK0
      have HK2 := Lib.hid hK2
      have HK3 := Lib.hid hK3
      clear hK0 hK2 hK3
      cases hk : Ki.known k with
      | false =>
        have HK := Lib.hid hk
        rw [hk] at HM
        clear hk
        go_wp2
        refine region_all (fun v => Ext (w.alloc (.cells #[.int .i64 k, .int .i64 d, .slice A xs.length c, .string t] 28)) v) (by kernel_rfl) (Ext.drew (Ext.refl _)) ?_
        have K0 := HK0.out
        refine all_take (i := 0) (v := ?_) rfl (by kernel_rfl) (by kernel_rfl) (by kernel_rfl) (fun _ _ _ h => h) (Tame.yes (by kernel_rfl) fun w hS => ?_) ?_
        rotate_left 1
        · skip
          go_simp
          refine gives_mk ?_ hS
          with_reducible rfl
        refine all_take (i := 1) (v := ?_) rfl (by kernel_rfl) (by kernel_rfl) (by kernel_rfl) (fun _ _ _ h => h) (Tame.yes (by kernel_rfl) fun w hS => ?_) ?_
        rotate_left 1
        · skip
          go_simp
          refine gives_mk ?_ hS
          with_reducible rfl
        refine all_take (i := 2) (v := .bool false) rfl (by kernel_rfl) (by kernel_rfl) (by kernel_rfl) (fun _ _ _ h => h) (Tame.yes (by kernel_rfl) fun w hS => ?_) ?_
        · go_simp
          refine gives_call ((rknown_eq _ _ HK.out _).mono ?_)
          exact fun r w2 ⟨he, hx⟩ => ⟨he, hx ▸ hS⟩
        refine all_take (i := 3) (v := ?_) rfl (by kernel_rfl) (by kernel_rfl) (by kernel_rfl) (fun _ _ _ h => h) (Tame.yes (by kernel_rfl) fun w hS => ?_) ?_
        rotate_left 1
        · skip
          go_simp
          refine gives_mk ?_ hS
          with_reducible rfl
        refine all_take (i := 4) rfl (by kernel_rfl) (by kernel_rfl) (by kernel_rfl) (fun _ _ _ h => h) (Tame.no (by kernel_rfl)) ?_
        refine all_take (i := 5) rfl (by kernel_rfl) (by kernel_rfl) (by kernel_rfl) (fun _ _ _ h => h) (Tame.no (by kernel_rfl)) ?_
        refine all_take (i := 6) rfl (by kernel_rfl) (by kernel_rfl) (by kernel_rfl) (fun _ _ _ h => h) (Tame.no (by kernel_rfl)) ?_
        refine all_take (i := 7) rfl (by kernel_rfl) (by kernel_rfl) (by kernel_rfl) (fun _ _ _ h => h) (Tame.no (by kernel_rfl)) ?_
        refine all_take (i := 8) rfl (by kernel_rfl) (by kernel_rfl) (by kernel_rfl) (fun _ _ _ h => h) (Tame.no (by kernel_rfl)) ?_
        refine all_take (i := 9) rfl (by kernel_rfl) (by kernel_rfl) (by kernel_rfl) (fun _ _ _ h => h) (Tame.no (by kernel_rfl)) ?_
        refine all_take (i := 10) rfl (by kernel_rfl) (by kernel_rfl) (by kernel_rfl) (fun _ _ _ h => h) (Tame.no (by kernel_rfl)) ?_
        refine all_take (i := 11) rfl (by kernel_rfl) (by kernel_rfl) (by kernel_rfl) (fun _ _ _ h => h) (Tame.no (by kernel_rfl)) ?_
        refine all_take (i := 12) (v := ?_) rfl (by kernel_rfl) (by kernel_rfl) (by kernel_rfl) (fun _ _ _ h => h) (Tame.yes (by kernel_rfl) fun w hS => ?_) ?_
        rotate_left 1
        · skip
          go_simp
          refine gives_mk ?_ hS
          with_reducible rfl
        refine all_take (i := 13) (v := ?_) rfl (by kernel_rfl) (by kernel_rfl) (by kernel_rfl) (fun _ _ _ h => h) (Tame.yes (by kernel_rfl) fun w hS => ?_) ?_
        rotate_left 1
        · skip
          go_simp
          refine gives_mk ?_ hS
          with_reducible rfl
        refine all_take (i := 14) rfl (by kernel_rfl) (by kernel_rfl) (by kernel_rfl) (fun _ _ _ h => h) (Tame.no (by kernel_rfl)) ?_
        refine all_take (i := 15) rfl (by kernel_rfl) (by kernel_rfl) (by kernel_rfl) (fun _ _ _ h => h) (Tame.no (by kernel_rfl)) ?_
        refine all_take (i := 16) rfl (by kernel_rfl) (by kernel_rfl) (by kernel_rfl) (fun _ _ _ h => h) (Tame.no (by kernel_rfl)) ?_
        refine all_take (i := 17) (v := ?_) rfl (by kernel_rfl) (by kernel_rfl) (by kernel_rfl) (fun _ _ _ h => h) (Tame.yes (by kernel_rfl) fun w hS => ?_) ?_
        rotate_left 1
        · skip
          go_simp
          refine gives_mk ?_ hS
          with_reducible rfl
        refine all_take (i := 18) (v := ?_) rfl (by kernel_rfl) (by kernel_rfl) (by kernel_rfl) (fun _ _ _ h => h) (Tame.yes (by kernel_rfl) fun w hS => ?_) ?_
        rotate_left 1
        · skip
          go_simp
          refine gives_mk ?_ hS
          with_reducible rfl
        refine all_done ?_ ?_ _
        · kernel_rfl
        intro w2 hw2
        clear K0
        go_simp
        go_wp2
        go_ret
        exact ⟨by rw [HM.out]; rfl, ((Ext.refl _).alloc _).trans hw2⟩
      | true =>
        have HK := Lib.hid hk
        rw [hk, Bool.true_and] at HM
        clear hk
        go_wp2
        have HU : Cov (fun v => Ext (w.alloc (.cells #[.int .i64 k, .int .i64 d, .slice A xs.length c, .string t] 28)) v) (fun v => Ext (w.alloc (.cells #[.int .i64 k, .int .i64 d, .slice A xs.length c, .string t] 28)) v) [(9, ArgsT (Ki.args k).length (w.alloc (.cells #[.int .i64 k, .int .i64 d, .slice A xs.length c, .string t] 28)))] :=
          ⟨fun _ h => h, fun p hp u w h => by rw [List.mem_singleton] at hp; subst hp; exact h.1⟩
        refine region_ph (fun v => Ext (w.alloc (.cells #[.int .i64 k, .int .i64 d, .slice A xs.length c, .string t] 28)) v) [(9, ArgsT (Ki.args k).length (w.alloc (.cells #[.int .i64 k, .int .i64 d, .slice A xs.length c, .string t] 28)))] (by kernel_rfl) (Ext.drew (Ext.refl _)) ?_
        have K0 := HK0.out
        have K2 := HK2.out
        have K3 := HK3.out
        refine ph_take HU (i := 0) (v := ?_) rfl (by kernel_rfl) (by kernel_rfl) (by kernel_rfl) (by kernel_rfl) (fun _ _ _ h => h) (Still.yes (by kernel_rfl) fun w hS => ?_) ?_
        rotate_left 1
        · skip
          go_simp
          refine gives_mk ?_ rfl
          with_reducible rfl
        refine ph_take HU (i := 1) (v := ?_) rfl (by kernel_rfl) (by kernel_rfl) (by kernel_rfl) (by kernel_rfl) (fun _ _ _ h => h) (Still.yes (by kernel_rfl) fun w hS => ?_) ?_
        rotate_left 1
        · skip
          go_simp
          refine gives_mk ?_ rfl
          with_reducible rfl
        refine ph_take HU (i := 2) (v := .bool true) rfl (by kernel_rfl) (by kernel_rfl) (by kernel_rfl) (by kernel_rfl) (fun _ _ _ h => h) (Still.yes (by kernel_rfl) fun w hS => ?_) ?_
        · go_simp
          refine gives_call ((rknown_eq _ _ HK.out _).mono ?_)
          exact fun r w2 ⟨he, hx⟩ => ⟨he, hx.symm⟩
        refine ph_take HU (i := 3) (v := ?_) rfl (by kernel_rfl) (by kernel_rfl) (by kernel_rfl) (by kernel_rfl) (fun _ _ _ h => h) (Still.yes (by kernel_rfl) fun w hS => ?_) ?_
        rotate_left 1
        · skip
          go_simp
          refine gives_mk ?_ rfl
          with_reducible rfl
        refine ph_take HU (i := 4) (v := ?_) rfl (by kernel_rfl) (by kernel_rfl) (by kernel_rfl) (by kernel_rfl) (fun _ _ _ h => h) (Still.yes (by kernel_rfl) fun w hS => ?_) ?_
        rotate_left 1
        · skip
          go_simp
          refine gives_mk ?_ rfl
          with_reducible rfl
        refine ph_take HU (i := 5) (v := ?_) rfl (by kernel_rfl) (by kernel_rfl) (by kernel_rfl) (by kernel_rfl) (fun _ _ _ h => h) (Still.yes (by kernel_rfl) fun w hS => ?_) ?_
        rotate_left 1
        · skip
          go_simp
          refine gives_mk ?_ rfl
          with_reducible rfl
        refine ph_take HU (i := 6) (v := ?_) rfl (by kernel_rfl) (by kernel_rfl) (by kernel_rfl) (by kernel_rfl) (fun _ _ _ h => h) (Still.yes (by kernel_rfl) fun w hS => ?_) ?_
        rotate_left 1
        · skip
          go_simp
          refine gives_mk ?_ rfl
          with_reducible rfl
        refine ph_take HU (i := 7) (v := ?_) rfl (by kernel_rfl) (by kernel_rfl) (by kernel_rfl) (by kernel_rfl) (fun _ _ _ h => h) (Still.yes (by kernel_rfl) fun w hS => ?_) ?_
        rotate_left 1
        · skip
          go_simp
          refine gives_mk ?_ rfl
          with_reducible rfl
        refine ph_take HU (i := 8) (v := ?_) rfl (by kernel_rfl) (by kernel_rfl) (by kernel_rfl) (by kernel_rfl) (fun _ _ _ h => h) (Still.yes (by kernel_rfl) fun w hS => ?_) ?_
        rotate_left 1
        · skip
          go_simp
          refine gives_mk ?_ rfl
          with_reducible rfl
        refine ph_call (by kernel_rfl) rfl (by kernel_rfl) (fun _ => by go_simp) (fun w hS => rargs_T k _ w hS) ?_
        rintro v ⟨w9, hT, A9, c9, rfl⟩
        have HU := HU.next (.slice A9 (Ki.args k).length c9)
        clear hT w9
        by_cases hl : xs.length = (Ki.args k).length
        · have hlb : ((xs.length : Int) == ((Ki.args k).length : Int)) = true := by simp; omega
          have HL : Hid ((xs.length == (Ki.args k).length) = true) := Lib.hid (by simpa using hl)
          clear hl
          rw [HL.out, Bool.true_and] at HM
          by_cases ht : t.size = 0
          · have hst := Ev.str_nil ht
            refine ph_take HU (i := 10) (v := ?_) rfl (by kernel_rfl) (by kernel_rfl) (by kernel_rfl) (by kernel_rfl) (fun _ _ _ h => h) (Still.yes (by kernel_rfl) fun w hS => ?_) ?_
            rotate_left 1
            · skip
              go_simp
              try simp only [hlb, hst]
              refine gives_mk ?_ rfl
              with_reducible rfl
            refine ph_take HU (i := 11) (v := ?_) rfl (by kernel_rfl) (by kernel_rfl) (by kernel_rfl) (by kernel_rfl) (fun _ _ _ h => h) (Still.yes (by kernel_rfl) fun w hS => ?_) ?_
            rotate_left 1
            · skip
              go_simp
              try simp only [hlb, hst]
              refine gives_mk ?_ rfl
              with_reducible rfl
            refine ph_take HU (i := 12) (v := ?_) rfl (by kernel_rfl) (by kernel_rfl) (by kernel_rfl) (by kernel_rfl) (fun _ _ _ h => h) (Still.yes (by kernel_rfl) fun w hS => ?_) ?_
            rotate_left 1
            · skip
              go_simp
              try simp only [hlb, hst]
              refine gives_mk ?_ rfl
              with_reducible rfl
            refine ph_take HU (i := 13) (v := ?_) rfl (by kernel_rfl) (by kernel_rfl) (by kernel_rfl) (by kernel_rfl) (fun _ _ _ h => h) (Still.yes (by kernel_rfl) fun w hS => ?_) ?_
            rotate_left 1
            · skip
              go_simp
              try simp only [hlb, hst]
              refine gives_mk ?_ rfl
              with_reducible rfl
            refine ph_take HU (i := 14) (v := ?_) rfl (by kernel_rfl) (by kernel_rfl) (by kernel_rfl) (by kernel_rfl) (fun _ _ _ h => h) (Still.yes (by kernel_rfl) fun w hS => ?_) ?_
            rotate_left 1
            · skip
              go_simp
              try simp only [hlb, hst]
              refine gives_mk ?_ rfl
              with_reducible rfl
            refine ph_take HU (i := 15) (v := ?_) rfl (by kernel_rfl) (by kernel_rfl) (by kernel_rfl) (by kernel_rfl) (fun _ _ _ h => h) (Still.yes (by kernel_rfl) fun w hS => ?_) ?_
            rotate_left 1
            · skip
              go_simp
              try simp only [hlb, hst]
              refine gives_mk ?_ rfl
              with_reducible rfl
            refine ph_take HU (i := 16) (v := ?_) rfl (by kernel_rfl) (by kernel_rfl) (by kernel_rfl) (by kernel_rfl) (fun _ _ _ h => h) (Still.yes (by kernel_rfl) fun w hS => ?_) ?_
            rotate_left 1
            · skip
              go_simp
              try simp only [hlb, hst]
              refine gives_mk ?_ rfl
              with_reducible rfl
            refine ph_take HU (i := 17) (v := ?_) rfl (by kernel_rfl) (by kernel_rfl) (by kernel_rfl) (by kernel_rfl) (fun _ _ _ h => h) (Still.yes (by kernel_rfl) fun w hS => ?_) ?_
            rotate_left 1
            · skip
              go_simp
              try simp only [hlb, hst]
              refine gives_mk ?_ rfl
              with_reducible rfl
            refine ph_take HU (i := 18) (v := ?_) rfl (by kernel_rfl) (by kernel_rfl) (by kernel_rfl) (by kernel_rfl) (fun _ _ _ h => h) (Still.yes (by kernel_rfl) fun w hS => ?_) ?_
            rotate_left 1
            · skip
              go_simp
              try simp only [hlb, hst]
              refine gives_mk ?_ rfl
              with_reducible rfl
            refine ph_done ?_ ?_ _
            · kernel_rfl
            intro w2 hw2
            clear K0 K2 K3
            go_simp
            go_wp2
            go_ret
            exact ⟨by rw [HM.out]; simp [ht], ((Ext.refl _).alloc _).trans hw2.1⟩
          · obtain ⟨hs1, hs2⟩ := Ev.str_nonempty ht
            refine ph_take HU (i := 10) (v := ?_) rfl (by kernel_rfl) (by kernel_rfl) (by kernel_rfl) (by kernel_rfl) (fun _ _ _ h => h) (Still.yes (by kernel_rfl) fun w hS => ?_) ?_
            rotate_left 1
            · skip
              go_simp
              try simp only [hlb, hs1, hs2]
              refine gives_mk ?_ rfl
              with_reducible rfl
            refine ph_take HU (i := 11) (v := ?_) rfl (by kernel_rfl) (by kernel_rfl) (by kernel_rfl) (by kernel_rfl) (fun _ _ _ h => h) (Still.yes (by kernel_rfl) fun w hS => ?_) ?_
            rotate_left 1
            · skip
              go_simp
              try simp only [hlb, hs1, hs2]
              refine gives_mk ?_ rfl
              with_reducible rfl
            refine ph_take HU (i := 12) (v := ?_) rfl (by kernel_rfl) (by kernel_rfl) (by kernel_rfl) (by kernel_rfl) (fun _ _ _ h => h) (Still.yes (by kernel_rfl) fun w hS => ?_) ?_
            rotate_left 1
            · skip
              go_simp
              try simp only [hlb, hs1, hs2]
              refine gives_mk ?_ rfl
              with_reducible rfl
            refine ph_take HU (i := 13) (v := ?_) rfl (by kernel_rfl) (by kernel_rfl) (by kernel_rfl) (by kernel_rfl) (fun _ _ _ h => h) (Still.yes (by kernel_rfl) fun w hS => ?_) ?_
            rotate_left 1
            · skip
              go_simp
              try simp only [hlb, hs1, hs2]
              refine gives_mk ?_ rfl
              with_reducible rfl
            refine ph_take HU (i := 14) (v := ?_) rfl (by kernel_rfl) (by kernel_rfl) (by kernel_rfl) (by kernel_rfl) (fun _ _ _ h => h) (Still.yes (by kernel_rfl) fun w hS => ?_) ?_
            rotate_left 1
            · skip
              go_simp
              try simp only [hlb, hs1, hs2]
              refine gives_mk ?_ rfl
              with_reducible rfl
            refine ph_take HU (i := 15) (v := ?_) rfl (by kernel_rfl) (by kernel_rfl) (by kernel_rfl) (by kernel_rfl) (fun _ _ _ h => h) (Still.yes (by kernel_rfl) fun w hS => ?_) ?_
            rotate_left 1
            · skip
              go_simp
              try simp only [hlb, hs1, hs2]
              refine gives_mk ?_ rfl
              with_reducible rfl
            refine ph_take HU (i := 16) (v := ?_) rfl (by kernel_rfl) (by kernel_rfl) (by kernel_rfl) (by kernel_rfl) (fun _ _ _ h => h) (Still.yes (by kernel_rfl) fun w hS => ?_) ?_
            rotate_left 1
            · skip
              go_simp
              try simp only [hlb, hs1, hs2]
              refine gives_mk ?_ rfl
              with_reducible rfl
            refine ph_take HU (i := 17) (v := ?_) rfl (by kernel_rfl) (by kernel_rfl) (by kernel_rfl) (by kernel_rfl) (fun _ _ _ h => h) (Still.yes (by kernel_rfl) fun w hS => ?_) ?_
            rotate_left 1
            · skip
              go_simp
              try simp only [hlb, hs1, hs2]
              refine gives_mk ?_ rfl
              with_reducible rfl
            refine ph_take HU (i := 18) (v := ?_) rfl (by kernel_rfl) (by kernel_rfl) (by kernel_rfl) (by kernel_rfl) (fun _ _ _ h => h) (Still.yes (by kernel_rfl) fun w hS => ?_) ?_
            rotate_left 1
            · skip
              go_simp
              try simp only [hlb, hs1, hs2]
              refine gives_mk ?_ rfl
              with_reducible rfl
            refine ph_done ?_ ?_ _
            · kernel_rfl
            intro w2 hw2
            clear K0 K2 K3
            go_simp
            go_wp2
            go_ret
            exact ⟨by rw [HM.out]; simp [ht], ((Ext.refl _).alloc _).trans hw2.1⟩
        · have hlb : ((xs.length : Int) == ((Ki.args k).length : Int)) = false := by simp; omega
          have HL : Hid ((xs.length == (Ki.args k).length) = false) := Lib.hid (by simpa using hl)
          clear hl
          rw [HL.out] at HM
          refine ph_take HU (i := 10) (v := ?_) rfl (by kernel_rfl) (by kernel_rfl) (by kernel_rfl) (by kernel_rfl) (fun _ _ _ h => h) (Still.yes (by kernel_rfl) fun w hS => ?_) ?_
          rotate_left 1
          · skip
            go_simp
            try simp only [hlb]
            refine gives_mk ?_ rfl
            with_reducible rfl
          refine ph_take HU (i := 11) (v := ?_) rfl (by kernel_rfl) (by kernel_rfl) (by kernel_rfl) (by kernel_rfl) (fun _ _ _ h => h) (Still.yes (by kernel_rfl) fun w hS => ?_) ?_
          rotate_left 1
          · skip
            go_simp
            try simp only [hlb]
            refine gives_mk ?_ rfl
            with_reducible rfl
          refine ph_take HU (i := 12) (v := ?_) rfl (by kernel_rfl) (by kernel_rfl) (by kernel_rfl) (by kernel_rfl) (fun _ _ _ h => h) (Still.yes (by kernel_rfl) fun w hS => ?_) ?_
          rotate_left 1
          · skip
            go_simp
            try simp only [hlb]
            refine gives_mk ?_ rfl
            with_reducible rfl
          refine ph_take HU (i := 13) (v := ?_) rfl (by kernel_rfl) (by kernel_rfl) (by kernel_rfl) (by kernel_rfl) (fun _ _ _ h => h) (Still.yes (by kernel_rfl) fun w hS => ?_) ?_
          rotate_left 1
          · skip
            go_simp
            try simp only [hlb]
            refine gives_mk ?_ rfl
            with_reducible rfl
          refine ph_take HU (i := 14) rfl (by kernel_rfl) (by kernel_rfl) (by kernel_rfl) (by kernel_rfl) (fun _ _ _ h => h) (Still.no (by kernel_rfl)) ?_
          refine ph_take HU (i := 15) rfl (by kernel_rfl) (by kernel_rfl) (by kernel_rfl) (by kernel_rfl) (fun _ _ _ h => h) (Still.no (by kernel_rfl)) ?_
          refine ph_take HU (i := 16) rfl (by kernel_rfl) (by kernel_rfl) (by kernel_rfl) (by kernel_rfl) (fun _ _ _ h => h) (Still.no (by kernel_rfl)) ?_
          refine ph_take HU (i := 17) (v := ?_) rfl (by kernel_rfl) (by kernel_rfl) (by kernel_rfl) (by kernel_rfl) (fun _ _ _ h => h) (Still.yes (by kernel_rfl) fun w hS => ?_) ?_
          rotate_left 1
          · skip
            go_simp
            try simp only [hlb]
            refine gives_mk ?_ rfl
            with_reducible rfl
          refine ph_take HU (i := 18) (v := ?_) rfl (by kernel_rfl) (by kernel_rfl) (by kernel_rfl) (by kernel_rfl) (fun _ _ _ h => h) (Still.yes (by kernel_rfl) fun w hS => ?_) ?_
          rotate_left 1
          · skip
            go_simp
            try simp only [hlb]
            refine gives_mk ?_ rfl
            with_reducible rfl
          refine ph_done ?_ ?_ _
          · kernel_rfl
          intro w2 hw2
          clear K0 K2 K3
          go_simp
          go_wp2
          go_ret
          exact ⟨by rw [HM.out]; rfl, ((Ext.refl _).alloc _).trans hw2.1⟩
theorem rmay_e (v : Value) (e : Ev) (w : World) (h : EvAt w v e) (hn : e.args.length ≤ 1000000) :
    Calls Try.prog 21 #[v] w fun r w' => r = .returned (.bool e.may) ∧ Ext w w' := by
  obtain ⟨A, c, rfl, hI⟩ := h
  obtain ⟨k, d, xs, t⟩ := e
  cases hd : Ev.ok d with
  | false => exact rmay_no A c k d xs t w hI hn (.inl hd)
  | true =>
    cases hx : Ki.exp k with
    | true => exact rmay_no A c k d xs t w hI hn (.inr hx)
    | false => exact rmay_in A c k d xs t w hI hn hd hx

end Go.Proofs.Ytcdfpifhjjiioaa
