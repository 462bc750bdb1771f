/-
  Several texts in one: Sm, Sn, So.
-/
import Derived.Test.YtdcbaddndoilfaaE14
set_option linter.unusedVariables false
set_option linter.unusedSimpArgs false
namespace Go.Proofs.Ytdcbaddndoilfaa
open Go.RowKit
theorem sfits_eq (n : Int) (b : Bool) (hb : decide (0 ≤ n ∧ n < 4611686018427387904) = b) (w : World) : Calls Try.prog 35 #[.int .i64 n] w fun e w' => e = .returned (.bool b) ∧ w = w' := by
  subst hb
  by_cases h : 0 ≤ n
  · by_cases h2 : n < 4611686018427387904
    · rw [decide_eq_true (show 0 ≤ n ∧ n < 4611686018427387904 from ⟨h, h2⟩)]
      go_enter Try.func35, Try.ntmps35
      go_wp2
      go_ret
      exact ⟨rfl, rfl⟩
    · rw [decide_eq_false (show ¬ (0 ≤ n ∧ n < 4611686018427387904) by omega)]
      have hd : decide (n < 4611686018427387904) = false := by simp; omega
      clear h2
      go_enter Try.func35, Try.ntmps35
      go_wp2
      go_ret
      exact ⟨rfl, rfl⟩
  · rw [decide_eq_false (show ¬ (0 ≤ n ∧ n < 4611686018427387904) by omega)]
    have hd : decide (0 ≤ n) = false := by simp; omega
    go_enter Try.func35, Try.ntmps35
    go_wp2
    go_ret
    exact ⟨rfl, rfl⟩
set_option maxRecDepth 100000 in
set_option maxHeartbeats 1000000 in
theorem rahead_eq (a0 a1 b0 b1 : Int) (r : Bool) (hr : decide (Sl.lt (a0, a1) (b0, b1)) = r) (w : World) : Calls Try.prog 93 #[.agg #[.int .i64 a0, .int .i64 a1], .agg #[.int .i64 b0, .int .i64 b1]] w fun e w' => e = .returned (.bool r) ∧ Ext w w' := by
  subst hr
  by_cases h0 : a0 < b0
  · rw [show decide (Sl.lt (a0, a1) (b0, b1)) = true from decide_eq_true (Or.inl h0)]
    go_enter Try.func93, Try.ntmps93
    go_wp2
    go_ret
    exact ⟨rfl, ((Ext.refl _).alloc _).alloc _⟩
  · by_cases h1 : a0 = b0
    · subst h1
      rw [show decide (Sl.lt (a0, a1) (a0, b1)) = decide (a1 < b1) from decide_eq_decide.2 (show (a0 < a0 ∨ a0 = a0 ∧ a1 < b1) ↔ a1 < b1 by omega)]
      go_enter Try.func93, Try.ntmps93
      go_wp2
      go_ret
      exact ⟨rfl, ((Ext.refl _).alloc _).alloc _⟩
    · have hb : (a0 == b0) = false := by simpa using h1
      rw [show decide (Sl.lt (a0, a1) (b0, b1)) = false from decide_eq_false (show ¬ (a0 < b0 ∨ a0 = b0 ∧ a1 < b1) by omega)]
      go_enter Try.func93, Try.ntmps93
      go_wp2
      go_ret
      exact ⟨rfl, ((Ext.refl _).alloc _).alloc _⟩
set_option maxRecDepth 100000 in
set_option maxHeartbeats 1000000 in
theorem srmay_any (v : Value) (xs : List (Int × Int)) (w : World) (h : PairsAt w v xs) (hn : xs.length ≤ 1000000) :
    Calls Try.prog 68 #[v] w fun e w' => e = .returned (.bool (decide (Sl.May xs))) ∧ Ext w w' := by
  obtain ⟨A, c, rfl, hc, hA⟩ := h
  have HA := Lib.hid hA; clear hA
  go_enter Try.func68, Try.ntmps68
  go_wp2
  go_loopw [3] (fun i wr => ∃ k : Nat, k ≤ xs.length ∧ i = .int .i64 k ∧ Sl.May (xs.take k) ∧ Ext w wr) (fun i _ => xs.length - (intOf i).toNat)
  case atStart => exact ⟨0, by omega, rfl, by simpa using Sl.May.nil, Ext.refl _⟩
  case round =>
    obtain ⟨k, hk, rfl, hm, hx⟩ := hrel
    have HM := Lib.hid hm; clear hm
    have HX := Lib.hid hx; clear hx
    by_cases hlt : k < xs.length
    · obtain ⟨b, o, rfl, hb, hc⟩ := HA.out (by omega)
      have HB := Lib.hid hb
      have HCC := Lib.hid hc
      have HC := Lib.hid (hc k _ (List.getElem?_eq_getElem hlt))
      have HP : Hid (0 < k → ∃ q, xs[k - 1]? = some q ∧ w.cell? ⟨b, o + (k - 1) * 2, none⟩ = some (.int .i64 q.1) ∧ w.cell? ⟨b, o + (k - 1) * 2 + 1, none⟩ = some (.int .i64 q.2)) := Lib.hid fun h0 => ⟨xs[k - 1], List.getElem?_eq_getElem (by omega), hc (k - 1) _ (List.getElem?_eq_getElem (by omega))⟩
      have HNX := Lib.hid (Sl.may_next hlt)
      have HNO := Lib.hid (@Sl.may_no xs k hlt)
      clear hc hb
      generalize xs[k] = p at *
      obtain ⟨p0, p1⟩ := p
      simp only at HC HNX
      by_cases h01 : 0 ≤ p0 ∧ p0 < 4611686018427387904
      · have HFI : Hid (decide (0 ≤ p0 ∧ p0 < 4611686018427387904) = true) := Lib.hid (decide_eq_true h01)
        by_cases h2 : 1 ≤ p1
        · have HF : Hid (Sl.fit (p0, p1)) := Lib.hid ⟨h01.1, h01.2, h2⟩
          clear h01
          rcases Nat.eq_zero_or_pos k with h0 | h0
          · subst h0
            have HCON : Hid (p1 ∉ (xs.take 0).map Prod.snd → Sl.May (xs.take (0 + 1))) := Lib.hid fun hn => HNX.out.2 ⟨HM.out, HF.out, fun q h => absurd h (by omega), hn⟩
            clear HP HNX
            simp only [Nat.zero_mul, Nat.add_zero] at HC
            have b2 : decide (p1 < 1) = false := by simp; omega
            go_wp2
            refine region_all (fun v => Ext wr v) (by kernel_rfl) (Ext.refl _).drew ?_
            have K0 : ∀ v, Ext wr v → v.cell? ⟨b, o, none⟩ = some (.int .i64 p0) := fun v hv => by rw [Below.cell (HX.out.trans hv) HB.out]; exact HC.out.1
            have K1 : ∀ v, Ext wr v → v.cell? ⟨b, o + 1, none⟩ = some (.int .i64 p1) := fun v hv => by rw [Below.cell (HX.out.trans hv) HB.out]; exact HC.out.2
            refine all_take (i := 0) (v := ?_) rfl (by kernel_rfl) (by kernel_rfl) (by kernel_rfl) (fun _ _ _ h => h) (Tame.yes (by kernel_rfl) fun w hS => ?_) ?_
            rotate_left 1
            · skip
              go_simp
              try simp only [b2]
              refine gives_mk ?_ hS
              with_reducible rfl
            refine all_take (i := 1) (v := ?_) rfl (by kernel_rfl) (by kernel_rfl) (by kernel_rfl) (fun _ _ _ h => h) (Tame.yes (by kernel_rfl) fun w hS => ?_) ?_
            rotate_left 1
            · skip
              go_simp
              try simp only [b2]
              refine gives_mk ?_ hS
              with_reducible rfl
            refine all_take (i := 2) (v := ?_) rfl (by kernel_rfl) (by kernel_rfl) (by kernel_rfl) (fun _ _ _ h => h) (Tame.yes (by kernel_rfl) fun w hS => ?_) ?_
            rotate_left 1
            · skip
              go_simp
              try simp only [b2]
              refine gives_mk ?_ hS
              with_reducible rfl
            refine all_take (i := 3) (v := ?_) rfl (by kernel_rfl) (by kernel_rfl) (by kernel_rfl) (fun _ _ _ h => h) (Tame.yes (by kernel_rfl) fun w hS => ?_) ?_
            rotate_left 1
            · skip
              go_simp
              try simp only [b2]
              refine gives_mk ?_ hS
              with_reducible rfl
            refine all_take (i := 4) (v := ?_) rfl (by kernel_rfl) (by kernel_rfl) (by kernel_rfl) (fun _ _ _ h => h) (Tame.yes (by kernel_rfl) fun w hS => ?_) ?_
            rotate_left 1
            · skip
              go_simp
              try simp only [b2]
              refine gives_mk ?_ hS
              with_reducible rfl
            refine all_take (i := 5) (v := .bool true) rfl (by kernel_rfl) (by kernel_rfl) (by kernel_rfl) (fun _ _ _ h => h) (Tame.yes (by kernel_rfl) fun w hS => ?_) ?_
            · go_simp
              refine gives_call ((sfits_eq p0 true HFI.out _).mono ?_)
              exact fun r w2 ⟨he, hx⟩ => ⟨he, hx ▸ hS⟩
            refine all_take (i := 6) (v := ?_) rfl (by kernel_rfl) (by kernel_rfl) (by kernel_rfl) (fun _ _ _ h => h) (Tame.yes (by kernel_rfl) fun w hS => ?_) ?_
            rotate_left 1
            · skip
              go_simp
              try simp only [b2]
              refine gives_mk ?_ hS
              with_reducible rfl
            refine all_take (i := 7) (v := ?_) rfl (by kernel_rfl) (by kernel_rfl) (by kernel_rfl) (fun _ _ _ h => h) (Tame.yes (by kernel_rfl) fun w hS => ?_) ?_
            rotate_left 1
            · skip
              go_simp
              try simp only [b2]
              refine gives_mk ?_ hS
              with_reducible rfl
            refine all_take (i := 8) (v := ?_) rfl (by kernel_rfl) (by kernel_rfl) (by kernel_rfl) (fun _ _ _ h => h) (Tame.yes (by kernel_rfl) fun w hS => ?_) ?_
            rotate_left 1
            · skip
              go_simp
              try simp only [b2]
              refine gives_mk ?_ hS
              with_reducible rfl
            refine all_take (i := 9) (v := ?_) rfl (by kernel_rfl) (by kernel_rfl) (by kernel_rfl) (fun _ _ _ h => h) (Tame.yes (by kernel_rfl) fun w hS => ?_) ?_
            rotate_left 1
            · skip
              go_simp
              try simp only [b2]
              refine gives_mk ?_ hS
              with_reducible rfl
            refine all_take (i := 10) (v := ?_) rfl (by kernel_rfl) (by kernel_rfl) (by kernel_rfl) (fun _ _ _ h => h) (Tame.yes (by kernel_rfl) fun w hS => ?_) ?_
            rotate_left 1
            · skip
              go_simp
              try simp only [b2]
              refine gives_mk ?_ hS
              with_reducible rfl
            refine all_take (i := 11) (v := ?_) rfl (by kernel_rfl) (by kernel_rfl) (by kernel_rfl) (fun _ _ _ h => h) (Tame.yes (by kernel_rfl) fun w hS => ?_) ?_
            rotate_left 1
            · skip
              go_simp
              try simp only [b2]
              refine gives_mk ?_ hS
              with_reducible rfl
            refine all_take (i := 12) (v := ?_) rfl (by kernel_rfl) (by kernel_rfl) (by kernel_rfl) (fun _ _ _ h => h) (Tame.yes (by kernel_rfl) fun w hS => ?_) ?_
            rotate_left 1
            · skip
              go_simp
              try simp only [b2]
              refine gives_mk ?_ hS
              with_reducible rfl
            refine all_take (i := 13) (v := ?_) rfl (by kernel_rfl) (by kernel_rfl) (by kernel_rfl) (fun _ _ _ h => h) (Tame.yes (by kernel_rfl) fun w hS => ?_) ?_
            rotate_left 1
            · skip
              go_simp
              try simp only [b2]
              refine gives_mk ?_ hS
              with_reducible rfl
            refine all_take (i := 14) (v := ?_) rfl (by kernel_rfl) (by kernel_rfl) (by kernel_rfl) (fun _ _ _ h => h) (Tame.yes (by kernel_rfl) fun w hS => ?_) ?_
            rotate_left 1
            · skip
              go_simp
              try simp only [b2]
              refine gives_mk ?_ hS
              with_reducible rfl
            refine all_take (i := 15) (v := ?_) rfl (by kernel_rfl) (by kernel_rfl) (by kernel_rfl) (fun _ _ _ h => h) (Tame.yes (by kernel_rfl) fun w hS => ?_) ?_
            rotate_left 1
            · skip
              go_simp
              try simp only [b2]
              refine gives_mk ?_ hS
              with_reducible rfl
            refine all_take (i := 16) (v := ?_) rfl (by kernel_rfl) (by kernel_rfl) (by kernel_rfl) (fun _ _ _ h => h) (Tame.yes (by kernel_rfl) fun w hS => ?_) ?_
            rotate_left 1
            · skip
              go_simp
              try simp only [b2]
              refine gives_mk ?_ hS
              with_reducible rfl
            refine all_take (i := 17) (v := ?_) rfl (by kernel_rfl) (by kernel_rfl) (by kernel_rfl) (fun _ _ _ h => h) (Tame.yes (by kernel_rfl) fun w hS => ?_) ?_
            rotate_left 1
            · skip
              go_simp
              try simp only [b2]
              refine gives_mk ?_ hS
              with_reducible rfl
            refine all_take (i := 18) (v := ?_) rfl (by kernel_rfl) (by kernel_rfl) (by kernel_rfl) (fun _ _ _ h => h) (Tame.yes (by kernel_rfl) fun w hS => ?_) ?_
            rotate_left 1
            · skip
              go_simp
              try simp only [b2]
              refine gives_mk ?_ hS
              with_reducible rfl
            refine all_take (i := 19) rfl (by kernel_rfl) (by kernel_rfl) (by kernel_rfl) (fun _ _ _ h => h) (Tame.no (by kernel_rfl)) ?_
            refine all_take (i := 20) rfl (by kernel_rfl) (by kernel_rfl) (by kernel_rfl) (fun _ _ _ h => h) (Tame.no (by kernel_rfl)) ?_
            refine all_take (i := 21) rfl (by kernel_rfl) (by kernel_rfl) (by kernel_rfl) (fun _ _ _ h => h) (Tame.no (by kernel_rfl)) ?_
            refine all_take (i := 22) rfl (by kernel_rfl) (by kernel_rfl) (by kernel_rfl) (fun _ _ _ h => h) (Tame.no (by kernel_rfl)) ?_
            refine all_take (i := 23) rfl (by kernel_rfl) (by kernel_rfl) (by kernel_rfl) (fun _ _ _ h => h) (Tame.no (by kernel_rfl)) ?_
            refine all_take (i := 24) rfl (by kernel_rfl) (by kernel_rfl) (by kernel_rfl) (fun _ _ _ h => h) (Tame.no (by kernel_rfl)) ?_
            refine all_take (i := 25) rfl (by kernel_rfl) (by kernel_rfl) (by kernel_rfl) (fun _ _ _ h => h) (Tame.no (by kernel_rfl)) ?_
            refine all_take (i := 26) rfl (by kernel_rfl) (by kernel_rfl) (by kernel_rfl) (fun _ _ _ h => h) (Tame.no (by kernel_rfl)) ?_
            refine all_take (i := 27) rfl (by kernel_rfl) (by kernel_rfl) (by kernel_rfl) (fun _ _ _ h => h) (Tame.no (by kernel_rfl)) ?_
            refine all_take (i := 28) rfl (by kernel_rfl) (by kernel_rfl) (by kernel_rfl) (fun _ _ _ h => h) (Tame.no (by kernel_rfl)) ?_
            refine all_take (i := 29) rfl (by kernel_rfl) (by kernel_rfl) (by kernel_rfl) (fun _ _ _ h => h) (Tame.no (by kernel_rfl)) ?_
            refine all_take (i := 30) (v := ?_) rfl (by kernel_rfl) (by kernel_rfl) (by kernel_rfl) (fun _ _ _ h => h) (Tame.yes (by kernel_rfl) fun w hS => ?_) ?_
            rotate_left 1
            · skip
              go_simp
              try simp only [b2]
              refine gives_mk ?_ hS
              with_reducible rfl
            refine all_take (i := 31) (v := ?_) rfl (by kernel_rfl) (by kernel_rfl) (by kernel_rfl) (fun _ _ _ h => h) (Tame.yes (by kernel_rfl) fun w hS => ?_) ?_
            rotate_left 1
            · skip
              go_simp
              try simp only [b2]
              refine gives_mk ?_ hS
              with_reducible rfl
            clear b2
            refine all_done (by kernel_rfl) ?_ _
            intro w2 hx2
            have HX2 := Lib.hid (HX.out.trans hx2)
            clear hx2 K0 K1
            go_simp
            go_wp2
            refine wp_loop_rounds 1 ?_
            rw [rounds_succ]
            have HCN := Lib.hid (HCON.out (by simp))
            go_wp2
            go_roundw
            case rel => exact ⟨0 + 1, by omega, by go_num, HCN.out, HX2.out⟩
            case measure => simp [intOf]; omega
          · obtain ⟨q, hq, hq0, hq1⟩ := HP.out h0
            obtain ⟨q0, q1⟩ := q
            simp only at hq0 hq1
            have HQ0 := Lib.hid hq0
            have HQ1 := Lib.hid hq1
            have HQ := Lib.hid hq
            clear hq hq0 hq1 HP
            cases hl : decide (Sl.lt (q0, q1) (p0, p1)) with
            | false =>
              have HL := Lib.hid hl
              have HE : Hid (decide (Sl.May xs) = false) := Lib.hid (HNO.out fun hm => of_decide_eq_false HL.out ((HNX.out.1 hm).2.2.1 _ h0 HQ.out))
              clear hl
              have b2 : decide (p1 < 1) = false := by simp; omega
              go_wp2
              refine region_all (fun v => Ext wr v) (by kernel_rfl) (Ext.refl _).drew ?_
              have K0 : ∀ v, Ext wr v → v.cell? ⟨b, o + k * 2, none⟩ = some (.int .i64 p0) := fun v hv => by rw [Below.cell (HX.out.trans hv) HB.out]; exact HC.out.1
              have K1 : ∀ v, Ext wr v → v.cell? ⟨b, o + k * 2 + 1, none⟩ = some (.int .i64 p1) := fun v hv => by rw [Below.cell (HX.out.trans hv) HB.out]; exact HC.out.2
              have K2 : ∀ v, Ext wr v → v.cell? ⟨b, o + (k - 1) * 2, none⟩ = some (.int .i64 q0) := fun v hv => by rw [Below.cell (HX.out.trans hv) HB.out]; exact HQ0.out
              have K3 : ∀ v, Ext wr v → v.cell? ⟨b, o + (k - 1) * 2 + 1, none⟩ = some (.int .i64 q1) := fun v hv => by rw [Below.cell (HX.out.trans hv) HB.out]; exact HQ1.out
              have e1 : ((k : Int) - 1).toNat = k - 1 := by omega
              have e2 : 1 ≤ (k : Int) := by omega
              have e3 : (k : Int) - 1 < (xs.length : Int) := by omega
              have e4 : IntKind.i64.wrap ((k : Int) - 1) = (k : Int) - 1 := IntWalk.i64_in _ (by omega)
              refine all_take (i := 0) (v := ?_) rfl (by kernel_rfl) (by kernel_rfl) (by kernel_rfl) (fun _ _ _ h => h) (Tame.yes (by kernel_rfl) fun w hS => ?_) ?_
              rotate_left 1
              · skip
                go_simp
                try simp only [b2, e1, e4]
                refine gives_mk ?_ hS
                with_reducible rfl
              refine all_take (i := 1) (v := ?_) rfl (by kernel_rfl) (by kernel_rfl) (by kernel_rfl) (fun _ _ _ h => h) (Tame.yes (by kernel_rfl) fun w hS => ?_) ?_
              rotate_left 1
              · skip
                go_simp
                try simp only [b2, e1, e4]
                refine gives_mk ?_ hS
                with_reducible rfl
              refine all_take (i := 2) (v := ?_) rfl (by kernel_rfl) (by kernel_rfl) (by kernel_rfl) (fun _ _ _ h => h) (Tame.yes (by kernel_rfl) fun w hS => ?_) ?_
              rotate_left 1
              · skip
                go_simp
                try simp only [b2, e1, e4]
                refine gives_mk ?_ hS
                with_reducible rfl
              refine all_take (i := 3) (v := ?_) rfl (by kernel_rfl) (by kernel_rfl) (by kernel_rfl) (fun _ _ _ h => h) (Tame.yes (by kernel_rfl) fun w hS => ?_) ?_
              rotate_left 1
              · skip
                go_simp
                try simp only [b2, e1, e4]
                refine gives_mk ?_ hS
                with_reducible rfl
              refine all_take (i := 4) (v := ?_) rfl (by kernel_rfl) (by kernel_rfl) (by kernel_rfl) (fun _ _ _ h => h) (Tame.yes (by kernel_rfl) fun w hS => ?_) ?_
              rotate_left 1
              · skip
                go_simp
                try simp only [b2, e1, e4]
                refine gives_mk ?_ hS
                with_reducible rfl
              refine all_take (i := 5) (v := .bool true) rfl (by kernel_rfl) (by kernel_rfl) (by kernel_rfl) (fun _ _ _ h => h) (Tame.yes (by kernel_rfl) fun w hS => ?_) ?_
              · go_simp
                refine gives_call ((sfits_eq p0 true HFI.out _).mono ?_)
                exact fun r w2 ⟨he, hx⟩ => ⟨he, hx ▸ hS⟩
              refine all_take (i := 6) (v := ?_) rfl (by kernel_rfl) (by kernel_rfl) (by kernel_rfl) (fun _ _ _ h => h) (Tame.yes (by kernel_rfl) fun w hS => ?_) ?_
              rotate_left 1
              · skip
                go_simp
                try simp only [b2, e1, e4]
                refine gives_mk ?_ hS
                with_reducible rfl
              refine all_take (i := 7) (v := ?_) rfl (by kernel_rfl) (by kernel_rfl) (by kernel_rfl) (fun _ _ _ h => h) (Tame.yes (by kernel_rfl) fun w hS => ?_) ?_
              rotate_left 1
              · skip
                go_simp
                try simp only [b2, e1, e4]
                refine gives_mk ?_ hS
                with_reducible rfl
              refine all_take (i := 8) (v := ?_) rfl (by kernel_rfl) (by kernel_rfl) (by kernel_rfl) (fun _ _ _ h => h) (Tame.yes (by kernel_rfl) fun w hS => ?_) ?_
              rotate_left 1
              · skip
                go_simp
                try simp only [b2, e1, e4]
                refine gives_mk ?_ hS
                with_reducible rfl
              refine all_take (i := 9) (v := ?_) rfl (by kernel_rfl) (by kernel_rfl) (by kernel_rfl) (fun _ _ _ h => h) (Tame.yes (by kernel_rfl) fun w hS => ?_) ?_
              rotate_left 1
              · skip
                go_simp
                try simp only [b2, e1, e4]
                refine gives_mk ?_ hS
                with_reducible rfl
              refine all_take (i := 10) (v := ?_) rfl (by kernel_rfl) (by kernel_rfl) (by kernel_rfl) (fun _ _ _ h => h) (Tame.yes (by kernel_rfl) fun w hS => ?_) ?_
              rotate_left 1
              · skip
                go_simp
                try simp only [b2, e1, e4]
                refine gives_mk ?_ hS
                with_reducible rfl
              refine all_take (i := 11) (v := ?_) rfl (by kernel_rfl) (by kernel_rfl) (by kernel_rfl) (fun _ _ _ h => h) (Tame.yes (by kernel_rfl) fun w hS => ?_) ?_
              rotate_left 1
              · skip
                go_simp
                try simp only [b2, e1, e4]
                refine gives_mk ?_ hS
                with_reducible rfl
              refine all_take (i := 12) (v := ?_) rfl (by kernel_rfl) (by kernel_rfl) (by kernel_rfl) (fun _ _ _ h => h) (Tame.yes (by kernel_rfl) fun w hS => ?_) ?_
              rotate_left 1
              · skip
                go_simp
                try simp only [b2, e1, e4]
                refine gives_mk ?_ hS
                with_reducible rfl
              refine all_take (i := 13) (v := ?_) rfl (by kernel_rfl) (by kernel_rfl) (by kernel_rfl) (fun _ _ _ h => h) (Tame.yes (by kernel_rfl) fun w hS => ?_) ?_
              rotate_left 1
              · skip
                go_simp
                try simp only [b2, e1, e4]
                refine gives_mk ?_ hS
                with_reducible rfl
              refine all_take (i := 14) (v := ?_) rfl (by kernel_rfl) (by kernel_rfl) (by kernel_rfl) (fun _ _ _ h => h) (Tame.yes (by kernel_rfl) fun w hS => ?_) ?_
              rotate_left 1
              · skip
                go_simp
                try simp only [b2, e1, e4]
                refine gives_mk ?_ hS
                with_reducible rfl
              refine all_take (i := 15) (v := ?_) rfl (by kernel_rfl) (by kernel_rfl) (by kernel_rfl) (fun _ _ _ h => h) (Tame.yes (by kernel_rfl) fun w hS => ?_) ?_
              rotate_left 1
              · skip
                go_simp
                try simp only [b2, e1, e4]
                refine gives_mk ?_ hS
                with_reducible rfl
              refine all_take (i := 16) (v := ?_) rfl (by kernel_rfl) (by kernel_rfl) (by kernel_rfl) (fun _ _ _ h => h) (Tame.yes (by kernel_rfl) fun w hS => ?_) ?_
              rotate_left 1
              · skip
                go_simp
                try simp only [b2, e1, e4]
                refine gives_mk ?_ hS
                with_reducible rfl
              refine all_take (i := 17) (v := ?_) rfl (by kernel_rfl) (by kernel_rfl) (by kernel_rfl) (fun _ _ _ h => h) (Tame.yes (by kernel_rfl) fun w hS => ?_) ?_
              rotate_left 1
              · skip
                go_simp
                try simp only [b2, e1, e4]
                refine gives_mk ?_ hS
                with_reducible rfl
              refine all_take (i := 18) (v := ?_) rfl (by kernel_rfl) (by kernel_rfl) (by kernel_rfl) (fun _ _ _ h => h) (Tame.yes (by kernel_rfl) fun w hS => ?_) ?_
              rotate_left 1
              · skip
                go_simp
                try simp only [b2, e1, e4]
                refine gives_mk ?_ hS
                with_reducible rfl
              refine all_take (i := 19) (v := ?_) rfl (by kernel_rfl) (by kernel_rfl) (by kernel_rfl) (fun _ _ _ h => h) (Tame.yes (by kernel_rfl) fun w hS => ?_) ?_
              rotate_left 1
              · skip
                go_simp
                try simp only [b2, e1, e4]
                refine gives_mk ?_ hS
                with_reducible rfl
              refine all_take (i := 20) (v := ?_) rfl (by kernel_rfl) (by kernel_rfl) (by kernel_rfl) (fun _ _ _ h => h) (Tame.yes (by kernel_rfl) fun w hS => ?_) ?_
              rotate_left 1
              · skip
                go_simp
                try simp only [b2, e1, e4]
                refine gives_mk ?_ hS
                with_reducible rfl
              refine all_take (i := 21) (v := ?_) rfl (by kernel_rfl) (by kernel_rfl) (by kernel_rfl) (fun _ _ _ h => h) (Tame.yes (by kernel_rfl) fun w hS => ?_) ?_
              rotate_left 1
              · skip
                go_simp
                try simp only [b2, e1, e4]
                refine gives_mk ?_ hS
                with_reducible rfl
              refine all_take (i := 22) (v := ?_) rfl (by kernel_rfl) (by kernel_rfl) (by kernel_rfl) (fun _ _ _ h => h) (Tame.yes (by kernel_rfl) fun w hS => ?_) ?_
              rotate_left 1
              · skip
                go_simp
                try simp only [b2, e1, e4]
                refine gives_mk ?_ hS
                with_reducible rfl
              refine all_take (i := 23) (v := ?_) rfl (by kernel_rfl) (by kernel_rfl) (by kernel_rfl) (fun _ _ _ h => h) (Tame.yes (by kernel_rfl) fun w hS => ?_) ?_
              rotate_left 1
              · skip
                go_simp
                try simp only [b2, e1, e4]
                refine gives_mk ?_ hS
                with_reducible rfl
              refine all_take (i := 24) (v := ?_) rfl (by kernel_rfl) (by kernel_rfl) (by kernel_rfl) (fun _ _ _ h => h) (Tame.yes (by kernel_rfl) fun w hS => ?_) ?_
              rotate_left 1
              · skip
                go_simp
                try simp only [b2, e1, e4]
                refine gives_mk ?_ hS
                with_reducible rfl
              refine all_take (i := 25) (v := ?_) rfl (by kernel_rfl) (by kernel_rfl) (by kernel_rfl) (fun _ _ _ h => h) (Tame.yes (by kernel_rfl) fun w hS => ?_) ?_
              rotate_left 1
              · skip
                go_simp
                try simp only [b2, e1, e4]
                refine gives_mk ?_ hS
                with_reducible rfl
              refine all_take (i := 26) (v := ?_) rfl (by kernel_rfl) (by kernel_rfl) (by kernel_rfl) (fun _ _ _ h => h) (Tame.yes (by kernel_rfl) fun w hS => ?_) ?_
              rotate_left 1
              · skip
                go_simp
                try simp only [b2, e1, e4]
                refine gives_mk ?_ hS
                with_reducible rfl
              refine all_take (i := 27) (v := ?_) rfl (by kernel_rfl) (by kernel_rfl) (by kernel_rfl) (fun _ _ _ h => h) (Tame.yes (by kernel_rfl) fun w hS => ?_) ?_
              rotate_left 1
              · skip
                go_simp
                try simp only [b2, e1, e4]
                refine gives_mk ?_ hS
                with_reducible rfl
              refine all_take (i := 28) (v := .bool false) rfl (by kernel_rfl) (by kernel_rfl) (by kernel_rfl) (fun _ _ _ h => h) (Tame.yes (by kernel_rfl) fun w hS => ?_) ?_
              · go_simp
                refine gives_call ((rahead_eq q0 q1 p0 p1 false HL.out _).mono ?_)
                exact fun r w2 ⟨he, hx⟩ => ⟨he, hS.trans hx⟩
              refine all_take (i := 29) (v := ?_) rfl (by kernel_rfl) (by kernel_rfl) (by kernel_rfl) (fun _ _ _ h => h) (Tame.yes (by kernel_rfl) fun w hS => ?_) ?_
              rotate_left 1
              · skip
                go_simp
                try simp only [b2, e1, e4]
                refine gives_mk ?_ hS
                with_reducible rfl
              refine all_take (i := 30) (v := ?_) rfl (by kernel_rfl) (by kernel_rfl) (by kernel_rfl) (fun _ _ _ h => h) (Tame.yes (by kernel_rfl) fun w hS => ?_) ?_
              rotate_left 1
              · skip
                go_simp
                try simp only [b2, e1, e4]
                refine gives_mk ?_ hS
                with_reducible rfl
              refine all_take (i := 31) (v := ?_) rfl (by kernel_rfl) (by kernel_rfl) (by kernel_rfl) (fun _ _ _ h => h) (Tame.yes (by kernel_rfl) fun w hS => ?_) ?_
              rotate_left 1
              · skip
                go_simp
                try simp only [b2, e1, e4]
                refine gives_mk ?_ hS
                with_reducible rfl
              clear e1 e2 e3 e4 K2 K3 b2
              refine all_done (by kernel_rfl) ?_ _
              intro w2 hx2
              have HX2 := Lib.hid (HX.out.trans hx2)
              clear hx2 K0 K1
              go_simp
              go_wp2
              go_ret
              exact ⟨by rw [HE.out]; rfl, HX2.out⟩
            | true =>
              have HL := Lib.hid hl
              have HCON : Hid (p1 ∉ (xs.take k).map Prod.snd → Sl.May (xs.take (k + 1))) := Lib.hid fun hn => HNX.out.2 ⟨HM.out, HF.out, fun q _ h => by rw [HQ.out] at h; cases h; exact of_decide_eq_true HL.out, hn⟩
              clear hl
              have b2 : decide (p1 < 1) = false := by simp; omega
              go_wp2
              refine region_all (fun v => Ext wr v) (by kernel_rfl) (Ext.refl _).drew ?_
              have K0 : ∀ v, Ext wr v → v.cell? ⟨b, o + k * 2, none⟩ = some (.int .i64 p0) := fun v hv => by rw [Below.cell (HX.out.trans hv) HB.out]; exact HC.out.1
              have K1 : ∀ v, Ext wr v → v.cell? ⟨b, o + k * 2 + 1, none⟩ = some (.int .i64 p1) := fun v hv => by rw [Below.cell (HX.out.trans hv) HB.out]; exact HC.out.2
              have K2 : ∀ v, Ext wr v → v.cell? ⟨b, o + (k - 1) * 2, none⟩ = some (.int .i64 q0) := fun v hv => by rw [Below.cell (HX.out.trans hv) HB.out]; exact HQ0.out
              have K3 : ∀ v, Ext wr v → v.cell? ⟨b, o + (k - 1) * 2 + 1, none⟩ = some (.int .i64 q1) := fun v hv => by rw [Below.cell (HX.out.trans hv) HB.out]; exact HQ1.out
              have e1 : ((k : Int) - 1).toNat = k - 1 := by omega
              have e2 : 1 ≤ (k : Int) := by omega
              have e3 : (k : Int) - 1 < (xs.length : Int) := by omega
              have e4 : IntKind.i64.wrap ((k : Int) - 1) = (k : Int) - 1 := IntWalk.i64_in _ (by omega)
              refine all_take (i := 0) (v := ?_) rfl (by kernel_rfl) (by kernel_rfl) (by kernel_rfl) (fun _ _ _ h => h) (Tame.yes (by kernel_rfl) fun w hS => ?_) ?_
              rotate_left 1
              · skip
                go_simp
                try simp only [b2, e1, e4]
                refine gives_mk ?_ hS
                with_reducible rfl
              refine all_take (i := 1) (v := ?_) rfl (by kernel_rfl) (by kernel_rfl) (by kernel_rfl) (fun _ _ _ h => h) (Tame.yes (by kernel_rfl) fun w hS => ?_) ?_
              rotate_left 1
              · skip
                go_simp
                try simp only [b2, e1, e4]
                refine gives_mk ?_ hS
                with_reducible rfl
              refine all_take (i := 2) (v := ?_) rfl (by kernel_rfl) (by kernel_rfl) (by kernel_rfl) (fun _ _ _ h => h) (Tame.yes (by kernel_rfl) fun w hS => ?_) ?_
              rotate_left 1
              · skip
                go_simp
                try simp only [b2, e1, e4]
                refine gives_mk ?_ hS
                with_reducible rfl
              refine all_take (i := 3) (v := ?_) rfl (by kernel_rfl) (by kernel_rfl) (by kernel_rfl) (fun _ _ _ h => h) (Tame.yes (by kernel_rfl) fun w hS => ?_) ?_
              rotate_left 1
              · skip
                go_simp
                try simp only [b2, e1, e4]
                refine gives_mk ?_ hS
                with_reducible rfl
              refine all_take (i := 4) (v := ?_) rfl (by kernel_rfl) (by kernel_rfl) (by kernel_rfl) (fun _ _ _ h => h) (Tame.yes (by kernel_rfl) fun w hS => ?_) ?_
              rotate_left 1
              · skip
                go_simp
                try simp only [b2, e1, e4]
                refine gives_mk ?_ hS
                with_reducible rfl
              refine all_take (i := 5) (v := .bool true) rfl (by kernel_rfl) (by kernel_rfl) (by kernel_rfl) (fun _ _ _ h => h) (Tame.yes (by kernel_rfl) fun w hS => ?_) ?_
              · go_simp
                refine gives_call ((sfits_eq p0 true HFI.out _).mono ?_)
                exact fun r w2 ⟨he, hx⟩ => ⟨he, hx ▸ hS⟩
              refine all_take (i := 6) (v := ?_) rfl (by kernel_rfl) (by kernel_rfl) (by kernel_rfl) (fun _ _ _ h => h) (Tame.yes (by kernel_rfl) fun w hS => ?_) ?_
              rotate_left 1
              · skip
                go_simp
                try simp only [b2, e1, e4]
                refine gives_mk ?_ hS
                with_reducible rfl
              refine all_take (i := 7) (v := ?_) rfl (by kernel_rfl) (by kernel_rfl) (by kernel_rfl) (fun _ _ _ h => h) (Tame.yes (by kernel_rfl) fun w hS => ?_) ?_
              rotate_left 1
              · skip
                go_simp
                try simp only [b2, e1, e4]
                refine gives_mk ?_ hS
                with_reducible rfl
              refine all_take (i := 8) (v := ?_) rfl (by kernel_rfl) (by kernel_rfl) (by kernel_rfl) (fun _ _ _ h => h) (Tame.yes (by kernel_rfl) fun w hS => ?_) ?_
              rotate_left 1
              · skip
                go_simp
                try simp only [b2, e1, e4]
                refine gives_mk ?_ hS
                with_reducible rfl
              refine all_take (i := 9) (v := ?_) rfl (by kernel_rfl) (by kernel_rfl) (by kernel_rfl) (fun _ _ _ h => h) (Tame.yes (by kernel_rfl) fun w hS => ?_) ?_
              rotate_left 1
              · skip
                go_simp
                try simp only [b2, e1, e4]
                refine gives_mk ?_ hS
                with_reducible rfl
              refine all_take (i := 10) (v := ?_) rfl (by kernel_rfl) (by kernel_rfl) (by kernel_rfl) (fun _ _ _ h => h) (Tame.yes (by kernel_rfl) fun w hS => ?_) ?_
              rotate_left 1
              · skip
                go_simp
                try simp only [b2, e1, e4]
                refine gives_mk ?_ hS
                with_reducible rfl
              refine all_take (i := 11) (v := ?_) rfl (by kernel_rfl) (by kernel_rfl) (by kernel_rfl) (fun _ _ _ h => h) (Tame.yes (by kernel_rfl) fun w hS => ?_) ?_
              rotate_left 1
              · skip
                go_simp
                try simp only [b2, e1, e4]
                refine gives_mk ?_ hS
                with_reducible rfl
              refine all_take (i := 12) (v := ?_) rfl (by kernel_rfl) (by kernel_rfl) (by kernel_rfl) (fun _ _ _ h => h) (Tame.yes (by kernel_rfl) fun w hS => ?_) ?_
              rotate_left 1
              · skip
                go_simp
                try simp only [b2, e1, e4]
                refine gives_mk ?_ hS
                with_reducible rfl
              refine all_take (i := 13) (v := ?_) rfl (by kernel_rfl) (by kernel_rfl) (by kernel_rfl) (fun _ _ _ h => h) (Tame.yes (by kernel_rfl) fun w hS => ?_) ?_
              rotate_left 1
              · skip
                go_simp
                try simp only [b2, e1, e4]
                refine gives_mk ?_ hS
                with_reducible rfl
              refine all_take (i := 14) (v := ?_) rfl (by kernel_rfl) (by kernel_rfl) (by kernel_rfl) (fun _ _ _ h => h) (Tame.yes (by kernel_rfl) fun w hS => ?_) ?_
              rotate_left 1
              · skip
                go_simp
                try simp only [b2, e1, e4]
                refine gives_mk ?_ hS
                with_reducible rfl
              refine all_take (i := 15) (v := ?_) rfl (by kernel_rfl) (by kernel_rfl) (by kernel_rfl) (fun _ _ _ h => h) (Tame.yes (by kernel_rfl) fun w hS => ?_) ?_
              rotate_left 1
              · skip
                go_simp
                try simp only [b2, e1, e4]
                refine gives_mk ?_ hS
                with_reducible rfl
              refine all_take (i := 16) (v := ?_) rfl (by kernel_rfl) (by kernel_rfl) (by kernel_rfl) (fun _ _ _ h => h) (Tame.yes (by kernel_rfl) fun w hS => ?_) ?_
              rotate_left 1
              · skip
                go_simp
                try simp only [b2, e1, e4]
                refine gives_mk ?_ hS
                with_reducible rfl
              refine all_take (i := 17) (v := ?_) rfl (by kernel_rfl) (by kernel_rfl) (by kernel_rfl) (fun _ _ _ h => h) (Tame.yes (by kernel_rfl) fun w hS => ?_) ?_
              rotate_left 1
              · skip
                go_simp
                try simp only [b2, e1, e4]
                refine gives_mk ?_ hS
                with_reducible rfl
              refine all_take (i := 18) (v := ?_) rfl (by kernel_rfl) (by kernel_rfl) (by kernel_rfl) (fun _ _ _ h => h) (Tame.yes (by kernel_rfl) fun w hS => ?_) ?_
              rotate_left 1
              · skip
                go_simp
                try simp only [b2, e1, e4]
                refine gives_mk ?_ hS
                with_reducible rfl
              refine all_take (i := 19) (v := ?_) rfl (by kernel_rfl) (by kernel_rfl) (by kernel_rfl) (fun _ _ _ h => h) (Tame.yes (by kernel_rfl) fun w hS => ?_) ?_
              rotate_left 1
              · skip
                go_simp
                try simp only [b2, e1, e4]
                refine gives_mk ?_ hS
                with_reducible rfl
              refine all_take (i := 20) (v := ?_) rfl (by kernel_rfl) (by kernel_rfl) (by kernel_rfl) (fun _ _ _ h => h) (Tame.yes (by kernel_rfl) fun w hS => ?_) ?_
              rotate_left 1
              · skip
                go_simp
                try simp only [b2, e1, e4]
                refine gives_mk ?_ hS
                with_reducible rfl
              refine all_take (i := 21) (v := ?_) rfl (by kernel_rfl) (by kernel_rfl) (by kernel_rfl) (fun _ _ _ h => h) (Tame.yes (by kernel_rfl) fun w hS => ?_) ?_
              rotate_left 1
              · skip
                go_simp
                try simp only [b2, e1, e4]
                refine gives_mk ?_ hS
                with_reducible rfl
              refine all_take (i := 22) (v := ?_) rfl (by kernel_rfl) (by kernel_rfl) (by kernel_rfl) (fun _ _ _ h => h) (Tame.yes (by kernel_rfl) fun w hS => ?_) ?_
              rotate_left 1
              · skip
                go_simp
                try simp only [b2, e1, e4]
                refine gives_mk ?_ hS
                with_reducible rfl
              refine all_take (i := 23) (v := ?_) rfl (by kernel_rfl) (by kernel_rfl) (by kernel_rfl) (fun _ _ _ h => h) (Tame.yes (by kernel_rfl) fun w hS => ?_) ?_
              rotate_left 1
              · skip
                go_simp
                try simp only [b2, e1, e4]
                refine gives_mk ?_ hS
                with_reducible rfl
              refine all_take (i := 24) (v := ?_) rfl (by kernel_rfl) (by kernel_rfl) (by kernel_rfl) (fun _ _ _ h => h) (Tame.yes (by kernel_rfl) fun w hS => ?_) ?_
              rotate_left 1
              · skip
                go_simp
                try simp only [b2, e1, e4]
                refine gives_mk ?_ hS
                with_reducible rfl
              refine all_take (i := 25) (v := ?_) rfl (by kernel_rfl) (by kernel_rfl) (by kernel_rfl) (fun _ _ _ h => h) (Tame.yes (by kernel_rfl) fun w hS => ?_) ?_
              rotate_left 1
              · skip
                go_simp
                try simp only [b2, e1, e4]
                refine gives_mk ?_ hS
                with_reducible rfl
              refine all_take (i := 26) (v := ?_) rfl (by kernel_rfl) (by kernel_rfl) (by kernel_rfl) (fun _ _ _ h => h) (Tame.yes (by kernel_rfl) fun w hS => ?_) ?_
              rotate_left 1
              · skip
                go_simp
                try simp only [b2, e1, e4]
                refine gives_mk ?_ hS
                with_reducible rfl
              refine all_take (i := 27) (v := ?_) rfl (by kernel_rfl) (by kernel_rfl) (by kernel_rfl) (fun _ _ _ h => h) (Tame.yes (by kernel_rfl) fun w hS => ?_) ?_
              rotate_left 1
              · skip
                go_simp
                try simp only [b2, e1, e4]
                refine gives_mk ?_ hS
                with_reducible rfl
              refine all_take (i := 28) (v := .bool true) rfl (by kernel_rfl) (by kernel_rfl) (by kernel_rfl) (fun _ _ _ h => h) (Tame.yes (by kernel_rfl) fun w hS => ?_) ?_
              · go_simp
                refine gives_call ((rahead_eq q0 q1 p0 p1 true HL.out _).mono ?_)
                exact fun r w2 ⟨he, hx⟩ => ⟨he, hS.trans hx⟩
              refine all_take (i := 29) (v := ?_) rfl (by kernel_rfl) (by kernel_rfl) (by kernel_rfl) (fun _ _ _ h => h) (Tame.yes (by kernel_rfl) fun w hS => ?_) ?_
              rotate_left 1
              · skip
                go_simp
                try simp only [b2, e1, e4]
                refine gives_mk ?_ hS
                with_reducible rfl
              refine all_take (i := 30) (v := ?_) rfl (by kernel_rfl) (by kernel_rfl) (by kernel_rfl) (fun _ _ _ h => h) (Tame.yes (by kernel_rfl) fun w hS => ?_) ?_
              rotate_left 1
              · skip
                go_simp
                try simp only [b2, e1, e4]
                refine gives_mk ?_ hS
                with_reducible rfl
              refine all_take (i := 31) (v := ?_) rfl (by kernel_rfl) (by kernel_rfl) (by kernel_rfl) (fun _ _ _ h => h) (Tame.yes (by kernel_rfl) fun w hS => ?_) ?_
              rotate_left 1
              · skip
                go_simp
                try simp only [b2, e1, e4]
                refine gives_mk ?_ hS
                with_reducible rfl
              clear e1 e2 e3 e4 K2 K3 b2
              refine all_done (by kernel_rfl) ?_ _
              intro w2 hx2
              have HX2 := Lib.hid (HX.out.trans hx2)
              clear hx2 K0 K1
              go_simp
              go_wp2
              go_loopw [4] (fun i wi => ∃ m : Nat, m ≤ k ∧ i = .int .i64 m ∧ p1 ∉ (xs.take m).map Prod.snd ∧ Ext w wi) (fun i _ => k - (intOf i).toNat)
              case atStart => exact ⟨0, by omega, rfl, by simp, HX2.out⟩
              case round =>
                clear HX2
                obtain ⟨m, hm, rfl, hnot, hxi⟩ := hrel
                have HNOT := Lib.hid hnot
                have HXI := Lib.hid hxi
                clear hnot hxi
                by_cases hmk : m < k
                · have hml : m < xs.length := by omega
                  have HCM := Lib.hid (HCC.out m _ (List.getElem?_eq_getElem hml))
                  have HTM : Hid (xs.take (m + 1) = xs.take m ++ [xs[m]]) := Lib.hid (List.take_succ_eq_append_getElem hml)
                  have HMM : Hid (xs[m].2 ∈ (xs.take k).map Prod.snd) := Lib.hid (by
                    refine List.mem_map.2 ⟨xs[m], ?_, rfl⟩
                    rw [List.mem_iff_getElem?]
                    exact ⟨m, by rw [List.getElem?_take, if_pos hmk]; exact List.getElem?_eq_getElem hml⟩)
                  generalize xs[m] = z at *
                  obtain ⟨z0, z1⟩ := z
                  simp only at HCM HMM
                  have K0 : ∀ v, Ext wr v → v.cell? ⟨b, o + m * 2 + 1, none⟩ = some (.int .i64 z1) := fun v hv => by rw [Below.cell (HXI.out.trans hv) HB.out]; exact HCM.out.2
                  have K1 : ∀ v, Ext wr v → v.cell? ⟨b, o + k * 2 + 1, none⟩ = some (.int .i64 p1) := fun v hv => by rw [Below.cell (HXI.out.trans hv) HB.out]; exact HC.out.2
                  by_cases hz : z1 = p1
                  · have HE : Hid (decide (Sl.May xs) = false) := Lib.hid (HNO.out fun hh => (HNX.out.1 hh).2.2.2 (hz ▸ HMM.out))
                    have hzb : (z1 == p1) = true := by simpa using hz
                    clear hz
                    go_wp2
                    refine region_all (fun v => Ext wr v) (by kernel_rfl) (Ext.refl _).drew ?_
                    refine all_take (i := 0) (v := ?_) rfl (by kernel_rfl) (by kernel_rfl) (by kernel_rfl) (fun _ _ _ h => h) (Tame.yes (by kernel_rfl) fun w hS => ?_) ?_
                    rotate_left 1
                    · skip
                      go_simp
                      try simp only [hzb]
                      refine gives_mk ?_ hS
                      with_reducible rfl
                    refine all_take (i := 1) (v := ?_) rfl (by kernel_rfl) (by kernel_rfl) (by kernel_rfl) (fun _ _ _ h => h) (Tame.yes (by kernel_rfl) fun w hS => ?_) ?_
                    rotate_left 1
                    · skip
                      go_simp
                      try simp only [hzb]
                      refine gives_mk ?_ hS
                      with_reducible rfl
                    refine all_take (i := 2) (v := ?_) rfl (by kernel_rfl) (by kernel_rfl) (by kernel_rfl) (fun _ _ _ h => h) (Tame.yes (by kernel_rfl) fun w hS => ?_) ?_
                    rotate_left 1
                    · skip
                      go_simp
                      try simp only [hzb]
                      refine gives_mk ?_ hS
                      with_reducible rfl
                    refine all_take (i := 3) (v := ?_) rfl (by kernel_rfl) (by kernel_rfl) (by kernel_rfl) (fun _ _ _ h => h) (Tame.yes (by kernel_rfl) fun w hS => ?_) ?_
                    rotate_left 1
                    · skip
                      go_simp
                      try simp only [hzb]
                      refine gives_mk ?_ hS
                      with_reducible rfl
                    refine all_take (i := 4) (v := ?_) rfl (by kernel_rfl) (by kernel_rfl) (by kernel_rfl) (fun _ _ _ h => h) (Tame.yes (by kernel_rfl) fun w hS => ?_) ?_
                    rotate_left 1
                    · skip
                      go_simp
                      try simp only [hzb]
                      refine gives_mk ?_ hS
                      with_reducible rfl
                    refine all_take (i := 5) (v := ?_) rfl (by kernel_rfl) (by kernel_rfl) (by kernel_rfl) (fun _ _ _ h => h) (Tame.yes (by kernel_rfl) fun w hS => ?_) ?_
                    rotate_left 1
                    · skip
                      go_simp
                      try simp only [hzb]
                      refine gives_mk ?_ hS
                      with_reducible rfl
                    refine all_take (i := 6) (v := ?_) rfl (by kernel_rfl) (by kernel_rfl) (by kernel_rfl) (fun _ _ _ h => h) (Tame.yes (by kernel_rfl) fun w hS => ?_) ?_
                    rotate_left 1
                    · skip
                      go_simp
                      try simp only [hzb]
                      refine gives_mk ?_ hS
                      with_reducible rfl
                    refine all_take (i := 7) (v := ?_) rfl (by kernel_rfl) (by kernel_rfl) (by kernel_rfl) (fun _ _ _ h => h) (Tame.yes (by kernel_rfl) fun w hS => ?_) ?_
                    rotate_left 1
                    · skip
                      go_simp
                      try simp only [hzb]
                      refine gives_mk ?_ hS
                      with_reducible rfl
                    refine all_take (i := 8) (v := ?_) rfl (by kernel_rfl) (by kernel_rfl) (by kernel_rfl) (fun _ _ _ h => h) (Tame.yes (by kernel_rfl) fun w hS => ?_) ?_
                    rotate_left 1
                    · skip
                      go_simp
                      try simp only [hzb]
                      refine gives_mk ?_ hS
                      with_reducible rfl
                    refine all_take (i := 9) (v := ?_) rfl (by kernel_rfl) (by kernel_rfl) (by kernel_rfl) (fun _ _ _ h => h) (Tame.yes (by kernel_rfl) fun w hS => ?_) ?_
                    rotate_left 1
                    · skip
                      go_simp
                      try simp only [hzb]
                      refine gives_mk ?_ hS
                      with_reducible rfl
                    refine all_take (i := 10) (v := ?_) rfl (by kernel_rfl) (by kernel_rfl) (by kernel_rfl) (fun _ _ _ h => h) (Tame.yes (by kernel_rfl) fun w hS => ?_) ?_
                    rotate_left 1
                    · skip
                      go_simp
                      try simp only [hzb]
                      refine gives_mk ?_ hS
                      with_reducible rfl
                    refine all_done (by kernel_rfl) ?_ _
                    intro w3 hx3
                    have HX3 := Lib.hid (HXI.out.trans hx3)
                    clear hx3 K0 K1
                    go_simp
                    go_wp2
                    go_ret
                    exact ⟨by rw [HE.out]; rfl, HX3.out⟩
                  · have hzb : (z1 == p1) = false := by simpa using hz
                    have HZ := Lib.hid hz
                    clear hz
                    go_wp2
                    refine region_all (fun v => Ext wr v) (by kernel_rfl) (Ext.refl _).drew ?_
                    refine all_take (i := 0) (v := ?_) rfl (by kernel_rfl) (by kernel_rfl) (by kernel_rfl) (fun _ _ _ h => h) (Tame.yes (by kernel_rfl) fun w hS => ?_) ?_
                    rotate_left 1
                    · skip
                      go_simp
                      try simp only [hzb]
                      refine gives_mk ?_ hS
                      with_reducible rfl
                    refine all_take (i := 1) (v := ?_) rfl (by kernel_rfl) (by kernel_rfl) (by kernel_rfl) (fun _ _ _ h => h) (Tame.yes (by kernel_rfl) fun w hS => ?_) ?_
                    rotate_left 1
                    · skip
                      go_simp
                      try simp only [hzb]
                      refine gives_mk ?_ hS
                      with_reducible rfl
                    refine all_take (i := 2) (v := ?_) rfl (by kernel_rfl) (by kernel_rfl) (by kernel_rfl) (fun _ _ _ h => h) (Tame.yes (by kernel_rfl) fun w hS => ?_) ?_
                    rotate_left 1
                    · skip
                      go_simp
                      try simp only [hzb]
                      refine gives_mk ?_ hS
                      with_reducible rfl
                    refine all_take (i := 3) (v := ?_) rfl (by kernel_rfl) (by kernel_rfl) (by kernel_rfl) (fun _ _ _ h => h) (Tame.yes (by kernel_rfl) fun w hS => ?_) ?_
                    rotate_left 1
                    · skip
                      go_simp
                      try simp only [hzb]
                      refine gives_mk ?_ hS
                      with_reducible rfl
                    refine all_take (i := 4) (v := ?_) rfl (by kernel_rfl) (by kernel_rfl) (by kernel_rfl) (fun _ _ _ h => h) (Tame.yes (by kernel_rfl) fun w hS => ?_) ?_
                    rotate_left 1
                    · skip
                      go_simp
                      try simp only [hzb]
                      refine gives_mk ?_ hS
                      with_reducible rfl
                    refine all_take (i := 5) (v := ?_) rfl (by kernel_rfl) (by kernel_rfl) (by kernel_rfl) (fun _ _ _ h => h) (Tame.yes (by kernel_rfl) fun w hS => ?_) ?_
                    rotate_left 1
                    · skip
                      go_simp
                      try simp only [hzb]
                      refine gives_mk ?_ hS
                      with_reducible rfl
                    refine all_take (i := 6) (v := ?_) rfl (by kernel_rfl) (by kernel_rfl) (by kernel_rfl) (fun _ _ _ h => h) (Tame.yes (by kernel_rfl) fun w hS => ?_) ?_
                    rotate_left 1
                    · skip
                      go_simp
                      try simp only [hzb]
                      refine gives_mk ?_ hS
                      with_reducible rfl
                    refine all_take (i := 7) (v := ?_) rfl (by kernel_rfl) (by kernel_rfl) (by kernel_rfl) (fun _ _ _ h => h) (Tame.yes (by kernel_rfl) fun w hS => ?_) ?_
                    rotate_left 1
                    · skip
                      go_simp
                      try simp only [hzb]
                      refine gives_mk ?_ hS
                      with_reducible rfl
                    refine all_take (i := 8) (v := ?_) rfl (by kernel_rfl) (by kernel_rfl) (by kernel_rfl) (fun _ _ _ h => h) (Tame.yes (by kernel_rfl) fun w hS => ?_) ?_
                    rotate_left 1
                    · skip
                      go_simp
                      try simp only [hzb]
                      refine gives_mk ?_ hS
                      with_reducible rfl
                    refine all_take (i := 9) (v := ?_) rfl (by kernel_rfl) (by kernel_rfl) (by kernel_rfl) (fun _ _ _ h => h) (Tame.yes (by kernel_rfl) fun w hS => ?_) ?_
                    rotate_left 1
                    · skip
                      go_simp
                      try simp only [hzb]
                      refine gives_mk ?_ hS
                      with_reducible rfl
                    refine all_take (i := 10) (v := ?_) rfl (by kernel_rfl) (by kernel_rfl) (by kernel_rfl) (fun _ _ _ h => h) (Tame.yes (by kernel_rfl) fun w hS => ?_) ?_
                    rotate_left 1
                    · skip
                      go_simp
                      try simp only [hzb]
                      refine gives_mk ?_ hS
                      with_reducible rfl
                    refine all_done (by kernel_rfl) ?_ _
                    intro w3 hx3
                    have HX3 := Lib.hid (HXI.out.trans hx3)
                    clear hx3 K0 K1 hzb
                    go_simp
                    go_wp2
                    go_roundw
                    case rel => exact ⟨m + 1, by omega, by go_num, by rw [HTM.out]; have h1 := HNOT.out; have h2 := HZ.out; simp only [List.map_append, List.mem_append, List.map_cons, List.map_nil, List.mem_singleton]; rintro (h | h); exact h1 h; exact h2 h.symm, HX3.out⟩
                    case measure => simp [intOf]; omega
                · obtain rfl : m = k := by omega
                  have HCN := Lib.hid (HCON.out HNOT.out)
                  go_wp2
                  go_roundw
                  case rel => exact ⟨m + 1, by omega, by go_num, HCN.out, HXI.out⟩
                  case measure => simp [intOf]; omega
        · have HE : Hid (decide (Sl.May xs) = false) := Lib.hid (HNO.out fun hm => h2 ((HNX.out.1 hm).2.1).2.2)
          clear HP HNX HNO h01
          have b2 : decide (p1 < 1) = true := by simp; omega
          clear h2
          go_wp2
          refine region_all (fun v => Ext wr v) (by kernel_rfl) (Ext.refl _).drew ?_
          have K0 : ∀ v, Ext wr v → v.cell? ⟨b, o + k * 2, none⟩ = some (.int .i64 p0) := fun v hv => by rw [Below.cell (HX.out.trans hv) HB.out]; exact HC.out.1
          have K1 : ∀ v, Ext wr v → v.cell? ⟨b, o + k * 2 + 1, none⟩ = some (.int .i64 p1) := fun v hv => by rw [Below.cell (HX.out.trans hv) HB.out]; exact HC.out.2
          refine all_take (i := 0) (v := ?_) rfl (by kernel_rfl) (by kernel_rfl) (by kernel_rfl) (fun _ _ _ h => h) (Tame.yes (by kernel_rfl) fun w hS => ?_) ?_
          rotate_left 1
          · skip
            go_simp
            try simp only [b2]
            refine gives_mk ?_ hS
            with_reducible rfl
          refine all_take (i := 1) (v := ?_) rfl (by kernel_rfl) (by kernel_rfl) (by kernel_rfl) (fun _ _ _ h => h) (Tame.yes (by kernel_rfl) fun w hS => ?_) ?_
          rotate_left 1
          · skip
            go_simp
            try simp only [b2]
            refine gives_mk ?_ hS
            with_reducible rfl
          refine all_take (i := 2) (v := ?_) rfl (by kernel_rfl) (by kernel_rfl) (by kernel_rfl) (fun _ _ _ h => h) (Tame.yes (by kernel_rfl) fun w hS => ?_) ?_
          rotate_left 1
          · skip
            go_simp
            try simp only [b2]
            refine gives_mk ?_ hS
            with_reducible rfl
          refine all_take (i := 3) (v := ?_) rfl (by kernel_rfl) (by kernel_rfl) (by kernel_rfl) (fun _ _ _ h => h) (Tame.yes (by kernel_rfl) fun w hS => ?_) ?_
          rotate_left 1
          · skip
            go_simp
            try simp only [b2]
            refine gives_mk ?_ hS
            with_reducible rfl
          refine all_take (i := 4) (v := ?_) rfl (by kernel_rfl) (by kernel_rfl) (by kernel_rfl) (fun _ _ _ h => h) (Tame.yes (by kernel_rfl) fun w hS => ?_) ?_
          rotate_left 1
          · skip
            go_simp
            try simp only [b2]
            refine gives_mk ?_ hS
            with_reducible rfl
          refine all_take (i := 5) (v := .bool true) rfl (by kernel_rfl) (by kernel_rfl) (by kernel_rfl) (fun _ _ _ h => h) (Tame.yes (by kernel_rfl) fun w hS => ?_) ?_
          · go_simp
            refine gives_call ((sfits_eq p0 true HFI.out _).mono ?_)
            exact fun r w2 ⟨he, hx⟩ => ⟨he, hx ▸ hS⟩
          refine all_take (i := 6) (v := ?_) rfl (by kernel_rfl) (by kernel_rfl) (by kernel_rfl) (fun _ _ _ h => h) (Tame.yes (by kernel_rfl) fun w hS => ?_) ?_
          rotate_left 1
          · skip
            go_simp
            try simp only [b2]
            refine gives_mk ?_ hS
            with_reducible rfl
          refine all_take (i := 7) (v := ?_) rfl (by kernel_rfl) (by kernel_rfl) (by kernel_rfl) (fun _ _ _ h => h) (Tame.yes (by kernel_rfl) fun w hS => ?_) ?_
          rotate_left 1
          · skip
            go_simp
            try simp only [b2]
            refine gives_mk ?_ hS
            with_reducible rfl
          refine all_take (i := 8) (v := ?_) rfl (by kernel_rfl) (by kernel_rfl) (by kernel_rfl) (fun _ _ _ h => h) (Tame.yes (by kernel_rfl) fun w hS => ?_) ?_
          rotate_left 1
          · skip
            go_simp
            try simp only [b2]
            refine gives_mk ?_ hS
            with_reducible rfl
          refine all_take (i := 9) (v := ?_) rfl (by kernel_rfl) (by kernel_rfl) (by kernel_rfl) (fun _ _ _ h => h) (Tame.yes (by kernel_rfl) fun w hS => ?_) ?_
          rotate_left 1
          · skip
            go_simp
            try simp only [b2]
            refine gives_mk ?_ hS
            with_reducible rfl
          refine all_take (i := 10) (v := ?_) rfl (by kernel_rfl) (by kernel_rfl) (by kernel_rfl) (fun _ _ _ h => h) (Tame.yes (by kernel_rfl) fun w hS => ?_) ?_
          rotate_left 1
          · skip
            go_simp
            try simp only [b2]
            refine gives_mk ?_ hS
            with_reducible rfl
          refine all_take (i := 11) (v := ?_) rfl (by kernel_rfl) (by kernel_rfl) (by kernel_rfl) (fun _ _ _ h => h) (Tame.yes (by kernel_rfl) fun w hS => ?_) ?_
          rotate_left 1
          · skip
            go_simp
            try simp only [b2]
            refine gives_mk ?_ hS
            with_reducible rfl
          refine all_take (i := 12) (v := ?_) rfl (by kernel_rfl) (by kernel_rfl) (by kernel_rfl) (fun _ _ _ h => h) (Tame.yes (by kernel_rfl) fun w hS => ?_) ?_
          rotate_left 1
          · skip
            go_simp
            try simp only [b2]
            refine gives_mk ?_ hS
            with_reducible rfl
          refine all_take (i := 13) (v := ?_) rfl (by kernel_rfl) (by kernel_rfl) (by kernel_rfl) (fun _ _ _ h => h) (Tame.yes (by kernel_rfl) fun w hS => ?_) ?_
          rotate_left 1
          · skip
            go_simp
            try simp only [b2]
            refine gives_mk ?_ hS
            with_reducible rfl
          refine all_take (i := 14) (v := ?_) rfl (by kernel_rfl) (by kernel_rfl) (by kernel_rfl) (fun _ _ _ h => h) (Tame.yes (by kernel_rfl) fun w hS => ?_) ?_
          rotate_left 1
          · skip
            go_simp
            try simp only [b2]
            refine gives_mk ?_ hS
            with_reducible rfl
          refine all_take (i := 15) (v := ?_) rfl (by kernel_rfl) (by kernel_rfl) (by kernel_rfl) (fun _ _ _ h => h) (Tame.yes (by kernel_rfl) fun w hS => ?_) ?_
          rotate_left 1
          · skip
            go_simp
            try simp only [b2]
            refine gives_mk ?_ hS
            with_reducible rfl
          refine all_take (i := 16) rfl (by kernel_rfl) (by kernel_rfl) (by kernel_rfl) (fun _ _ _ h => h) (Tame.no (by kernel_rfl)) ?_
          refine all_take (i := 17) rfl (by kernel_rfl) (by kernel_rfl) (by kernel_rfl) (fun _ _ _ h => h) (Tame.no (by kernel_rfl)) ?_
          refine all_take (i := 18) rfl (by kernel_rfl) (by kernel_rfl) (by kernel_rfl) (fun _ _ _ h => h) (Tame.no (by kernel_rfl)) ?_
          refine all_take (i := 19) rfl (by kernel_rfl) (by kernel_rfl) (by kernel_rfl) (fun _ _ _ h => h) (Tame.no (by kernel_rfl)) ?_
          refine all_take (i := 20) rfl (by kernel_rfl) (by kernel_rfl) (by kernel_rfl) (fun _ _ _ h => h) (Tame.no (by kernel_rfl)) ?_
          refine all_take (i := 21) rfl (by kernel_rfl) (by kernel_rfl) (by kernel_rfl) (fun _ _ _ h => h) (Tame.no (by kernel_rfl)) ?_
          refine all_take (i := 22) rfl (by kernel_rfl) (by kernel_rfl) (by kernel_rfl) (fun _ _ _ h => h) (Tame.no (by kernel_rfl)) ?_
          refine all_take (i := 23) rfl (by kernel_rfl) (by kernel_rfl) (by kernel_rfl) (fun _ _ _ h => h) (Tame.no (by kernel_rfl)) ?_
          refine all_take (i := 24) rfl (by kernel_rfl) (by kernel_rfl) (by kernel_rfl) (fun _ _ _ h => h) (Tame.no (by kernel_rfl)) ?_
          refine all_take (i := 25) rfl (by kernel_rfl) (by kernel_rfl) (by kernel_rfl) (fun _ _ _ h => h) (Tame.no (by kernel_rfl)) ?_
          refine all_take (i := 26) rfl (by kernel_rfl) (by kernel_rfl) (by kernel_rfl) (fun _ _ _ h => h) (Tame.no (by kernel_rfl)) ?_
          refine all_take (i := 27) rfl (by kernel_rfl) (by kernel_rfl) (by kernel_rfl) (fun _ _ _ h => h) (Tame.no (by kernel_rfl)) ?_
          refine all_take (i := 28) rfl (by kernel_rfl) (by kernel_rfl) (by kernel_rfl) (fun _ _ _ h => h) (Tame.no (by kernel_rfl)) ?_
          refine all_take (i := 29) rfl (by kernel_rfl) (by kernel_rfl) (by kernel_rfl) (fun _ _ _ h => h) (Tame.no (by kernel_rfl)) ?_
          refine all_take (i := 30) rfl (by kernel_rfl) (by kernel_rfl) (by kernel_rfl) (fun _ _ _ h => h) (Tame.no (by kernel_rfl)) ?_
          refine all_take (i := 31) (v := ?_) rfl (by kernel_rfl) (by kernel_rfl) (by kernel_rfl) (fun _ _ _ h => h) (Tame.yes (by kernel_rfl) fun w hS => ?_) ?_
          rotate_left 1
          · skip
            go_simp
            try simp only [b2]
            refine gives_mk ?_ hS
            with_reducible rfl
          clear b2
          refine all_done (by kernel_rfl) ?_ _
          intro w2 hx2
          have HX2 := Lib.hid (HX.out.trans hx2)
          clear hx2 K0 K1
          go_simp
          go_wp2
          go_ret
          exact ⟨by rw [HE.out]; rfl, HX2.out⟩
      · have HE : Hid (decide (Sl.May xs) = false) := Lib.hid (HNO.out fun hm => h01 ⟨((HNX.out.1 hm).2.1).1, ((HNX.out.1 hm).2.1).2.1⟩)
        have HFI : Hid (decide (0 ≤ p0 ∧ p0 < 4611686018427387904) = false) := Lib.hid (decide_eq_false h01)
        clear HP HNX HNO h01
        go_wp2
        refine region_all (fun v => Ext wr v) (by kernel_rfl) (Ext.refl _).drew ?_
        have K0 : ∀ v, Ext wr v → v.cell? ⟨b, o + k * 2, none⟩ = some (.int .i64 p0) := fun v hv => by rw [Below.cell (HX.out.trans hv) HB.out]; exact HC.out.1
        have K1 : ∀ v, Ext wr v → v.cell? ⟨b, o + k * 2 + 1, none⟩ = some (.int .i64 p1) := fun v hv => by rw [Below.cell (HX.out.trans hv) HB.out]; exact HC.out.2
        refine all_take (i := 0) (v := ?_) rfl (by kernel_rfl) (by kernel_rfl) (by kernel_rfl) (fun _ _ _ h => h) (Tame.yes (by kernel_rfl) fun w hS => ?_) ?_
        rotate_left 1
        · skip
          go_simp
          refine gives_mk ?_ hS
          with_reducible rfl
        refine all_take (i := 1) (v := ?_) rfl (by kernel_rfl) (by kernel_rfl) (by kernel_rfl) (fun _ _ _ h => h) (Tame.yes (by kernel_rfl) fun w hS => ?_) ?_
        rotate_left 1
        · skip
          go_simp
          refine gives_mk ?_ hS
          with_reducible rfl
        refine all_take (i := 2) (v := ?_) rfl (by kernel_rfl) (by kernel_rfl) (by kernel_rfl) (fun _ _ _ h => h) (Tame.yes (by kernel_rfl) fun w hS => ?_) ?_
        rotate_left 1
        · skip
          go_simp
          refine gives_mk ?_ hS
          with_reducible rfl
        refine all_take (i := 3) (v := ?_) rfl (by kernel_rfl) (by kernel_rfl) (by kernel_rfl) (fun _ _ _ h => h) (Tame.yes (by kernel_rfl) fun w hS => ?_) ?_
        rotate_left 1
        · skip
          go_simp
          refine gives_mk ?_ hS
          with_reducible rfl
        refine all_take (i := 4) (v := ?_) rfl (by kernel_rfl) (by kernel_rfl) (by kernel_rfl) (fun _ _ _ h => h) (Tame.yes (by kernel_rfl) fun w hS => ?_) ?_
        rotate_left 1
        · skip
          go_simp
          refine gives_mk ?_ hS
          with_reducible rfl
        refine all_take (i := 5) (v := .bool false) rfl (by kernel_rfl) (by kernel_rfl) (by kernel_rfl) (fun _ _ _ h => h) (Tame.yes (by kernel_rfl) fun w hS => ?_) ?_
        · go_simp
          refine gives_call ((sfits_eq p0 false HFI.out _).mono ?_)
          exact fun r w2 ⟨he, hx⟩ => ⟨he, hx ▸ hS⟩
        refine all_take (i := 6) (v := ?_) rfl (by kernel_rfl) (by kernel_rfl) (by kernel_rfl) (fun _ _ _ h => h) (Tame.yes (by kernel_rfl) fun w hS => ?_) ?_
        rotate_left 1
        · skip
          go_simp
          refine gives_mk ?_ hS
          with_reducible rfl
        refine all_take (i := 7) (v := ?_) rfl (by kernel_rfl) (by kernel_rfl) (by kernel_rfl) (fun _ _ _ h => h) (Tame.yes (by kernel_rfl) fun w hS => ?_) ?_
        rotate_left 1
        · skip
          go_simp
          refine gives_mk ?_ hS
          with_reducible rfl
        refine all_take (i := 8) rfl (by kernel_rfl) (by kernel_rfl) (by kernel_rfl) (fun _ _ _ h => h) (Tame.no (by kernel_rfl)) ?_
        refine all_take (i := 9) rfl (by kernel_rfl) (by kernel_rfl) (by kernel_rfl) (fun _ _ _ h => h) (Tame.no (by kernel_rfl)) ?_
        refine all_take (i := 10) rfl (by kernel_rfl) (by kernel_rfl) (by kernel_rfl) (fun _ _ _ h => h) (Tame.no (by kernel_rfl)) ?_
        refine all_take (i := 11) rfl (by kernel_rfl) (by kernel_rfl) (by kernel_rfl) (fun _ _ _ h => h) (Tame.no (by kernel_rfl)) ?_
        refine all_take (i := 12) rfl (by kernel_rfl) (by kernel_rfl) (by kernel_rfl) (fun _ _ _ h => h) (Tame.no (by kernel_rfl)) ?_
        refine all_take (i := 13) rfl (by kernel_rfl) (by kernel_rfl) (by kernel_rfl) (fun _ _ _ h => h) (Tame.no (by kernel_rfl)) ?_
        refine all_take (i := 14) (v := ?_) rfl (by kernel_rfl) (by kernel_rfl) (by kernel_rfl) (fun _ _ _ h => h) (Tame.yes (by kernel_rfl) fun w hS => ?_) ?_
        rotate_left 1
        · skip
          go_simp
          refine gives_mk ?_ hS
          with_reducible rfl
        refine all_take (i := 15) (v := ?_) rfl (by kernel_rfl) (by kernel_rfl) (by kernel_rfl) (fun _ _ _ h => h) (Tame.yes (by kernel_rfl) fun w hS => ?_) ?_
        rotate_left 1
        · skip
          go_simp
          refine gives_mk ?_ hS
          with_reducible rfl
        refine all_take (i := 16) rfl (by kernel_rfl) (by kernel_rfl) (by kernel_rfl) (fun _ _ _ h => h) (Tame.no (by kernel_rfl)) ?_
        refine all_take (i := 17) rfl (by kernel_rfl) (by kernel_rfl) (by kernel_rfl) (fun _ _ _ h => h) (Tame.no (by kernel_rfl)) ?_
        refine all_take (i := 18) rfl (by kernel_rfl) (by kernel_rfl) (by kernel_rfl) (fun _ _ _ h => h) (Tame.no (by kernel_rfl)) ?_
        refine all_take (i := 19) rfl (by kernel_rfl) (by kernel_rfl) (by kernel_rfl) (fun _ _ _ h => h) (Tame.no (by kernel_rfl)) ?_
        refine all_take (i := 20) rfl (by kernel_rfl) (by kernel_rfl) (by kernel_rfl) (fun _ _ _ h => h) (Tame.no (by kernel_rfl)) ?_
        refine all_take (i := 21) rfl (by kernel_rfl) (by kernel_rfl) (by kernel_rfl) (fun _ _ _ h => h) (Tame.no (by kernel_rfl)) ?_
        refine all_take (i := 22) rfl (by kernel_rfl) (by kernel_rfl) (by kernel_rfl) (fun _ _ _ h => h) (Tame.no (by kernel_rfl)) ?_
        refine all_take (i := 23) rfl (by kernel_rfl) (by kernel_rfl) (by kernel_rfl) (fun _ _ _ h => h) (Tame.no (by kernel_rfl)) ?_
        refine all_take (i := 24) rfl (by kernel_rfl) (by kernel_rfl) (by kernel_rfl) (fun _ _ _ h => h) (Tame.no (by kernel_rfl)) ?_
        refine all_take (i := 25) rfl (by kernel_rfl) (by kernel_rfl) (by kernel_rfl) (fun _ _ _ h => h) (Tame.no (by kernel_rfl)) ?_
        refine all_take (i := 26) rfl (by kernel_rfl) (by kernel_rfl) (by kernel_rfl) (fun _ _ _ h => h) (Tame.no (by kernel_rfl)) ?_
        refine all_take (i := 27) rfl (by kernel_rfl) (by kernel_rfl) (by kernel_rfl) (fun _ _ _ h => h) (Tame.no (by kernel_rfl)) ?_
        refine all_take (i := 28) rfl (by kernel_rfl) (by kernel_rfl) (by kernel_rfl) (fun _ _ _ h => h) (Tame.no (by kernel_rfl)) ?_
        refine all_take (i := 29) rfl (by kernel_rfl) (by kernel_rfl) (by kernel_rfl) (fun _ _ _ h => h) (Tame.no (by kernel_rfl)) ?_
        refine all_take (i := 30) rfl (by kernel_rfl) (by kernel_rfl) (by kernel_rfl) (fun _ _ _ h => h) (Tame.no (by kernel_rfl)) ?_
        refine all_take (i := 31) (v := ?_) rfl (by kernel_rfl) (by kernel_rfl) (by kernel_rfl) (fun _ _ _ h => h) (Tame.yes (by kernel_rfl) fun w hS => ?_) ?_
        rotate_left 1
        · skip
          go_simp
          refine gives_mk ?_ hS
          with_reducible rfl
        refine all_done (by kernel_rfl) ?_ _
        intro w2 hx2
        have HX2 := Lib.hid (HX.out.trans hx2)
        clear hx2 K0 K1
        go_simp
        go_wp2
        go_ret
        exact ⟨by rw [HE.out]; rfl, HX2.out⟩
    · have HE : Hid (decide (Sl.May xs) = true) := Lib.hid (decide_eq_true (by have := HM.out; rwa [List.take_of_length_le (by omega)] at this))
      go_wp2
      go_ret
      exact ⟨by rw [HE.out]; rfl, HX.out⟩
end Go.Proofs.Ytdcbaddndoilfaa
