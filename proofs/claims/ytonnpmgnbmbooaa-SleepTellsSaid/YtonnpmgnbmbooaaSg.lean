/-
  The contract of the document's Same, of timers; layer 11's own helper 'fixed': it returns true.
-/
import Derived.Test.YtonnpmgnbmbooaaSf
set_option linter.unusedVariables false
set_option linter.unusedSimpArgs false
namespace Go.Proofs.Ytonnpmgnbmbooaa
open Go.RowKit

set_option maxRecDepth 100000 in
set_option maxHeartbeats 1000000 in
theorem rsame_any (v u : Value) (xs ys : List (Int × Int)) (w : World) (h : PairsAt w v xs) (k : PairsAt w u ys) (hn : xs.length ≤ 9000) :
    Calls Try.prog 14 #[v, u] w fun e w' => e = .returned (.bool (decide (xs = ys))) ∧ Ext w w' := by
  obtain ⟨A, c, rfl, _, hA⟩ := h
  obtain ⟨B, d, rfl, _, hB⟩ := k
  have HA := Lib.hid hA; clear hA
  have HB := Lib.hid hB; clear hB
  by_cases hl : xs.length = ys.length
  · have hlb : ((xs.length : Int) != (ys.length : Int)) = false := by simp; omega
    have HL := Lib.hid hl; clear hl
    go_enter Try.func14, Try.ntmps14
    go_wp2
    go_loopw [5] (fun i wr => ∃ k : Nat, k ≤ xs.length ∧ i = .int .i64 k ∧ xs.take k = ys.take k ∧ Ext w wr) (fun i _ => xs.length - (intOf i).toNat)
    case atStart => exact ⟨0, by omega, rfl, by simp, Ext.refl _⟩
    case round =>
      obtain ⟨k, hk, rfl, heq, hx⟩ := hrel
      have HE := Lib.hid heq; clear heq
      have HX := Lib.hid hx; clear hx
      by_cases hlt : k < xs.length
      · have hlt2 : k < ys.length := by have := HL.out; omega
        obtain ⟨b, o, rfl, hb, hc⟩ := HA.out (by omega)
        obtain ⟨b2, o2, rfl, hb2, hc2⟩ := HB.out (by omega)
        have HC1 := Lib.hid (hc k _ (List.getElem?_eq_getElem hlt))
        have HC2 := Lib.hid (hc2 k _ (List.getElem?_eq_getElem hlt2))
        have HB1 := Lib.hid hb
        have HB2 := Lib.hid hb2
        have HT : Hid (xs.take (k + 1) = xs.take k ++ [xs[k]] ∧ ys.take (k + 1) = ys.take k ++ [ys[k]]) := Lib.hid ⟨by rw [List.take_succ_eq_append_getElem hlt], by rw [List.take_succ_eq_append_getElem hlt2]⟩
        have HNE : Hid (xs[k] ≠ ys[k] → xs ≠ ys) := Lib.hid (fun hn he => by subst he; exact hn rfl)
        clear hc hc2 hb hb2
        generalize xs[k] = x at *
        generalize ys[k] = y at *
        obtain ⟨x0, x1⟩ := x
        obtain ⟨y0, y1⟩ := y
        simp only at HC1 HC2
        have K0 : ∀ v, Ext w v → v.cell? ⟨b, o + k * 2, none⟩ = some (.int .i64 x0) := fun v hv => by rw [Below.cell hv HB1.out]; exact HC1.out.1
        have K1 : ∀ v, Ext w v → v.cell? ⟨b, o + k * 2 + 1, none⟩ = some (.int .i64 x1) := fun v hv => by rw [Below.cell hv HB1.out]; exact HC1.out.2
        have K2 : ∀ v, Ext w v → v.cell? ⟨b2, o2 + k * 2, none⟩ = some (.int .i64 y0) := fun v hv => by rw [Below.cell hv HB2.out]; exact HC2.out.1
        have K3 : ∀ v, Ext w v → v.cell? ⟨b2, o2 + k * 2 + 1, none⟩ = some (.int .i64 y1) := fun v hv => by rw [Below.cell hv HB2.out]; exact HC2.out.2
        by_cases h0 : x0 = y0
        · by_cases h1 : x1 = y1
          · subst h0 h1
            go_wp2
            refine region_all (fun v => Ext w v) (by kernel_rfl) HX.out.drew ?_
            refine all_take (i := 0) (v := ?_) rfl (by kernel_rfl) (by kernel_rfl) (by kernel_rfl) (fun _ _ _ h => h) (Tame.yes (by kernel_rfl) fun w hS => ?_) ?_
            rotate_left 1
            · skip
              go_simp
              try simp only [beq_self_eq_true, bne_self_eq_false]
              refine gives_mk ?_ hS
              with_reducible rfl
            refine all_take (i := 1) (v := ?_) rfl (by kernel_rfl) (by kernel_rfl) (by kernel_rfl) (fun _ _ _ h => h) (Tame.yes (by kernel_rfl) fun w hS => ?_) ?_
            rotate_left 1
            · skip
              go_simp
              try simp only [beq_self_eq_true, bne_self_eq_false]
              refine gives_mk ?_ hS
              with_reducible rfl
            refine all_take (i := 2) (v := ?_) rfl (by kernel_rfl) (by kernel_rfl) (by kernel_rfl) (fun _ _ _ h => h) (Tame.yes (by kernel_rfl) fun w hS => ?_) ?_
            rotate_left 1
            · skip
              go_simp
              try simp only [beq_self_eq_true, bne_self_eq_false]
              refine gives_mk ?_ hS
              with_reducible rfl
            refine all_take (i := 3) (v := ?_) rfl (by kernel_rfl) (by kernel_rfl) (by kernel_rfl) (fun _ _ _ h => h) (Tame.yes (by kernel_rfl) fun w hS => ?_) ?_
            rotate_left 1
            · skip
              go_simp
              try simp only [beq_self_eq_true, bne_self_eq_false]
              refine gives_mk ?_ hS
              with_reducible rfl
            refine all_take (i := 4) (v := ?_) rfl (by kernel_rfl) (by kernel_rfl) (by kernel_rfl) (fun _ _ _ h => h) (Tame.yes (by kernel_rfl) fun w hS => ?_) ?_
            rotate_left 1
            · skip
              go_simp
              try simp only [beq_self_eq_true, bne_self_eq_false]
              refine gives_mk ?_ hS
              with_reducible rfl
            refine all_take (i := 5) (v := ?_) rfl (by kernel_rfl) (by kernel_rfl) (by kernel_rfl) (fun _ _ _ h => h) (Tame.yes (by kernel_rfl) fun w hS => ?_) ?_
            rotate_left 1
            · skip
              go_simp
              try simp only [beq_self_eq_true, bne_self_eq_false]
              refine gives_mk ?_ hS
              with_reducible rfl
            refine all_take (i := 6) (v := ?_) rfl (by kernel_rfl) (by kernel_rfl) (by kernel_rfl) (fun _ _ _ h => h) (Tame.yes (by kernel_rfl) fun w hS => ?_) ?_
            rotate_left 1
            · skip
              go_simp
              try simp only [beq_self_eq_true, bne_self_eq_false]
              refine gives_mk ?_ hS
              with_reducible rfl
            refine all_take (i := 7) (v := ?_) rfl (by kernel_rfl) (by kernel_rfl) (by kernel_rfl) (fun _ _ _ h => h) (Tame.yes (by kernel_rfl) fun w hS => ?_) ?_
            rotate_left 1
            · skip
              go_simp
              try simp only [beq_self_eq_true, bne_self_eq_false]
              refine gives_mk ?_ hS
              with_reducible rfl
            refine all_take (i := 8) (v := ?_) rfl (by kernel_rfl) (by kernel_rfl) (by kernel_rfl) (fun _ _ _ h => h) (Tame.yes (by kernel_rfl) fun w hS => ?_) ?_
            rotate_left 1
            · skip
              go_simp
              try simp only [beq_self_eq_true, bne_self_eq_false]
              refine gives_mk ?_ hS
              with_reducible rfl
            refine all_done (by kernel_rfl) ?_ _
            intro w2 hx2
            have HX2 := Lib.hid hx2
            clear hx2 K0 K1 K2 K3
            go_simp
            go_wp2
            go_roundw
            case rel => exact ⟨k + 1, by omega, by go_num, by rw [HT.out.1, HT.out.2, HE.out], HX2.out⟩
            case measure => simp [intOf]; omega
          · have hb1 : (x1 == y1) = false := by simpa using h1
            have HNO : Hid (decide (xs = ys) = false) := Lib.hid (decide_eq_false (HNE.out (by simp [h1])))
            subst h0
            clear h1
            go_wp2
            refine region_all (fun v => Ext w v) (by kernel_rfl) HX.out.drew ?_
            refine all_take (i := 0) (v := ?_) rfl (by kernel_rfl) (by kernel_rfl) (by kernel_rfl) (fun _ _ _ h => h) (Tame.yes (by kernel_rfl) fun w hS => ?_) ?_
            rotate_left 1
            · skip
              go_simp
              try simp only [hb1]
              refine gives_mk ?_ hS
              with_reducible rfl
            refine all_take (i := 1) (v := ?_) rfl (by kernel_rfl) (by kernel_rfl) (by kernel_rfl) (fun _ _ _ h => h) (Tame.yes (by kernel_rfl) fun w hS => ?_) ?_
            rotate_left 1
            · skip
              go_simp
              try simp only [hb1]
              refine gives_mk ?_ hS
              with_reducible rfl
            refine all_take (i := 2) (v := ?_) rfl (by kernel_rfl) (by kernel_rfl) (by kernel_rfl) (fun _ _ _ h => h) (Tame.yes (by kernel_rfl) fun w hS => ?_) ?_
            rotate_left 1
            · skip
              go_simp
              try simp only [hb1]
              refine gives_mk ?_ hS
              with_reducible rfl
            refine all_take (i := 3) (v := ?_) rfl (by kernel_rfl) (by kernel_rfl) (by kernel_rfl) (fun _ _ _ h => h) (Tame.yes (by kernel_rfl) fun w hS => ?_) ?_
            rotate_left 1
            · skip
              go_simp
              try simp only [hb1]
              refine gives_mk ?_ hS
              with_reducible rfl
            refine all_take (i := 4) (v := ?_) rfl (by kernel_rfl) (by kernel_rfl) (by kernel_rfl) (fun _ _ _ h => h) (Tame.yes (by kernel_rfl) fun w hS => ?_) ?_
            rotate_left 1
            · skip
              go_simp
              try simp only [hb1]
              refine gives_mk ?_ hS
              with_reducible rfl
            refine all_take (i := 5) (v := ?_) rfl (by kernel_rfl) (by kernel_rfl) (by kernel_rfl) (fun _ _ _ h => h) (Tame.yes (by kernel_rfl) fun w hS => ?_) ?_
            rotate_left 1
            · skip
              go_simp
              try simp only [hb1]
              refine gives_mk ?_ hS
              with_reducible rfl
            refine all_take (i := 6) (v := ?_) rfl (by kernel_rfl) (by kernel_rfl) (by kernel_rfl) (fun _ _ _ h => h) (Tame.yes (by kernel_rfl) fun w hS => ?_) ?_
            rotate_left 1
            · skip
              go_simp
              try simp only [hb1]
              refine gives_mk ?_ hS
              with_reducible rfl
            refine all_take (i := 7) (v := ?_) rfl (by kernel_rfl) (by kernel_rfl) (by kernel_rfl) (fun _ _ _ h => h) (Tame.yes (by kernel_rfl) fun w hS => ?_) ?_
            rotate_left 1
            · skip
              go_simp
              try simp only [hb1]
              refine gives_mk ?_ hS
              with_reducible rfl
            refine all_take (i := 8) (v := ?_) rfl (by kernel_rfl) (by kernel_rfl) (by kernel_rfl) (fun _ _ _ h => h) (Tame.yes (by kernel_rfl) fun w hS => ?_) ?_
            rotate_left 1
            · skip
              go_simp
              try simp only [hb1]
              refine gives_mk ?_ hS
              with_reducible rfl
            clear hb1
            refine all_done (by kernel_rfl) ?_ _
            intro w2 hx2
            have HX2 := Lib.hid hx2
            clear hx2 K0 K1 K2 K3
            go_simp
            go_wp2
            go_ret
            exact ⟨by rw [HNO.out]; rfl, HX2.out⟩
        · have hb0 : (x0 == y0) = false := by simpa using h0
          have HNO : Hid (decide (xs = ys) = false) := Lib.hid (decide_eq_false (HNE.out (by simp [h0])))
          clear h0
          go_wp2
          refine region_all (fun v => Ext w v) (by kernel_rfl) HX.out.drew ?_
          refine all_take (i := 0) (v := ?_) rfl (by kernel_rfl) (by kernel_rfl) (by kernel_rfl) (fun _ _ _ h => h) (Tame.yes (by kernel_rfl) fun w hS => ?_) ?_
          rotate_left 1
          · skip
            go_simp
            try simp only [hb0]
            refine gives_mk ?_ hS
            with_reducible rfl
          refine all_take (i := 1) (v := ?_) rfl (by kernel_rfl) (by kernel_rfl) (by kernel_rfl) (fun _ _ _ h => h) (Tame.yes (by kernel_rfl) fun w hS => ?_) ?_
          rotate_left 1
          · skip
            go_simp
            try simp only [hb0]
            refine gives_mk ?_ hS
            with_reducible rfl
          refine all_take (i := 2) (v := ?_) rfl (by kernel_rfl) (by kernel_rfl) (by kernel_rfl) (fun _ _ _ h => h) (Tame.yes (by kernel_rfl) fun w hS => ?_) ?_
          rotate_left 1
          · skip
            go_simp
            try simp only [hb0]
            refine gives_mk ?_ hS
            with_reducible rfl
          refine all_take (i := 3) (v := ?_) rfl (by kernel_rfl) (by kernel_rfl) (by kernel_rfl) (fun _ _ _ h => h) (Tame.yes (by kernel_rfl) fun w hS => ?_) ?_
          rotate_left 1
          · skip
            go_simp
            try simp only [hb0]
            refine gives_mk ?_ hS
            with_reducible rfl
          refine all_take (i := 4) (v := ?_) rfl (by kernel_rfl) (by kernel_rfl) (by kernel_rfl) (fun _ _ _ h => h) (Tame.yes (by kernel_rfl) fun w hS => ?_) ?_
          rotate_left 1
          · skip
            go_simp
            try simp only [hb0]
            refine gives_mk ?_ hS
            with_reducible rfl
          refine all_take (i := 5) (v := ?_) rfl (by kernel_rfl) (by kernel_rfl) (by kernel_rfl) (fun _ _ _ h => h) (Tame.yes (by kernel_rfl) fun w hS => ?_) ?_
          rotate_left 1
          · skip
            go_simp
            try simp only [hb0]
            refine gives_mk ?_ hS
            with_reducible rfl
          refine all_take (i := 6) (v := ?_) rfl (by kernel_rfl) (by kernel_rfl) (by kernel_rfl) (fun _ _ _ h => h) (Tame.yes (by kernel_rfl) fun w hS => ?_) ?_
          rotate_left 1
          · skip
            go_simp
            try simp only [hb0]
            refine gives_mk ?_ hS
            with_reducible rfl
          refine all_take (i := 7) (v := ?_) rfl (by kernel_rfl) (by kernel_rfl) (by kernel_rfl) (fun _ _ _ h => h) (Tame.yes (by kernel_rfl) fun w hS => ?_) ?_
          rotate_left 1
          · skip
            go_simp
            try simp only [hb0]
            refine gives_mk ?_ hS
            with_reducible rfl
          refine all_take (i := 8) (v := ?_) rfl (by kernel_rfl) (by kernel_rfl) (by kernel_rfl) (fun _ _ _ h => h) (Tame.yes (by kernel_rfl) fun w hS => ?_) ?_
          rotate_left 1
          · skip
            go_simp
            try simp only [hb0]
            refine gives_mk ?_ hS
            with_reducible rfl
          clear hb0
          refine all_done (by kernel_rfl) ?_ _
          intro w2 hx2
          have HX2 := Lib.hid hx2
          clear hx2 K0 K1 K2 K3
          go_simp
          go_wp2
          go_ret
          exact ⟨by rw [HNO.out]; rfl, HX2.out⟩
      · obtain rfl : k = xs.length := by omega
        have HXY : Hid (decide (xs = ys) = true) := Lib.hid (decide_eq_true (by have := HE.out; rwa [List.take_length, HL.out, List.take_length] at this))
        go_wp2
        go_ret
        exact ⟨by rw [HXY.out]; rfl, HX.out⟩
  · have hlb : ((xs.length : Int) != (ys.length : Int)) = true := by simp; omega
    have HL : Hid (decide (xs = ys) = false) := Lib.hid (decide_eq_false fun h => hl (by rw [h])); clear hl
    go_enter Try.func14, Try.ntmps14
    go_wp2
    go_ret
    exact ⟨by rw [HL.out]; rfl, Ext.refl _⟩
theorem rsame_eq (v u : Value) (xs ys : List (Int × Int)) (b : Bool) (hb : decide (xs = ys) = b) (w : World) (h : PairsAt w v xs) (k : PairsAt w u ys) (hn : xs.length ≤ 9000) :
    Calls Try.prog 14 #[v, u] w fun e w' => e = .returned (.bool b) ∧ Ext w w' := by subst hb; exact rsame_any v u xs ys w h k hn
theorem sput_yes (v : Value) (xs ys : List (Int × Int)) (t0 t1 : Int) (w : World) (h : PairsAt w v xs) (hn : xs.length ≤ 9000) (hr : ∀ p ∈ xs, i64ok p.1 ∧ i64ok p.2) (ht : i64ok t0 ∧ i64ok t1) (hy : Sl.ins xs (t0, t1) = ys) (hm : Sl.May ys) :
    Calls Try.prog 8 #[v, .agg #[.int .i64 t0, .int .i64 t1]] w fun e w' => ∃ A c, e = .returned (.tuple #[.slice A ys.length c, .bool true]) ∧ PairsAt w' (.slice A ys.length c) ys ∧ Ext w w' ∧ ∀ k, (Value.slice A ys.length c).ownBlock = some k → w.heap.size ≤ k := by
  subst hy
  refine (sput_any v xs t0 t1 w h hn hr ht true (decide_eq_true hm)).mono fun e w' ⟨u, he, hp, hx, hnb⟩ => ?_
  rw [if_pos rfl] at hp
  obtain ⟨A, c, rfl, _⟩ := hp.rows.form
  exact ⟨A, c, he, hp, hx, hnb⟩
theorem sput_no (v : Value) (xs : List (Int × Int)) (t0 t1 : Int) (w : World) (h : PairsAt w v xs) (hn : xs.length ≤ 9000) (hr : ∀ p ∈ xs, i64ok p.1 ∧ i64ok p.2) (ht : i64ok t0 ∧ i64ok t1) (hm : ¬ Sl.May (Sl.ins xs (t0, t1))) :
    Calls Try.prog 8 #[v, .agg #[.int .i64 t0, .int .i64 t1]] w fun e w' => ∃ A c, e = .returned (.tuple #[.slice A 0 c, .bool false]) ∧ PairsAt w' (.slice A 0 c) [] ∧ Ext w w' := by
  refine (sput_any v xs t0 t1 w h hn hr ht false (decide_eq_false hm)).mono fun e w' ⟨u, he, hp, hx, _⟩ => ?_
  rw [if_neg (by decide)] at hp
  obtain ⟨A, c, rfl, _⟩ := hp.rows.form
  exact ⟨A, c, he, hp, hx⟩
theorem sdue_eq (v : Value) (xs : List (Int × Int)) (now : Int) (gs : List Int) (ys : List (Int × Int)) (hm : Sl.May xs) (hg : Sl.due xs now = gs) (hy : Sl.left xs now = ys) (w : World) (h : PairsAt w v xs) (hn : xs.length ≤ 9000) (hr : ∀ p ∈ xs, i64ok p.1 ∧ i64ok p.2) :
    Calls Try.prog 10 #[v, .int .i64 now] w fun e w' => ∃ A c A' c', e = .returned (.tuple #[.slice A gs.length c, .slice A' ys.length c']) ∧ IntsAt w' (.slice A gs.length c) gs ∧ PairsAt w' (.slice A' ys.length c') ys ∧ Ext w w' := by
  subst hg hy
  refine (sdue_yes v xs now w h hn hr (decide_eq_true hm)).mono fun e w' ⟨g, u, he, hi, hp, hx⟩ => ?_
  obtain ⟨A', c', rfl, _⟩ := hp.rows.form
  obtain ⟨A, c, hg, hA⟩ := hi
  subst hg
  exact ⟨A, c, A', c', he, ⟨A, c, rfl, hA⟩, hp, hx⟩
theorem i64_small {l : List (Int × Int)} (h : l.all (fun p => decide (-9223372036854775808 ≤ p.1 ∧ p.1 ≤ 9223372036854775807) && decide (-9223372036854775808 ≤ p.2 ∧ p.2 ≤ 9223372036854775807)) = true) : ∀ p ∈ l, i64ok p.1 ∧ i64ok p.2 := by
  intro p hp
  have := List.all_eq_true.1 h p hp
  simp only [Bool.and_eq_true, decide_eq_true_eq] at this
  exact this
set_option maxRecDepth 100000 in
set_option maxHeartbeats 1000000 in
theorem sfixed_yes (w : World) : Calls Try.prog 7 #[] w fun e w' => e = .returned (.bool true) ∧ Ext w w' := by
  go_enter Try.func7, Try.ntmps7
  go_wp2_with fail
  refine (sput_yes _ [] [(5, 1)] 5 1 _ (pairs_none _) (by simp) (by simp) (by unfold i64ok; omega) (by kernel_rfl) (by decide +kernel)).mono ?_
  rintro r w1 ⟨A1, c1, rfl, hp1, hx1, _⟩
  have HP1 := Lib.hid hp1
  have HX1 := Lib.hid hx1
  clear hp1 hx1
  go_wp2_with fail
  refine (sput_yes _ [(5, 1)] [(3, 2), (5, 1)] 3 2 _ HP1.out (by simp) (i64_small rfl) (by unfold i64ok; omega) (by kernel_rfl) (by decide +kernel)).mono ?_
  rintro r w2 ⟨A2, c2, rfl, hp2, hx2, _⟩
  have HP2 := Lib.hid hp2
  have HX2 := Lib.hid hx2
  clear hp2 hx2
  go_wp2_with fail
  refine (sdue_eq _ [(3, 2), (5, 1)] 4 [2] [(5, 1)] (by decide +kernel) (by kernel_rfl) (by kernel_rfl) _ HP2.out (by simp) (i64_small rfl)).mono ?_
  rintro r w3 ⟨A3, c3, A3', c3', rfl, hi3, hp3, hx3⟩
  have HI3 := Lib.hid hi3
  have HP3 := Lib.hid hp3
  have HX3 := Lib.hid hx3
  clear hi3 hp3 hx3
  go_wp2_with fail
  refine (sput_no _ [(3, 2), (5, 1)] 9 1 _ (HP2.out.ext HX3.out) (by simp) (i64_small rfl) (by unfold i64ok; omega) (by decide +kernel)).mono ?_
  rintro r w4 ⟨A4, c4, rfl, hp4, hx4⟩
  have HX4 := Lib.hid hx4
  clear hp4 hx4
  go_wp2_with fail
  refine (rints_eq _ _ [2] [2] true rfl _ (HI3.out.ext (HX4.out.alloc _)) (ints_one _ 2) (by simp)).mono ?_
  rintro r w5 ⟨rfl, hx5⟩
  have HX5 : Hid (Ext w4 w5) := Lib.hid (((Ext.refl w4).alloc _).trans hx5)
  clear hx5
  go_wp2_with fail
  refine (rsame_eq _ _ [(5, 1)] [(5, 1)] true rfl _ (HP3.out.ext (HX4.out.trans HX5.out)) (HP1.out.ext (HX2.out.trans (HX3.out.trans (HX4.out.trans HX5.out)))) (by simp)).mono ?_
  rintro r w6 ⟨rfl, hx6⟩
  have HX6 : Hid (Ext w2 w6) := Lib.hid (HX3.out.trans (HX4.out.trans (HX5.out.trans hx6)))
  clear hx6
  go_wp2_with fail
  refine (snext_any _ [(3, 2), (5, 1)] 3 (by decide +kernel) _ (HP2.out.ext HX6.out) (by simp) (i64_small rfl)).mono ?_
  rintro r w7 ⟨rfl, hx7⟩
  have HX7 : Hid (Ext w2 w7) := Lib.hid (HX6.out.trans hx7)
  clear hx7
  go_wp2_with fail
  refine (snext_any _ [] (-1) (by decide +kernel) _ (pairs_none _) (by simp) (by simp)).mono ?_
  rintro r w8 ⟨rfl, hx8⟩
  have HX8 : Hid (Ext w2 w8) := Lib.hid (HX7.out.trans hx8)
  clear hx8
  go_wp2_with fail
  refine (smay_eq _ [(3, 2), (5, 1)] true (by decide +kernel) _ (HP2.out.ext HX8.out) (by simp) (i64_small rfl)).mono ?_
  rintro r w9 ⟨rfl, hx9⟩
  have HX9 : Hid (Ext w2 w9) := Lib.hid (HX8.out.trans hx9)
  clear hx9
  go_wp2_with fail
  refine (smay_eq _ [(0, 0)] false (by decide +kernel) _ (pairs_one _ 0 0) (by simp) (i64_small rfl)).mono ?_
  rintro r w10 ⟨rfl, hx10⟩
  have HX10 : Hid (Ext w2 w10) := Lib.hid ((HX9.out.alloc _).trans hx10)
  clear hx10
  go_wp2
  go_ret
  exact ⟨rfl, HX1.out.trans (HX2.out.trans HX10.out)⟩

end Go.Proofs.Ytonnpmgnbmbooaa
