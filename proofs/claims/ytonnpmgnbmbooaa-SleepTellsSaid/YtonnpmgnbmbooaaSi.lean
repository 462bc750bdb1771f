/-
  Arguments that are slices of timers, opened; the walk of the statement SleepNext.
-/
import Derived.Test.YtonnpmgnbmbooaaSg
import Derived.Test.YtonnpmgnbmbooaaLs
set_option linter.unusedVariables false
set_option linter.unusedSimpArgs false
namespace Go.Proofs.Ytonnpmgnbmbooaa
open Go.RowKit

open Go.ChangeShapes Go.WideShapes Go.Deep in
theorem open_timers {H : Type} {enc : TypeId × Value → H} {P : Program} {w : World} {base : Nat} {held : Bool} {t e : TypeId} {f0 f1 : Field} {fuel len cap : Nat} {A : Option Addr} {x : DataW H × List MemPlace} (ht : P.underlying t = some (.slice e)) (he : P.underlying e = some (.struct #[f0, f1]))
    (hone : oneCellFields P #[f0, f1] = true) (hC : P.cellsOf e = 2) (t0 : P.underlying f0.type = some (.int .i64)) (t1 : P.underlying f1.type = some (.int .i64))
    (h : DataW.trod enc P w base (fun _ => true) held fuel t [.slice A len cap] = some x) :
    len ≤ maxLen ∧ ∃ xs : List (Int × Int), xs.length = len ∧ PairsAt w (.slice A len cap) xs ∧ ∀ p ∈ xs, i64ok p.1 ∧ i64ok p.2 := by
  rcases open_slice_fields ht he hone hC h with ⟨h0, _⟩ | ⟨a, l, c, m, D, Pl, hcs, _, hl, hm, hmm, _, hi⟩
  · simp at h0
    obtain ⟨rfl, rfl, rfl⟩ := h0
    exact ⟨by simp [maxLen], [], rfl, pairs_none _, by simp⟩
  · simp at hcs
    obtain ⟨rfl, rfl, rfl⟩ := hcs
    have hmc : m = cap := by simpa using hmm
    subst hmc
    have key : ∀ j, j < len → ∃ p : Int × Int, w.cell? (a.add (j * 2)) = some (.int .i64 p.1) ∧ w.cell? (a.add (j * 2 + 1)) = some (.int .i64 p.2) ∧ i64ok p.1 ∧ i64ok p.2 := fun j hj => by
      obtain ⟨ys, n, _, _, _, hf⟩ := hi j (by omega)
      obtain ⟨v0, y0, c0, _, h0⟩ := hf 0 f0 rfl
      obtain ⟨v1, y1, c1, _, h1⟩ := hf 1 f1 rfl
      obtain ⟨n0, e0, _, w0⟩ := DataW.trod_int t0 h0
      obtain ⟨n1, e1, _, w1⟩ := DataW.trod_int t1 h1
      simp at e0 e1
      subst e0 e1
      exact ⟨(n0, n1), by simpa using c0, by simpa using c1, bounds_i64 w0, bounds_i64 w1⟩
    refine ⟨by omega, (List.range len).map fun j => if h : j < len then (key j h).choose else (0, 0), by simp, ⟨some a, m, by simp, by simpa using hl, fun hpos => ?_⟩, ?_⟩
    · obtain ⟨b, o, spot⟩ := a
      have hl0 : 0 < len := by simpa using hpos
      have hspot : spot = none := by
        obtain ⟨_, hc0, _⟩ := key 0 hl0
        simpa [Addr.add] using World.cell?_spot hc0
      subst hspot
      refine ⟨b, o, rfl, ?_, fun j p hj => ?_⟩
      · obtain ⟨_, hc0, _⟩ := key 0 hl0
        rw [Addr.add_lit] at hc0
        exact block_lt_of_cell hc0
      · rw [List.getElem?_map] at hj
        have hjl : j < len := by
          rcases Nat.lt_or_ge j len with h | h
          · exact h
          · rw [List.getElem?_eq_none (by simpa using h)] at hj; simp at hj
        rw [List.getElem?_range hjl] at hj
        simp only [Option.map_some, Option.some.injEq, hjl, dif_pos] at hj
        obtain ⟨k0, k1, _⟩ := (key j hjl).choose_spec
        rw [hj] at k0 k1
        rw [Addr.add_lit] at k0 k1
        exact ⟨k0, by rw [← Nat.add_assoc] at k1; exact k1⟩
    · intro p hp
      obtain ⟨i, hi', rfl⟩ := List.mem_map.1 hp
      have hil := List.mem_range.1 hi'
      rw [dif_pos hil]
      exact (key i hil).choose_spec.2.2
theorem Sl.head_le {p : Int × Int} {l : List (Int × Int)} (h : Sl.May (p :: l)) : ∀ q ∈ p :: l, p.1 ≤ q.1 := by
  intro q hq
  rcases List.mem_cons.1 hq with rfl | hq
  · exact Int.le_refl _
  · have := (List.pairwise_cons.1 h.2.1).1 q hq
    unfold Sl.lt at this
    omega
theorem Sl.due_head {p : Int × Int} {l : List (Int × Int)} : 0 < (Sl.due (p :: l) p.1).length ∧ Sl.due (p :: l) (p.1 - 1) = [] := by
  have h1 : 1 ≤ Sl.many (p :: l) p.1 := Sl.many_next (k := 0) (Nat.zero_le _) rfl (Int.le_refl _)
  have h2 := Sl.many_le (p :: l) p.1
  have h3 : 0 = Sl.many (p :: l) (p.1 - 1) := Sl.many_eq (k := 0) (Nat.zero_le _) fun q hq => by simp at hq; subst hq; omega
  refine ⟨?_, ?_⟩
  · unfold Sl.due
    rw [List.length_map, List.length_take]; omega
  · unfold Sl.due
    rw [← h3]; rfl
set_option maxRecDepth 100000 in
set_option maxHeartbeats 1000000 in
theorem walk_SleepNext (v : Value) (xs : List (Int × Int)) (w : World) (h : PairsAt w v xs) (hl : xs.length ≤ maxLen) (hr : ∀ p ∈ xs, i64ok p.1 ∧ i64ok p.2) :
    Calls Try.prog 6 #[v] w fun e w' => e = .returned (.bool true) ∧ Ext w w' := by
  unfold maxLen at hl
  have H := Lib.hid h
  obtain ⟨A, c, rfl, hc, hA⟩ := h
  have HR := Lib.hid hr
  clear hr
  by_cases h2 : 200 < xs.length
  · clear hA
    go_enter Try.func6, Try.ntmps6
    go_wp2_with fail
    refine (sfixed_yes _).mono ?_
    rintro r w1 ⟨rfl, hx1⟩
    go_wp2_with fail
    refine (sfixed_yes _).mono ?_
    rintro r w2 ⟨rfl, hx2⟩
    go_wp2
    go_ret
    exact ⟨rfl, hx1.trans hx2⟩
  · have h3 : xs.length ≤ 200 := by omega
    clear h2
    cases hm : decide (Sl.May xs) with
    | false =>
      have HM := Lib.hid hm
      clear hm hA
      go_enter Try.func6, Try.ntmps6
      go_wp2_with fail
      refine (sfixed_yes _).mono ?_
      rintro r w1 ⟨rfl, hx1⟩
      go_wp2_with fail
      refine (smay_eq _ xs false HM.out _ (H.out.ext hx1) (by omega) HR.out).mono ?_
      rintro r w2 ⟨rfl, hx2⟩
      go_wp2_with fail
      refine (sfixed_yes _).mono ?_
      rintro r w3 ⟨rfl, hx3⟩
      go_wp2
      go_ret
      exact ⟨rfl, hx1.trans (hx2.trans hx3)⟩
    | true =>
      have HM := Lib.hid hm
      clear hm
      cases xs with
      | nil =>
        clear hA
        go_enter Try.func6, Try.ntmps6
        go_wp2_with fail
        refine (sfixed_yes _).mono ?_
        rintro r w1 ⟨rfl, hx1⟩
        go_wp2_with fail
        refine (smay_eq _ [] true HM.out _ (H.out.ext hx1) (by simp) HR.out).mono ?_
        rintro r w2 ⟨rfl, hx2⟩
        go_wp2_with fail
        refine (snext_any _ [] (-1) (by decide +kernel) _ (H.out.ext (hx1.trans hx2)) (by simp) HR.out).mono ?_
        rintro r w3 ⟨rfl, hx3⟩
        go_wp2
        go_ret
        exact ⟨rfl, hx1.trans (hx2.trans hx3)⟩
      | cons p l =>
        obtain ⟨b, o, rfl, hb, hcc⟩ := hA (by simp)
        have HCC := Lib.hid hcc
        have HB := Lib.hid hb
        have hmay := of_decide_eq_true HM.out
        have HN : Hid (Sl.next (p :: l) = p.1) := Lib.hid (by unfold Sl.next; rw [if_pos hmay])
        have HLE := Lib.hid (Sl.head_le hmay)
        have HD := Lib.hid (@Sl.due_head p l)
        have HMY := Lib.hid hmay
        have hf := hmay.1 p (by simp)
        unfold Sl.fit at hf
        obtain ⟨f0, f1, _⟩ := hf
        generalize hxs : p :: l = xs at *
        have hpos : 0 < xs.length := by rw [← hxs]; simp
        have hz : ((xs.length : Int) == 0) = false := by rw [beq_eq_false_iff_ne]; omega
        obtain ⟨p0, p1⟩ := p
        simp only at HN HLE HD f0 f1
        clear hxs hcc hb hmay hA
        go_enter Try.func6, Try.ntmps6
        go_wp2_with fail
        refine (sfixed_yes _).mono ?_
        rintro r w1 ⟨rfl, hx1⟩
        have HX1 := Lib.hid hx1
        clear hx1
        go_wp2_with fail
        refine (smay_eq _ xs true HM.out _ (H.out.ext HX1.out) (by omega) HR.out).mono ?_
        rintro r w2 ⟨rfl, hx2⟩
        have HX2 := Lib.hid (HX1.out.trans hx2)
        clear hx2
        go_wp2_with fail
        refine (snext_any _ xs p0 HN.out _ (H.out.ext HX2.out) (by omega) HR.out).mono ?_
        rintro r w3 ⟨rfl, hx3⟩
        have HX3 := Lib.hid (HX2.out.trans hx3)
        clear hx3
        go_wp2_with fail
        refine (sdue_eq _ xs p0 _ _ HMY.out rfl rfl _ (H.out.ext HX3.out) (by omega) HR.out).mono ?_
        rintro r w4 ⟨A4, c4, A4', c4', rfl, hi4, hp4, hx4⟩
        have HX4 := Lib.hid (HX3.out.trans hx4)
        clear hi4 hp4 hx4
        go_wp2_with fail
        refine (sdue_eq _ xs (p0 - 1) [] _ HMY.out HD.out.2 rfl _ (H.out.ext HX4.out) (by omega) HR.out).mono ?_
        rintro r w5 ⟨A5, c5, A5', c5', rfl, hi5, hp5, hx5⟩
        have HX5 := Lib.hid (HX4.out.trans hx5)
        clear hi5 hp5 hx5
        have hd1 := HD.out.1
        go_wp2
        go_loop [8] (fun i => ∃ k : Nat, k ≤ xs.length ∧ i = .int .i64 k) (fun i => xs.length - (intOf i).toNat)
        case atStart => exact ⟨0, by omega, rfl⟩
        case round =>
          obtain ⟨k, hk, rfl⟩ := hrel
          by_cases hlt : k < xs.length
          · have HQ := Lib.hid (HCC.out k _ (List.getElem?_eq_getElem hlt))
            have hle := HLE.out _ (List.getElem_mem hlt)
            generalize xs[k] = q at *
            obtain ⟨q0, q1⟩ := q
            simp only at hle
            have c0 : w5.cell? ⟨b, o + k * 2, none⟩ = some (.int .i64 q0) := by rw [Below.cell HX5.out HB.out]; exact HQ.out.1
            go_wp2
            go_round
            case rel => exact ⟨k + 1, by omega, by go_num⟩
            case measure => simp [intOf]; omega
          · go_wp2
            go_ret
            exact ⟨by simp; try omega, HX5.out⟩

end Go.Proofs.Ytonnpmgnbmbooaa
