/-
  The walk of the statement SleepOrder.
-/
import Derived.Test.YtonnpmgnbmbooaaSk
set_option linter.unusedVariables false
set_option linter.unusedSimpArgs false
namespace Go.Proofs.Ytonnpmgnbmbooaa
open Go.RowKit

theorem OwnInts.appendS {w : World} {B : Nat} {u : Value} {l m : List Int} {A : Option Addr} {c : Nat} (ty : TypeId) (h : OwnInts w B u l) (hv : IntsAt w (.slice A m.length c) m) (hlen : l.length + m.length ≤ 100000000) (hb : B ≤ w.heap.size) :
    ∃ u' w', (Builtin.append_ #[28, 28] ty #[u, .slice A m.length c]).run Try.prog w = .ok u' w' ∧ OwnInts w' B u' (l ++ m) ∧ w.grownBy w' u.ownBlock := by
  obtain ⟨i0, I0, I1, I2, I3⟩ := info_parts Try.infoInt
  obtain ⟨A', c', hv', hA⟩ := hv
  simp only [Value.slice.injEq, true_and] at hv'
  obtain ⟨rfl, rfl⟩ := hv'
  obtain ⟨u', w', hr, ho, hg⟩ := own_append (P := Try.prog) ty Try.underlying28 I0 I1 I2 I3 rfl (by decide) h (A := A) (m := m.length) c (news := intsV m) (by simp [intsV]) (fun h0 => by
    obtain ⟨b, o, rfl, hb, hc⟩ := hA h0
    refine ⟨_, rfl, fun j x hj => ?_⟩
    rw [Addr.add_lit]
    simp only [intsV, List.getElem?_map, Option.map_eq_some_iff] at hj
    obtain ⟨y, hy, rfl⟩ := hj
    exact hc j y hy) (fun x hx => by
    obtain ⟨y, _, rfl⟩ := List.mem_map.1 hx
    rfl) (by unfold maxLen; omega) (by omega) hb
  exact ⟨u', w', hr, by unfold OwnInts; rw [List.length_append, intsV_append]; exact ho, hg⟩
set_option maxRecDepth 100000 in
set_option maxHeartbeats 1000000 in
theorem sorder_out (v : Value) (l : List (Int × Int)) (a b : Int) (w : World) (h : PairsAt w v l) (hl : l.length ≤ maxLen) (ho : 60 < l.length ∨ (l.length ≤ 60 ∧ b < a)) :
    Calls Try.prog 4 #[v, .int .i64 a, .int .i64 b] w fun e w' => e = .returned (.bool true) ∧ Ext w w' := by
  unfold maxLen at hl
  obtain ⟨A, c, rfl, hc, hA⟩ := h
  clear hA
  rcases ho with h | ⟨h1, h2⟩
  all_goals
    go_enter Try.func4, Try.ntmps4
    go_wp2_with fail
    refine (sfixed_yes _).mono ?_
    rintro r w1 ⟨rfl, hx1⟩
    go_wp2_with fail
    refine (sfixed_yes _).mono ?_
    rintro r w2 ⟨rfl, hx2⟩
    go_wp2
    go_ret
    exact ⟨rfl, hx1.trans hx2⟩
/-- What both lists are behind so many calls. -/
structure Both (l : List (Int × Int)) (k : Nat) (x y : List (Int × Int)) : Prop where
  mx : Sl.May x
  my : Sl.May y
  ix : ∀ p, p ∈ x ↔ p ∈ l.take k
  iy : ∀ p, p ∈ y ↔ p ∈ l.drop (l.length - k)
  lx : x.length = k
  ly : y.length = k
theorem Both.start (l : List (Int × Int)) : Both l 0 [] [] := ⟨Sl.May.nil, Sl.May.nil, by simp, by simp, rfl, rfl⟩
theorem Both.next {l : List (Int × Int)} {k : Nat} {x y : List (Int × Int)} (h : Both l k x y) (hk : k < l.length) {p q : Int × Int} (hp : l[k]? = some p) (hq : l[l.length - 1 - k]? = some q) (h1 : Sl.May (Sl.ins x p)) (h2 : Sl.May (Sl.ins y q)) : Both l (k + 1) (Sl.ins x p) (Sl.ins y q) := by
  refine ⟨h1, h2, fun r => ?_, fun r => ?_, by rw [Sl.ins_len, h.lx], by rw [Sl.ins_len, h.ly]⟩
  · rw [Sl.mem_ins, h.ix, List.take_add_one, hp]
    simp
  · have e : l.drop (l.length - (k + 1)) = q :: l.drop (l.length - k) := by
      have hq' := (List.getElem?_eq_some_iff.1 hq).2
      rw [show l.length - (k + 1) = l.length - 1 - k by omega, List.drop_eq_getElem_cons (by omega), hq', show l.length - 1 - k + 1 = l.length - k by omega]
    rw [Sl.mem_ins, h.iy, e, List.mem_cons]
    exact or_comm
theorem Both.same {l x y : List (Int × Int)} (h : Both l l.length x y) : x = y :=
  Sl.same x y h.mx h.my fun p => by rw [h.ix, h.iy]; simp
theorem i64_of {l m : List (Int × Int)} (h : ∀ p ∈ l, i64ok p.1 ∧ i64ok p.2) (hm : ∀ p ∈ m, p ∈ l) : ∀ p ∈ m, i64ok p.1 ∧ i64ok p.2 := fun p hp => h p (hm p hp)
theorem Both.i64 {l : List (Int × Int)} {k : Nat} {x y : List (Int × Int)} (h : Both l k x y) (hr : ∀ p ∈ l, i64ok p.1 ∧ i64ok p.2) : (∀ p ∈ x, i64ok p.1 ∧ i64ok p.2) ∧ (∀ p ∈ y, i64ok p.1 ∧ i64ok p.2) :=
  ⟨fun p hp => hr p (List.mem_of_mem_take ((h.ix p).1 hp)), fun p hp => hr p (List.mem_of_mem_drop ((h.iy p).1 hp))⟩
set_option maxRecDepth 100000 in
set_option maxHeartbeats 1000000 in
theorem sorder_in (v : Value) (l : List (Int × Int)) (a b : Int) (w : World) (h : PairsAt w v l) (hl : l.length ≤ 60) (hr : ∀ p ∈ l, i64ok p.1 ∧ i64ok p.2) (hab : a ≤ b) :
    Calls Try.prog 4 #[v, .int .i64 a, .int .i64 b] w fun e w' => e = .returned (.bool true) ∧ Ext w w' := by
  have HR := Lib.hid hr
  obtain ⟨A, c, rfl, hc, hA⟩ := h
  have HA := Lib.hid hA
  clear hr hA
  go_enter Try.func4, Try.ntmps4
  go_wp2_with fail
  refine (sfixed_yes _).mono ?_
  rintro r w1 ⟨rfl, hx1⟩
  have HX1 := Lib.hid hx1
  clear hx1
  go_wp2
  go_loopw [7, 8, 9] (fun xv yv i wr => ∃ (k : Nat) (xu yu : Value), k ≤ l.length ∧ i = .int .i64 k ∧ xu = xv ∧ yu = yv ∧ ∃ x y, Both l k x y ∧ PairsAt wr xu x ∧ PairsAt wr yu y ∧ Ext w wr) (fun _ _ i _ => l.length - (intOf i).toNat)
  case atStart =>
    refine ⟨0, _, _, by omega, rfl, rfl, rfl, [], [], Both.start l, ?_, ?_, (HX1.out.alloc _).alloc _⟩
    · exact (pairs_made w1).ext ((Ext.refl _).alloc _)
    · have := pairs_made (w1.alloc (.cells #[] 24))
      rwa [World.size_alloc] at this
  case round =>
    obtain ⟨k, xu, yu, hk, rfl, rfl, rfl, x, y, hboth, hpx, hpy, hx⟩ := hrel
    have HBO := Lib.hid hboth
    have HPX := Lib.hid hpx
    have HPY := Lib.hid hpy
    have HX := Lib.hid hx
    have HXL : Hid (x.length ≤ 9000 ∧ y.length ≤ 9000) := Lib.hid (by rw [hboth.lx, hboth.ly]; omega)
    have HI := Lib.hid (hboth.i64 HR.out)
    clear hboth hpx hpy hx HX1
    by_cases hlt : k < l.length
    · obtain ⟨bb, o, rfl, hb, hcc⟩ := HA.out (by omega)
      have HB := Lib.hid hb
      have HQ1 := Lib.hid (List.getElem?_eq_getElem hlt)
      have hlt2 : l.length - 1 - k < l.length := by omega
      have HQ2 := Lib.hid (List.getElem?_eq_getElem hlt2)
      have HC1 := Lib.hid (hcc k _ (List.getElem?_eq_getElem hlt))
      have HC2 := Lib.hid (hcc (l.length - 1 - k) _ (List.getElem?_eq_getElem hlt2))
      have HI1 := Lib.hid (HR.out _ (List.getElem_mem hlt))
      have HI2 := Lib.hid (HR.out _ (List.getElem_mem hlt2))
      clear hcc hb
      generalize l[k] = p at *
      generalize l[l.length - 1 - k] = q at *
      obtain ⟨p0, p1⟩ := p
      obtain ⟨q0, q1⟩ := q
      simp only at HC1 HC2 HI1 HI2
      have c0 : wr.cell? ⟨bb, o + k * 2, none⟩ = some (.int .i64 p0) := by rw [Below.cell HX.out HB.out]; exact HC1.out.1
      have c1 : wr.cell? ⟨bb, o + k * 2 + 1, none⟩ = some (.int .i64 p1) := by rw [Below.cell HX.out HB.out]; exact HC1.out.2
      have e0 : (l.length : Int) - 1 - (k : Int) = ((l.length - 1 - k : Nat) : Int) := by omega
      go_wp2_with fail
      cases hm1 : decide (Sl.May (Sl.ins x (p0, p1))) with
      | false =>
        refine (sput_no _ x p0 p1 _ HPX.out HXL.out.1 HI.out.1 HI1.out (of_decide_eq_false hm1)).mono ?_
        rintro r w2 ⟨A2, c2, rfl, hp2, hx2⟩
        have HX2 := Lib.hid (HX.out.trans hx2)
        have HPY2 := Lib.hid (HPY.out.ext hx2)
        clear hp2 hx2 c0 c1 hm1
        have c0 : w2.cell? ⟨bb, o + (l.length - 1 - k) * 2, none⟩ = some (.int .i64 q0) := by rw [Below.cell HX2.out HB.out]; exact HC2.out.1
        have c1 : w2.cell? ⟨bb, o + (l.length - 1 - k) * 2 + 1, none⟩ = some (.int .i64 q1) := by rw [Below.cell HX2.out HB.out]; exact HC2.out.2
        go_wp2_with fail
        clear c0 c1
        cases hm2 : decide (Sl.May (Sl.ins y (q0, q1))) with
        | false =>
          refine (sput_no _ y q0 q1 _ HPY2.out HXL.out.2 HI.out.2 HI2.out (of_decide_eq_false hm2)).mono ?_
          rintro r w3 ⟨A3, c3, rfl, hp3, hx3⟩
          clear hm2
          go_wp2
          go_ret
          exact ⟨rfl, HX2.out.trans hx3⟩
        | true =>
          refine (sput_yes _ y _ q0 q1 _ HPY2.out HXL.out.2 HI.out.2 HI2.out rfl (of_decide_eq_true hm2)).mono ?_
          rintro r w3 ⟨A3, c3, rfl, hp3, hx3, _⟩
          clear hm2
          go_wp2
          go_ret
          exact ⟨rfl, HX2.out.trans hx3⟩
      | true =>
        refine (sput_yes _ x _ p0 p1 _ HPX.out HXL.out.1 HI.out.1 HI1.out rfl (of_decide_eq_true hm1)).mono ?_
        rintro r w2 ⟨A2, c2, rfl, hp2, hx2, _⟩
        have HP2 := Lib.hid hp2
        have HX2 := Lib.hid (HX.out.trans hx2)
        have HPY2 := Lib.hid (HPY.out.ext hx2)
        have HM1 := Lib.hid (of_decide_eq_true hm1)
        clear hp2 hx2 c0 c1 hm1
        have c0 : w2.cell? ⟨bb, o + (l.length - 1 - k) * 2, none⟩ = some (.int .i64 q0) := by rw [Below.cell HX2.out HB.out]; exact HC2.out.1
        have c1 : w2.cell? ⟨bb, o + (l.length - 1 - k) * 2 + 1, none⟩ = some (.int .i64 q1) := by rw [Below.cell HX2.out HB.out]; exact HC2.out.2
        go_wp2_with fail
        clear c0 c1
        cases hm2 : decide (Sl.May (Sl.ins y (q0, q1))) with
        | false =>
          refine (sput_no _ y q0 q1 _ HPY2.out HXL.out.2 HI.out.2 HI2.out (of_decide_eq_false hm2)).mono ?_
          rintro r w3 ⟨A3, c3, rfl, hp3, hx3⟩
          clear hm2
          go_wp2
          go_ret
          exact ⟨rfl, HX2.out.trans hx3⟩
        | true =>
          have HNX := Lib.hid (HBO.out.next hlt HQ1.out HQ2.out HM1.out (of_decide_eq_true hm2))
          refine (sput_yes _ y _ q0 q1 _ HPY2.out HXL.out.2 HI.out.2 HI2.out rfl (of_decide_eq_true hm2)).mono ?_
          rintro r w3 ⟨A3, c3, rfl, hp3, hx3, _⟩
          have HP3 := Lib.hid hp3
          have HP2' := Lib.hid (HP2.out.ext hx3)
          have HX3 := Lib.hid (HX2.out.trans hx3)
          clear hm2 hp3 hx3
          go_wp2
          go_roundw
          case rel => exact ⟨k + 1, _, _, by omega, by go_num, rfl, rfl, _, _, HNX.out, HP2'.out, HP3.out, HX3.out⟩
          case measure => simp [intOf]; omega
    · obtain rfl : k = l.length := by omega
      obtain rfl := HBO.out.same
      have HLX : Hid (x.length = l.length) := Lib.hid HBO.out.lx
      have HMX := Lib.hid HBO.out.mx
      have HML := Lib.hid (Sl.left_may HBO.out.mx a)
      have HLI : Hid (∀ p ∈ Sl.left x a, i64ok p.1 ∧ i64ok p.2) := Lib.hid fun p hp => HI.out.1 p (List.mem_of_mem_drop hp)
      have HLL : Hid ((Sl.left x a).length ≤ 9000) := Lib.hid (by have := HXL.out.1; unfold Sl.left; rw [List.length_drop]; omega)
      have HTWO := Lib.hid (Sl.due_two x hab)
      have HLEN := Lib.hid (Sl.due_len x b)
      have HLATE := Lib.hid (Sl.left_late HBO.out.mx b)
      clear HBO
      obtain ⟨Ax, cx, rfl, _⟩ := HPX.out.rows.form
      go_wp2_with fail
      refine (sdue_eq _ x a _ _ HMX.out rfl rfl _ HPX.out HXL.out.1 HI.out.1).mono ?_
      rintro r w2 ⟨A2, c2, A2', c2', rfl, hi2, hp2, hx2⟩
      have HI2 := Lib.hid hi2
      have HP2 := Lib.hid hp2
      have HX2 := Lib.hid hx2
      clear hi2 hp2 hx2
      go_wp2_with fail
      refine (sdue_eq _ (Sl.left x a) b _ _ HML.out rfl HTWO.out.2 _ HP2.out HLL.out HLI.out).mono ?_
      rintro r w3 ⟨A3, c3, A3', c3', rfl, hi3, hp3, hx3⟩
      have HI3 := Lib.hid hi3
      have HP3 := Lib.hid hp3
      have HX3 := Lib.hid (HX2.out.trans hx3)
      have HI2' := Lib.hid (HI2.out.ext hx3)
      clear hi3 hp3 hx3
      go_wp2_with fail
      refine (sdue_eq _ x b _ _ HMX.out rfl rfl _ (HPX.out.ext HX3.out) HXL.out.1 HI.out.1).mono ?_
      rintro r w4 ⟨A4, c4, A4', c4', rfl, hi4, hp4, hx4⟩
      have HI4 := Lib.hid hi4
      have HP4 := Lib.hid hp4
      have HX4 := Lib.hid (HX3.out.trans hx4)
      have HI2'' := Lib.hid (HI2'.out.ext hx4)
      have HI3' := Lib.hid (HI3.out.ext hx4)
      have HP3' := Lib.hid (HP3.out.ext hx4)
      clear hi4 hp4 hx4 HI2 HI3 HI2' HP2 HP3
      have hlb : (Sl.left x b).length ≤ 9000 := by have := HXL.out.1; unfold Sl.left; rw [List.length_drop]; omega
      have hda : (Sl.due x a).length ≤ 9000 := by have := HXL.out.1; have := Sl.due_len x a; omega
      have hdl : (Sl.due (Sl.left x a) b).length ≤ 9000 := by have := HLL.out; have := Sl.due_len (Sl.left x a) b; omega
      have hdb : (Sl.due x b).length ≤ 9000 := by have := HXL.out.1; have := HLEN.out; omega
      go_wp2
      go_loop [20] (fun i => ∃ j : Nat, j ≤ (Sl.left x b).length ∧ i = .int .i64 j) (fun i => (Sl.left x b).length - (intOf i).toNat)
      case atStart => exact ⟨0, by omega, rfl⟩
      case round =>
        obtain ⟨j, hj, rfl⟩ := hrel
        by_cases hjl : j < (Sl.left x b).length
        · obtain ⟨A9, c9, hv9, _, hA9⟩ := HP3'.out
          obtain ⟨b9, o9, hb9, _, hc9⟩ := hA9 (by omega)
          have HQ := Lib.hid (hc9 j _ (List.getElem?_eq_getElem hjl))
          have hlate := HLATE.out _ (List.getElem_mem hjl)
          simp only [Value.slice.injEq, true_and] at hv9
          obtain ⟨rfl, rfl⟩ := hv9
          subst hb9
          clear hA9 hc9
          generalize (Sl.left x b)[j] = q at *
          obtain ⟨q0, q1⟩ := q
          simp only at hlate
          have c0 := HQ.out.1
          go_wp2
          go_round
          case rel => exact ⟨j + 1, by omega, by go_num⟩
          case measure => simp [intOf]; omega
        · have hj1 : ((x.length : Int) == (l.length : Int)) = true := by have := HLX.out; rw [beq_iff_eq]; omega
          have hj2 : (((Sl.due x b).length : Int) + ((Sl.left x b).length : Int) == (l.length : Int)) = true := by have := HLX.out; have := HLEN.out; rw [beq_iff_eq]; omega
          go_wp2_with fail
          refine (rsame_eq _ _ x x true (by simp) _ (HPX.out.ext HX4.out) (HPY.out.ext HX4.out) HXL.out.1).mono ?_
          rintro r w5 ⟨rfl, hx5⟩
          have HX5 := Lib.hid (HX4.out.trans hx5)
          have hN : OwnInts (w5.alloc (.cells #[] 3)) w5.heap.size (.slice (some ⟨w5.heap.size, 0, none⟩) 0 0) [] := World.ownsRow_made (base := w5.heap.size) (e := 3) (size := 1) w5 #[] 0 (Nat.le_refl _) (by decide) rfl
          obtain ⟨u1, w6, hr1, hu1, hg1⟩ := OwnInts.appendS 28 hN (HI2''.out.ext (hx5.alloc _)) (by simp; omega) (by simp)
          have hx6 : Ext w5 w6 := Below.grown ((Ext.refl w5).alloc _) hg1 (by simp) (own_block_le hN)
          obtain ⟨u2, w7, hr2, hu2, hg2⟩ := OwnInts.appendS 28 hu1 (HI3'.out.ext (hx5.trans hx6)) (by simp; omega) hx6.size
          have hx7 : Ext w5 w7 := Below.grown hx6 hg2 hx6.size (own_block_le hu1)
          have HU2 := Lib.hid hu2
          have HX7 := Lib.hid (HX5.out.trans hx7)
          have HX47 := Lib.hid (hx5.trans hx7)
          have HR1 := Lib.hid hr1
          have HR2 := Lib.hid hr2
          clear hN hr1 hr2 hu1 hu2 hg1 hg2 hx5 hx6 hx7
          simp only [List.nil_append] at HU2
          have hr1 := HR1.out
          have hr2 := HR2.out
          clear HR1 HR2
          go_wp2_with (at_builtin; generalize hgoal : wpList _ _ _ _ _ _ = G)
          subst hgoal
          refine wpList_append_run (v := .slice (some ⟨w5.heap.size, 0, none⟩) 0 0) (xv := .slice A2 (Sl.due x a).length c2) ?hw _ _ 28 rfl rfl rfl hr1 ?_
          case hw => kernel_rfl
          clear hr1
          go_wp2_with (at_builtin; generalize hgoal : wpList _ _ _ _ _ _ = G)
          subst hgoal
          refine wpList_append_run (v := u1) (xv := .slice A3 (Sl.due (Sl.left x a) b).length c3) ?hw _ _ 28 rfl rfl rfl hr2 ?_
          case hw => kernel_rfl
          clear hr2
          go_wp2_with fail
          refine (rints_eq _ _ (Sl.due x a ++ Sl.due (Sl.left x a) b) (Sl.due x b) true (decide_eq_true HTWO.out.1) _ (by obtain ⟨A9, c9, h9, hI9⟩ := HU2.out.ints; rw [h9]; exact hI9) (HI4.out.ext HX47.out) (by simp; omega)).mono ?_
          rintro r w8 ⟨rfl, hx8⟩
          have HX48 := Lib.hid (HX47.out.trans hx8)
          have HX8 := Lib.hid (HX7.out.trans hx8)
          clear hx8
          go_wp2_with fail
          refine (rsame_eq _ _ (Sl.left x b) (Sl.left x b) true (by simp) _ (HP3'.out.ext HX48.out) (HP4.out.ext HX48.out) hlb).mono ?_
          rintro r w9 ⟨rfl, hx9⟩
          go_wp2
          go_ret
          exact ⟨rfl, HX.out.trans (HX8.out.trans hx9)⟩
theorem walk_SleepOrder (v : Value) (l : List (Int × Int)) (a b : Int) (w : World) (h : PairsAt w v l) (hl : l.length ≤ maxLen) (hr : ∀ p ∈ l, i64ok p.1 ∧ i64ok p.2) (_ : (Lit.int .i64 a).wf = true) (_ : (Lit.int .i64 b).wf = true) :
    Calls Try.prog 4 #[v, .int .i64 a, .int .i64 b] w fun e w' => e = .returned (.bool true) ∧ Ext w w' := by
  by_cases ho : 60 < l.length ∨ (l.length ≤ 60 ∧ b < a)
  · exact sorder_out v l a b w h hl ho
  · exact sorder_in v l a b w h (by omega) hr (by omega)

end Go.Proofs.Ytonnpmgnbmbooaa
