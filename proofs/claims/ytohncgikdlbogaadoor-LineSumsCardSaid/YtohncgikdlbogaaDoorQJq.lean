/-
  What the chunks lack, for one more law.
-/
import Derived.Test.YtohncgikdlbogaaDoorD01
import Derived.Test.YtohncgikdlbogaaDoorD02
import Derived.Test.YtohncgikdlbogaaDoorD03
import Derived.Test.YtohncgikdlbogaaDoorD04
import Derived.Test.YtohncgikdlbogaaDoorD05
import Derived.Test.YtohncgikdlbogaaDoorD06
import Derived.Test.YtohncgikdlbogaaDoorD07
import Derived.Test.YtohncgikdlbogaaDoorD08
import Derived.Test.YtohncgikdlbogaaDoorD09
import Derived.Test.YtohncgikdlbogaaDoorD10
import Derived.Test.YtohncgikdlbogaaDoorD11
import Derived.Test.YtohncgikdlbogaaDoorD12
import Derived.Test.YtohncgikdlbogaaDoorD13
import Derived.IntWalk
set_option linter.unusedVariables false
set_option linter.unusedSimpArgs false
namespace Go.Proofs.YtohncgikdlbogaaDoor
open Go.RowKit
namespace Sp
theorem sum_from (st : Int) : ∀ (l : List Sp) (a : Int), 0 ≤ a → (∀ s ∈ l, s.fr ≤ 1000000 ∧ s.till ≤ 1000000) → a + 1000000 * (l.length : Int) ≤ most → l.foldl (add st) a = a + l.foldl (add st) 0 ∧ l.foldl (add st) 0 ≤ 1000000 * (l.length : Int)
  | [], a, _, _, _ => by simp
  | s :: l, a, h0, h1, h2 => by
    rw [List.foldl_cons, List.foldl_cons]
    have hs := h1 s (by simp)
    have hl : ∀ z ∈ l, z.fr ≤ 1000000 ∧ z.till ≤ 1000000 := fun z hz => h1 z (List.mem_cons_of_mem _ hz)
    rw [List.length_cons] at h2
    have hm : (most : Int) = 4611686018427387903 := rfl
    by_cases hc : s.st = st ∧ 0 ≤ s.fr ∧ s.fr ≤ s.till
    · have e1 : add st a s = a + (s.till - s.fr) := by unfold add; rw [if_pos hc]; omega
      have e2 : add st 0 s = s.till - s.fr := by unfold add; rw [if_pos hc]; omega
      rw [e1, e2]
      obtain ⟨i1, _⟩ := sum_from st l (a + (s.till - s.fr)) (by omega) hl (by omega)
      obtain ⟨i2, i3⟩ := sum_from st l (s.till - s.fr) (by omega) hl (by omega)
      rw [i1, i2]
      simp only [List.length_cons]
      omega
    · have e1 : add st a s = a := by unfold add; rw [if_neg hc]
      have e2 : add st 0 s = 0 := by unfold add; rw [if_neg hc]
      rw [e1, e2]
      obtain ⟨i1, i3⟩ := sum_from st l a h0 hl (by omega)
      refine ⟨i1, ?_⟩
      simp only [List.length_cons]
      omega
theorem sum_append {a b : List Sp} (st : Int) (h1 : ∀ s ∈ a ++ b, s.fr ≤ 1000000 ∧ s.till ≤ 1000000) (hl : a.length ≤ 100 ∧ b.length ≤ 100) : sum (a ++ b) st = sum a st + sum b st := by
  unfold sum
  rw [List.foldl_append]
  have ha := sum_from st a 0 (by omega) (fun s hs => h1 s (List.mem_append_left _ hs)) (by have : (most : Int) = 4611686018427387903 := rfl; omega)
  have hr := sum_range st a 0 ⟨by omega, by decide⟩
  exact (sum_from st b (a.foldl (add st) 0) hr.1 (fun s hs => h1 s (List.mem_append_right _ hs)) (by have : (most : Int) = 4611686018427387903 := rfl; omega)).1
end Sp
end Go.Proofs.YtohncgikdlbogaaDoor
namespace Go.Proofs.YtohncgikdlbogaaDoor
open Go.RowKit
theorem sp_append {W w : World} {u v : Value} {l m : List Sp} (h : OwnRows 36 5 spL w W.heap.size u l) (hx : Ext W w) (hm : RowsAt 5 spL w v m) (hl : l.length ≤ 1000) (hml : m.length ≤ 1000) :
    ∃ u' w', (Builtin.append_ #[27, 27] 27 #[u, v]).run Tryd.prog w = .ok u' w' ∧ OwnRows 36 5 spL w' W.heap.size u' (l ++ m) ∧ Ext W w' := by
  obtain ⟨i0, I0, I1, I2, I3⟩ := info_parts Tryd.infoSP
  obtain ⟨A, c, rfl, -⟩ := hm.form
  obtain ⟨u', w', hr, ho, hg⟩ := OwnRows.append (P := Tryd.prog) (e := 36) (m := 5) (f := spL) (xs := l) (ys := m) 27 Tryd.underlying27 I0 I1 I2 I3 rfl (by decide) spL_len spL_one h hm (by unfold maxLen; omega) (by omega) hx.size
  exact ⟨u', w', hr, ho, OwnRows.grown (W := W) h hx hg⟩
theorem sp_sum_range (l : List Sp) (st : Int) : 0 ≤ Sp.sum l st ∧ Sp.sum l st ≤ 4611686018427387903 := by
  have := Sp.sum_range st l 0 ⟨by omega, by decide⟩
  unfold Sp.sum
  have h : (Sp.most : Int) = 4611686018427387903 := rfl
  omega
theorem wf64_le {a : Int} (h : wf64 a) : a ≤ 9223372036854775807 := by
  unfold wf64 at h
  simp [Lit.wf, IntKind.min, IntKind.max, IntKind.signed, IntKind.bits] at h
  omega
set_option maxRecDepth 100000 in
set_option maxHeartbeats 16000000 in
theorem walk_LineSums (va : Value) (la : List Sp) (vb : Value) (lb : List Sp) (st : Int) (w : World) (ha : RowsAt 5 spL w va la) (hla : la.length ≤ maxLen) (hai : ∀ s ∈ la, SpIn s) (hb : RowsAt 5 spL w vb lb) (hlb : lb.length ≤ maxLen) (hbi : ∀ s ∈ lb, SpIn s) (hn : (Lit.int .i64 st).wf = true) (ht : Tab w) :
    Calls Tryd.prog 4 #[va, vb, .int .i64 st] w fun e w' => e = .returned (.bool true) ∧ Ext w w' := by
  obtain ⟨A, c, rfl, -⟩ := ha.form
  obtain ⟨B, d, rfl, -⟩ := hb.form
  have HA := Lib.hid ha
  have HB := Lib.hid hb
  have HT := Lib.hid ht
  have HAI : Hid (∀ s ∈ la, s.till ≤ 9223372036854775807) := Lib.hid fun s hs => wf64_le (hai s hs).2.2.1
  have HBI : Hid (∀ s ∈ lb, s.till ≤ 9223372036854775807) := Lib.hid fun s hs => wf64_le (hbi s hs).2.2.1
  have XC := Lib.hid (Ext.refl w)
  clear ha hb ht hai hbi hn hla hlb
  go_enter Tryd.func4, Tryd.ntmps4
  go_wp2_with fail
  refine (lnfixed_yes _ (HT.out.ext XC.out)).mono ?_
  rintro e wk ⟨rfl, hxk⟩
  have XD := Lib.hid (XC.out.trans hxk)
  clear hxk XC
  have XC := XD
  clear XD
  by_cases a1 : 100 < (la.length : Int)
  · have e1 : decide (100 < (la.length : Int)) = true := decide_eq_true a1
    clear a1
    go_wp2_with fail
    refine (lnfixed_yes _ (HT.out.ext XC.out)).mono ?_
    rintro e wk ⟨rfl, hxk⟩
    have XD := Lib.hid (XC.out.trans hxk)
    clear hxk XC
    have XC := XD
    clear XD
    go_wp2
    go_ret
    exact ⟨rfl, XC.out⟩
  have e1 : decide (100 < (la.length : Int)) = false := decide_eq_false a1
  by_cases a2 : 100 < (lb.length : Int)
  · have e2 : decide (100 < (lb.length : Int)) = true := decide_eq_true a2
    clear a1 a2
    go_wp2_with fail
    refine (lnfixed_yes _ (HT.out.ext XC.out)).mono ?_
    rintro e wk ⟨rfl, hxk⟩
    have XD := Lib.hid (XC.out.trans hxk)
    clear hxk XC
    have XC := XD
    clear XD
    go_wp2
    go_ret
    exact ⟨rfl, XC.out⟩
  have e2 : decide (100 < (lb.length : Int)) = false := decide_eq_false a2
  have la100 : (la.length : Int) ≤ 100 := by omega
  have lb100 : (lb.length : Int) ≤ 100 := by omega
  clear a1 a2
  go_wp2_with fail
  clear e1 e2
  go_loopw [7] (fun iv wr => ∃ k : Nat, k ≤ la.length + lb.length ∧ iv = .int .i64 k ∧ Hid (∀ (j : Nat) s, (la ++ lb)[j]? = some s → j < k → s.fr ≤ 1000000 ∧ s.till ≤ 1000000) ∧ Ext wk wr) (fun iv _ => la.length + lb.length - (intOf iv).toNat)
  case atStart => exact ⟨0, Nat.zero_le _, rfl, Lib.hid (fun j s _ h => by omega), Ext.refl _⟩
  case round =>
    obtain ⟨k, hk, rfl, HALL, hx⟩ := hrel
    have XR := Lib.hid hx
    clear hx
    by_cases hlt : k < la.length + lb.length
    · obtain ⟨s, hsk⟩ : ∃ s, (la ++ lb)[k]? = some s := ⟨_, List.getElem?_eq_getElem (by simpa using hlt)⟩
      have HSK := Lib.hid hsk
      obtain ⟨w3, hw3⟩ : ∃ w3, wr.alloc (.cells #[.int .i64 0, .int .i64 0, .int .i64 0, .int .i64 0, .string ⟨#[]⟩] 36) = w3 := ⟨_, rfl⟩
      obtain ⟨S0, hS0⟩ : ∃ S0, wr.heap.size = S0 := ⟨_, rfl⟩
      have hx3 : Ext wr w3 := by rw [← hw3]; exact (Ext.refl _).alloc _
      have hq3 : w3.heap[S0]? = some (.cells #[.int .i64 0, .int .i64 0, .int .i64 0, .int .i64 0, .string ⟨#[]⟩] 36 (0, 0)) := by rw [← hw3, ← hS0]; exact blk_new wr _
      have HQ3 : Hid (w3.heap[S0]? = some (.cells ([.int .i64 0, .int .i64 0, .int .i64 0, .int .i64 0, .string ByteArray.empty] : List Value).toArray 36 (0, 0))) := Lib.hid hq3
      have X3 := Lib.hid (XR.out.trans hx3)
      have HW3 := Lib.hid hw3
      have HSS := Lib.hid hS0
      have HS0 : Hid (wk.heap.size ≤ S0) := Lib.hid (by rw [← hS0]; exact XR.out.size)
      clear hw3 hS0
      have hlt2 : (k : Int) < (la.length : Int) + (lb.length : Int) := by omega
      by_cases hka : k < la.length
      · rw [List.getElem?_append_left hka] at hsk
        obtain ⟨b, o, hBB, hbb, hc⟩ := (HA.out.ext (XC.out.trans X3.out)).get hsk
        subst hBB
        obtain ⟨sf, sl, ss, sn, sw⟩ := s
        have k0 := hc 0 _ rfl
        have k1 := hc 1 _ rfl
        have k2 := hc 2 _ rfl
        have k3 := hc 3 _ rfl
        have k4 := hc 4 _ rfl
        rw [Nat.add_zero] at k0
        dsimp only at k0 k1 k2 k3 k4
        have hka2 : (k : Int) < (la.length : Int) := by omega
        clear hsk hc hbb hx3 hq3
        go_upto_region 7 with fail
        rw [HW3.out, HSS.out]
        have HBS := Lib.hid (setCells_at [.int .i64 0, .int .i64 0, .int .i64 0, .int .i64 0, .string ByteArray.empty] [.int .i64 sf, .int .i64 sl, .int .i64 ss, .int .i64 sn, .string sw] rfl HQ3.out)
        have XS := Lib.hid (Ext.upd X3.out (setCells_upd S0 [.int .i64 sf, .int .i64 sl, .int .i64 ss, .int .i64 sn, .string sw] w3 0) HS0.out)
        have HTH := Lib.hid (there_row (n := 5) HQ3.out (by simp))
        obtain ⟨w4, hw4⟩ : ∃ w4, w3.setCells S0 0 [.int .i64 sf, .int .i64 sl, .int .i64 ss, .int .i64 sn, .string sw] = w4 := ⟨_, rfl⟩
        rw [hw4] at HBS XS
        have HW4 := Lib.hid hw4
        clear hw4
        go_upto_region 10 with (refine wpList_store_rowN rfl 36 _ _ rfl S0 0 [.int .i64 sf, .int .i64 sl, .int .i64 ss, .int .i64 sn, .string sw] (.agg ([.int .i64 sf, .int .i64 sl, .int .i64 ss, .int .i64 sn, .string sw]).toArray) (by go_simp) (by go_simp) rfl HTH.out (by kernel_rfl) (spL_one ⟨sf, sl, ss, sn, sw⟩) HW4.out ?_)
        clear k0 k1 k2 k3 k4
        have z0 := blk_cell HBS.out 0 _ rfl
        have z1 := blk_cell HBS.out 1 _ rfl
        by_cases d1 : 1000000 < sf
        · have e1 : decide (1000000 < sf) = true := decide_eq_true d1
          go_wp2
          go_ret
          exact ⟨rfl, XC.out.trans XS.out⟩
        have e1 : decide (1000000 < sf) = false := decide_eq_false d1
        by_cases d2 : 1000000 < sl
        · have e2 : decide (1000000 < sl) = true := decide_eq_true d2
          go_wp2
          go_ret
          exact ⟨rfl, XC.out.trans XS.out⟩
        have e2 : decide (1000000 < sl) = false := decide_eq_false d2
        have HBD : Hid (sf ≤ 1000000 ∧ sl ≤ 1000000) := Lib.hid (by omega)
        clear d1 d2
        go_wp2
        go_roundw
        case rel => exact ⟨k + 1, by omega, by go_num, Lib.hid (fun j s hj hjk => by
          rcases Nat.lt_or_ge j k with h | h
          · exact HALL.out j s hj h
          · obtain rfl : j = k := by omega
            rw [HSK.out] at hj
            obtain rfl := Option.some.inj hj
            exact HBD.out), XS.out⟩
        case measure => simp [intOf]; omega
      · obtain ⟨j, rfl⟩ : ∃ j, k = la.length + j := ⟨k - la.length, by omega⟩
        rw [List.getElem?_append_right (by omega), show la.length + j - la.length = j by omega] at hsk
        obtain ⟨b, o, hBB, hbb, hc⟩ := (HB.out.ext (XC.out.trans X3.out)).get hsk
        subst hBB
        obtain ⟨sf, sl, ss, sn, sw⟩ := s
        have k0 := hc 0 _ rfl
        have k1 := hc 1 _ rfl
        have k2 := hc 2 _ rfl
        have k3 := hc 3 _ rfl
        have k4 := hc 4 _ rfl
        rw [Nat.add_zero] at k0
        dsimp only at k0 k1 k2 k3 k4
        obtain ⟨k, hkk⟩ : ∃ k, la.length + j = k := ⟨_, rfl⟩
        have hkj : (k : Int) - (la.length : Int) = (j : Int) := by omega
        have hjb : (j : Int) < (lb.length : Int) := by omega
        have hka2 : ¬ (k : Int) < (la.length : Int) := by omega
        have hka3 : decide ((k : Int) < (la.length : Int)) = false := decide_eq_false hka2
        rw [hkk] at HALL HSK hlt2 hlt hk ⊢
        clear hsk hc hbb hx3 hq3 hka
        go_upto_region 7 with fail
        rw [HW3.out, HSS.out]
        have HBS := Lib.hid (setCells_at [.int .i64 0, .int .i64 0, .int .i64 0, .int .i64 0, .string ByteArray.empty] [.int .i64 sf, .int .i64 sl, .int .i64 ss, .int .i64 sn, .string sw] rfl HQ3.out)
        have XS := Lib.hid (Ext.upd X3.out (setCells_upd S0 [.int .i64 sf, .int .i64 sl, .int .i64 ss, .int .i64 sn, .string sw] w3 0) HS0.out)
        have HTH := Lib.hid (there_row (n := 5) HQ3.out (by simp))
        obtain ⟨w4, hw4⟩ : ∃ w4, w3.setCells S0 0 [.int .i64 sf, .int .i64 sl, .int .i64 ss, .int .i64 sn, .string sw] = w4 := ⟨_, rfl⟩
        rw [hw4] at HBS XS
        have HW4 := Lib.hid hw4
        clear hw4
        go_upto_region 10 with (refine wpList_store_rowN rfl 36 _ _ rfl S0 0 [.int .i64 sf, .int .i64 sl, .int .i64 ss, .int .i64 sn, .string sw] (.agg ([.int .i64 sf, .int .i64 sl, .int .i64 ss, .int .i64 sn, .string sw]).toArray) (by go_simp) (by go_simp) rfl HTH.out (by kernel_rfl) (spL_one ⟨sf, sl, ss, sn, sw⟩) HW4.out ?_)
        clear k0 k1 k2 k3 k4
        have z0 := blk_cell HBS.out 0 _ rfl
        have z1 := blk_cell HBS.out 1 _ rfl
        by_cases d1 : 1000000 < sf
        · have e1 : decide (1000000 < sf) = true := decide_eq_true d1
          go_wp2
          go_ret
          exact ⟨rfl, XC.out.trans XS.out⟩
        have e1 : decide (1000000 < sf) = false := decide_eq_false d1
        by_cases d2 : 1000000 < sl
        · have e2 : decide (1000000 < sl) = true := decide_eq_true d2
          go_wp2
          go_ret
          exact ⟨rfl, XC.out.trans XS.out⟩
        have e2 : decide (1000000 < sl) = false := decide_eq_false d2
        have HBD : Hid (sf ≤ 1000000 ∧ sl ≤ 1000000) := Lib.hid (by omega)
        clear d1 d2
        go_wp2
        go_roundw
        case rel => exact ⟨k + 1, by omega, by go_num, Lib.hid (fun j s hj hjk => by
          rcases Nat.lt_or_ge j k with h | h
          · exact HALL.out j s hj h
          · obtain rfl : j = k := by omega
            rw [HSK.out] at hj
            obtain rfl := Option.some.inj hj
            exact HBD.out), XS.out⟩
        case measure => simp [intOf]; omega
    · obtain rfl : k = la.length + lb.length := by omega
      have HSA := Lib.hid (Sp.sum_append (a := la) (b := lb) st (fun s hs => by
        obtain ⟨j, hj⟩ := List.mem_iff_getElem?.1 hs
        exact HALL.out j s hj (by have := (List.getElem?_eq_some_iff.1 hj).1; simpa using this)) ⟨by omega, by omega⟩)
      clear hk hlt HALL
      obtain ⟨wm, hwm⟩ : ∃ wm, wr.alloc (.cells #[] 36) = wm := ⟨_, rfl⟩
      have hxm : Ext wr wm := by rw [← hwm]; exact (Ext.refl _).alloc _
      have hmade : OwnRows 36 5 spL wm wr.heap.size (.slice (some ⟨wr.heap.size, 0, none⟩) 0 0) [] := by rw [← hwm]; exact World.ownsRow_made (base := wr.heap.size) (e := 36) (size := 5) wr #[] 0 (Nat.le_refl _) (by decide) rfl
      obtain ⟨u1, w5, hr1, ho1, hx5⟩ := sp_append (W := wr) hmade hxm (HA.out.ext (XC.out.trans (XR.out.trans hxm))) (by simp) (by omega)
      obtain ⟨u2, w6, hr2, ho2, hx6⟩ := sp_append (W := wr) ho1 hx5 (HB.out.ext (XC.out.trans (XR.out.trans hx5))) (by simp; omega) (by omega)
      have HWM := Lib.hid hwm
      have HR1 := Lib.hid hr1
      have HR2 := Lib.hid hr2
      have HO2 := Lib.hid ho2
      have X6 := Lib.hid (XR.out.trans hx6)
      clear hwm hxm hmade hr1 ho1 hx5 hr2 ho2 hx6
      obtain ⟨ra, hra⟩ : ∃ ra, Sp.sum la st = ra := ⟨_, rfl⟩
      obtain ⟨rb, hrb⟩ : ∃ rb, Sp.sum lb st = rb := ⟨_, rfl⟩
      have HRA := Lib.hid hra
      have HRB := Lib.hid hrb
      have gra := sp_sum_range la st
      have grb := sp_sum_range lb st
      rw [hra] at gra
      rw [hrb] at grb
      obtain ⟨g1, g2⟩ := gra
      obtain ⟨g3, g4⟩ := grb
      have HSB : Hid (Sp.sum ([] ++ la ++ lb) st = ra + rb) := Lib.hid (by rw [List.nil_append, HSA.out, hra, hrb])
      clear hra hrb HSA
      go_wp2_with (first | rw [HWM.out] | (at_builtin; refine wpList_append_run rfl _ _ 27 rfl _ _ rfl rfl HR1.out ?_) | (at_builtin; refine wpList_append_run rfl _ _ 27 rfl _ _ rfl rfl HR2.out ?_))
      refine (lsum_any u2 ([] ++ la ++ lb) st w6 (HO2.out.rows spL_len) (by simp; omega) (fun s hs => ?_) (ra + rb) HSB.out).mono ?_
      · rw [List.nil_append] at hs
        rcases List.mem_append.1 hs with h | h
        · exact HAI.out s h
        · exact HBI.out s h
      rintro e w7 ⟨rfl, hx7⟩
      have X7 := Lib.hid (X6.out.trans hx7)
      clear hx7 X6
      go_wp2_with fail
      refine (lsum_any _ la st w7 (HA.out.ext (XC.out.trans X7.out)) (by omega) HAI.out ra HRA.out).mono ?_
      rintro e w8 ⟨rfl, hx8⟩
      have X8 := Lib.hid (X7.out.trans hx8)
      clear hx8 X7
      go_wp2_with fail
      refine (lsum_any _ lb st w8 (HB.out.ext (XC.out.trans X8.out)) (by omega) HBI.out rb HRB.out).mono ?_
      rintro e w9 ⟨rfl, hx9⟩
      have X9 := Lib.hid (X8.out.trans hx9)
      clear hx9 X8
      have hwr : IntKind.i64.wrap (ra + rb) = ra + rb := IntWalk.i64_in _ (by omega)
      go_wp2_with fail
      refine (lsum_any _ [] st w9 (RowsAt.nil _) (by simp) (fun s hs => by simp at hs) 0 rfl).mono ?_
      rintro e w10 ⟨rfl, hx10⟩
      have X10 := Lib.hid (X9.out.trans hx10)
      clear hx10 X9
      go_wp2
      go_ret
      exact ⟨rfl, XC.out.trans X10.out⟩
end Go.Proofs.YtohncgikdlbogaaDoor
