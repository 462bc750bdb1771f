/-
  The contract of the document's May.
-/
import Derived.Test.YthkalaohaholaaaIs
set_option linter.unusedVariables false
set_option linter.unusedSimpArgs false
namespace Go.Proofs.Ythkalaohaholaaa
open Go.RowKit Go.Maps

theorem Tb.idx_first {α : Type} [DecidableEq α] {l : List α} {x : α} {k : Nat} (hn : x ∈ l.take k) : Tb.idx l x ≤ (k : Int) := by
  have h : Tb.idx l x = Tb.idx (l.take k) x := by
    conv => lhs; rw [← List.take_append_drop k l]
    exact Tb.idx_app hn
  rw [h]
  have := Tb.idx_le (l := l.take k) (x := x)
  rw [List.length_take] at this
  omega
/-- What is known of a table that comes in. -/
structure Tb.Fine (t : Tb) : Prop where
  ss : t.ss.length ≤ 100000
  ks : t.ks.length ≤ 100000
  len : ∀ l ∈ t.ks, l.length ≤ 100000
  nums : ∀ l ∈ t.ks, ∀ f ∈ l, FrIn f
set_option maxRecDepth 100000 in
set_option maxHeartbeats 16000000 in
theorem rtmay_any (v : Value) (t : Tb) (w : World) (h : TabAt w v t) (hf : t.Fine) :
    Calls Try.prog 20 #[v] w fun e w' => e = .returned (.bool t.may) ∧ Ext w w' := by
  obtain ⟨A, c, B, d, rfl, h1, h2⟩ := h.two
  obtain ⟨w1, hw1⟩ : ∃ w1, w.alloc (.cells #[.slice A t.ss.length c, .slice B t.ks.length d] 25) = w1 := ⟨_, rfl⟩
  obtain ⟨p, hp⟩ : ∃ p, w.heap.size = p := ⟨_, rfl⟩
  have HX1 : Hid (Ext w w1) := Lib.hid (by rw [← hw1]; exact (Ext.refl w).alloc _)
  have HB1 : Hid (w1.heap[p]? = some (.cells #[.slice A t.ss.length c, .slice B t.ks.length d] 25 (0, 0))) := Lib.hid (by rw [← hw1, ← hp]; exact blk_new w _)
  have HC0 : Hid (∀ w', Ext w1 w' → w'.cell? ⟨w.heap.size, 0, none⟩ = some (.slice A t.ss.length c) ∧ w'.cell? ⟨w.heap.size, 1, none⟩ = some (.slice B t.ks.length d)) := Lib.hid fun w' hx => by rw [hp]; exact ⟨blk_cell (hx.blk HB1.out) 0 _ rfl, blk_cell (hx.blk HB1.out) 1 _ rfl⟩
  have H1 := Lib.hid (h1.ext HX1.out)
  have H2 := Lib.hid (h2.ext HX1.out)
  have HF := Lib.hid hf
  have HW1 := Lib.hid hw1
  have l1 := hf.ss
  have l2 := hf.ks
  clear h h1 h2 hw1 hp hf
  obtain ⟨b0, b1⟩ := HC0.out w1 (Ext.refl _)
  by_cases g1 : 10000 < t.ss.length
  · have HE : Hid (t.may = false) := Lib.hid (by unfold Tb.may; rw [decide_eq_false (by omega)]; rfl)
    have hg : (10000 : Int) < (t.ss.length : Int) := by omega
    go_enter Try.func20, Try.ntmps20
    go_wp2
    go_ret
    exact ⟨by rw [HE.out] <;> rfl, by rw [HW1.out]; exact HX1.out⟩
  by_cases g2 : 10000 < t.ks.length
  · have HE : Hid (t.may = false) := Lib.hid (by unfold Tb.may; rw [decide_eq_false (by omega)]; rfl)
    have hg : (t.ss.length : Int) ≤ 10000 := by omega
    have hg2 : (10000 : Int) < (t.ks.length : Int) := by omega
    go_enter Try.func20, Try.ntmps20
    go_wp2
    go_ret
    exact ⟨by rw [HE.out] <;> rfl, by rw [HW1.out]; exact HX1.out⟩
  have hg : (t.ss.length : Int) ≤ 10000 := by omega
  have hg2 : (t.ks.length : Int) ≤ 10000 := by omega
  have HLEN : Hid (t.ss.length ≤ 10000 ∧ t.ks.length ≤ 10000) := Lib.hid ⟨by omega, by omega⟩
  go_enter Try.func20, Try.ntmps20
  go_wp2_with fail
  rw [HW1.out]
  clear b0 b1
  go_loopw [3] (fun iv wr => ∃ k : Nat, k ≤ t.ss.length ∧ iv = .int .i64 k ∧ Hid (Tb.okS (t.ss.take k) = true) ∧ Ext w1 wr) (fun iv _ => t.ss.length - (intOf iv).toNat)
  case atStart => exact ⟨0, by omega, rfl, Lib.hid rfl, Ext.refl _⟩
  case round =>
    obtain ⟨k, hk, rfl, HOK, hx⟩ := hrel
    have HX := Lib.hid hx
    clear hx
    obtain ⟨b0, b1⟩ := HC0.out wr HX.out
    by_cases hlt : k < t.ss.length
    · obtain ⟨s, hs⟩ : ∃ s, t.ss[k]? = some s := ⟨_, List.getElem?_eq_getElem hlt⟩
      obtain ⟨b, o, rfl, hb, c0⟩ := strs_get (H1.out.ext HX.out) hs
      have HS := Lib.hid hs
      have HTK : Hid (t.ss.take (k + 1) = t.ss.take k ++ [s]) := Lib.hid (by rw [List.take_succ_eq_append_getElem hlt, (List.getElem?_eq_some_iff.1 hs).2])
      have HOS : Hid (Tb.okS (t.ss.take (k + 1)) = (Tb.mayS s && decide (s ∉ t.ss.take k))) := Lib.hid (by rw [HTK.out, Tb.okS_snoc, HOK.out, Bool.true_and])
      have HST : Hid (Tb.okS (t.ss.take (k + 1)) = false → t.may = false) := Lib.hid fun h => by unfold Tb.may; rw [Tb.okS_take h, Bool.and_false, Bool.false_and]
      have i0 : (0 : Int) ≤ (k : Int) := by omega
      have i1 : (k : Int) < (t.ss.length : Int) := by omega
      clear hs
      by_cases s1 : s.size < 1
      · have HE := Lib.hid (HST.out (by rw [HOS.out]; unfold Tb.mayS; rw [decide_eq_false (by omega)]; rfl))
        have hq : (s.size : Int) < 1 := by omega
        go_upto_region 6 with fail
        go_quiet (fail)
        go_wp2
        go_ret
        exact ⟨by rw [HE.out] <;> rfl, HX1.out.trans (HX.out.drewN _)⟩
      by_cases s2 : 1000 < s.size
      · have HE := Lib.hid (HST.out (by rw [HOS.out]; unfold Tb.mayS; rw [decide_eq_false (by omega)]; rfl))
        have hq : ¬ (s.size : Int) < 1 := by omega
        have hq2 : (1000 : Int) < (s.size : Int) := by omega
        go_upto_region 6 with fail
        go_quiet (fail)
        go_wp2
        go_ret
        exact ⟨by rw [HE.out] <;> rfl, HX1.out.trans (HX.out.drewN _)⟩
      have HMS : Hid (Tb.mayS s = true) := Lib.hid (by unfold Tb.mayS; exact decide_eq_true ⟨by omega, by omega⟩)
      have hq : ¬ (s.size : Int) < 1 := by omega
      have hq2 : ¬ (1000 : Int) < (s.size : Int) := by omega
      have HFI := Lib.hid (fun (w' : World) (hx : Ext w1 w') => rfind_any _ t.ss s w' (H1.out.ext hx) HF.out.ss)
      by_cases hin : s ∈ t.ss.take k
      · have HE := Lib.hid (HST.out (by rw [HOS.out, decide_eq_false (by simpa using hin), Bool.and_false]))
        have hi := Tb.idx_first hin
        obtain ⟨j, hj⟩ : ∃ j, Tb.idx t.ss s - 1 = j := ⟨_, rfl⟩
        rw [hj] at HFI
        have hne : (j != (k : Int)) = true := by simp; omega
        clear hi hj hin
        go_upto_region 6 with fail
        go_quiet ((go_at_call 29; exact quiet_l (HFI.out _ (HX.out.drewN _))))
        go_wp2
        go_ret
        exact ⟨by rw [HE.out] <;> rfl, HX1.out.trans (HX.out.drewN _)⟩
      · have hj : Tb.idx t.ss s - 1 = (k : Int) := by rw [Tb.idx_take HS.out hin]; omega
        rw [hj] at HFI
        have HE : Hid (Tb.okS (t.ss.take (k + 1)) = true) := Lib.hid (by rw [HOS.out, HMS.out, decide_eq_true (by simpa using hin)]; rfl)
        clear hj hin
        go_upto_region 6 with fail
        go_quiet ((go_at_call 29; exact quiet_l (HFI.out _ (HX.out.drewN _))))
        go_wp2
        go_roundw
        case rel => exact ⟨k + 1, by omega, by go_num, HE, HX.out.drewN _⟩
        case measure => simp [intOf]; omega
    · obtain rfl : k = t.ss.length := by omega
      rw [List.take_length] at HOK
      obtain ⟨wA, rfl⟩ : ∃ wA, wA = wr := ⟨_, rfl⟩
      have HXA := Lib.hid HX.out
      clear HX
      go_wp2_with fail
      clear b0 b1
      rename_i hA hK hB
      clear hlt hA
      go_loopw [4] (fun iv wr => ∃ k : Nat, k ≤ t.ks.length ∧ iv = .int .i64 k ∧ Hid (Tb.okK t.ss.length (t.ks.take k) = true) ∧ Ext w1 wr) (fun iv _ => t.ks.length - (intOf iv).toNat)
      case atStart => exact ⟨0, by omega, rfl, Lib.hid rfl, HXA.out⟩
      case round =>
        clear HXA
        obtain ⟨k, hk, rfl, HOKK, hx⟩ := hrel
        have HX := Lib.hid hx
        clear hx
        obtain ⟨b0, b1⟩ := HC0.out wr HX.out
        by_cases hlt : k < t.ks.length
        · obtain ⟨l, hs⟩ : ∃ l, t.ks[k]? = some l := ⟨_, List.getElem?_eq_getElem hlt⟩
          obtain ⟨b, o, z, rfl, hb, c0, hr⟩ := (H2.out.ext HX.out).one hs
          obtain ⟨C, q, rfl, hq⟩ := hr.form
          have HS := Lib.hid hs
          have HR := Lib.hid hr
          have HLO := Lib.hid (HF.out.len l (List.mem_of_getElem? hs))
          have HLN := Lib.hid (HF.out.nums l (List.mem_of_getElem? hs))
          have HTK : Hid (t.ks.take (k + 1) = t.ks.take k ++ [l]) := Lib.hid (by rw [List.take_succ_eq_append_getElem hlt, (List.getElem?_eq_some_iff.1 hs).2])
          have HOS : Hid (Tb.okK t.ss.length (t.ks.take (k + 1)) = (Tb.mayK t.ss.length l && decide (l ∉ t.ks.take k))) := Lib.hid (by rw [HTK.out, Tb.okK_snoc, HOKK.out, Bool.true_and])
          have HST : Hid (Tb.okK t.ss.length (t.ks.take (k + 1)) = false → t.may = false) := Lib.hid fun h => by unfold Tb.may; rw [Tb.okK_take h, Bool.and_false]
          have HLT := Lib.hid hlt
          clear hs hr hlt
          by_cases s1 : l.length < 1
          · have HE := Lib.hid (HST.out (by rw [HOS.out]; unfold Tb.mayK; rw [decide_eq_false (by omega)]; rfl))
            have hq1 : (l.length : Int) < 1 := by omega
            have hki : (k : Int) < (t.ks.length : Int) := by have := HLT.out; omega
            go_wp2
            go_ret
            exact ⟨by rw [HE.out] <;> rfl, HX1.out.trans HX.out⟩
          by_cases s2 : 100 < l.length
          · have HE := Lib.hid (HST.out (by rw [HOS.out]; unfold Tb.mayK; rw [decide_eq_false (by omega)]; rfl))
            have hq1 : ¬ (l.length : Int) < 1 := by omega
            have hq2 : (100 : Int) < (l.length : Int) := by omega
            have hki : (k : Int) < (t.ks.length : Int) := by have := HLT.out; omega
            go_wp2
            go_ret
            exact ⟨by rw [HE.out] <;> rfl, HX1.out.trans HX.out⟩
          have hq1 : ¬ (l.length : Int) < 1 := by omega
          have hq2 : ¬ (100 : Int) < (l.length : Int) := by omega
          have HSTK := Lib.hid (rstack_any _ _ t.ks l wr (H2.out.ext HX.out) HR.out HF.out.ks (fun y hy => ⟨HF.out.len y hy, HF.out.nums y hy⟩) HLN.out)
          by_cases hin : l ∈ t.ks.take k
          · have HE := Lib.hid (HST.out (by rw [HOS.out, decide_eq_false (by simpa using hin), Bool.and_false]))
            have hi := Tb.idx_first hin
            obtain ⟨j, hj⟩ : ∃ j, Tb.idx t.ks l - 1 = j := ⟨_, rfl⟩
            rw [hj] at HSTK
            have hne : (j != (k : Int)) = true := by simp; omega
            have hki : (k : Int) < (t.ks.length : Int) := by have := HLT.out; omega
            clear hi hj hin
            go_wp2_with fail
            refine HSTK.out.mono ?_
            rintro e w2 ⟨rfl, hx2⟩
            go_wp2
            go_ret
            exact ⟨by rw [HE.out] <;> rfl, HX1.out.trans (HX.out.trans hx2)⟩
          · have hj : Tb.idx t.ks l - 1 = (k : Int) := by rw [Tb.idx_take HS.out hin]; omega
            have HOS2 : Hid (Tb.okK t.ss.length (t.ks.take (k + 1)) = l.all (Tb.mayF t.ss.length)) := Lib.hid (by rw [HOS.out, decide_eq_true (by simpa using hin), Bool.and_true]; unfold Tb.mayK; rw [decide_eq_true ⟨by omega, by omega⟩, Bool.true_and])
            rw [hj] at HSTK
            clear hj hin
            have hki : (k : Int) < (t.ks.length : Int) := by have := HLT.out; omega
            go_wp2_with fail
            refine HSTK.out.mono ?_
            rintro e w2 ⟨rfl, hx2⟩
            have HX2 := Lib.hid hx2
            clear hx2 b0 b1
            obtain ⟨wB, rfl⟩ : ∃ wB, wB = wr := ⟨_, rfl⟩
            go_wp2_with fail
            clear hki
            go_loopw [6] (fun iv wr => ∃ j : Nat, j ≤ l.length ∧ iv = .int .i64 j ∧ Hid ((l.take j).all (Tb.mayF t.ss.length) = true) ∧ Ext wB wr) (fun iv _ => l.length - (intOf iv).toNat)
            case atStart => exact ⟨0, by omega, rfl, Lib.hid rfl, HX2.out⟩
            case round =>
              clear HX2
              obtain ⟨j, hj, rfl, HALL, hx⟩ := hrel
              have HX3 := Lib.hid (HX.out.trans hx)
              have HXB := Lib.hid hx
              clear hx
              obtain ⟨b0, b1⟩ := HC0.out wr HX3.out
              by_cases hlt : j < l.length
              · obtain ⟨f, hf⟩ : ∃ f, l[j]? = some f := ⟨_, List.getElem?_eq_getElem hlt⟩
                obtain ⟨b3, o3, rfl, hb3, c0, c1⟩ := frs_get (HR.out.ext HXB.out) hf
                have HNX := Lib.hid (all_nxt (p := Tb.mayF t.ss.length) hlt)
                rw [(List.getElem?_eq_some_iff.1 hf).2, HALL.out, Bool.true_and] at HNX
                have HSTP : Hid ((l.take (j + 1)).all (Tb.mayF t.ss.length) = false → t.may = false) := Lib.hid fun h => HST.out (by rw [HOS2.out]; exact all_stop h)
                have HFF : Hid (Tb.mayF t.ss.length f = (decide (1 ≤ f.1 ∧ f.1 ≤ (t.ss.length : Int)) && Tb.mayL f.2)) := Lib.hid rfl
                obtain ⟨f0, f1⟩ := f
                simp only at c0 c1 HFF
                have j0 : (0 : Int) ≤ (j : Int) := by omega
                have j1 : (j : Int) < (l.length : Int) := by omega
                clear hf
                by_cases a1 : f0 < 1
                · have HE := Lib.hid (HSTP.out (by rw [HNX.out, HFF.out, decide_eq_false (by omega)]; rfl))
                  go_upto_region 17 with fail
                  go_quiet (fail)
                  go_wp2
                  go_ret
                  exact ⟨by rw [HE.out] <;> rfl, HX1.out.trans (HX3.out.drewN _)⟩
                by_cases a2 : (t.ss.length : Int) < f0
                · have HE := Lib.hid (HSTP.out (by rw [HNX.out, HFF.out, decide_eq_false (by omega)]; rfl))
                  go_upto_region 17 with fail
                  go_quiet (fail)
                  go_wp2
                  go_ret
                  exact ⟨by rw [HE.out] <;> rfl, HX1.out.trans (HX3.out.drewN _)⟩
                have HG : Hid (Tb.mayF t.ss.length (f0, f1) = Tb.mayL f1) := Lib.hid (by rw [HFF.out, decide_eq_true ⟨by omega, by omega⟩]; rfl)
                have HCF := Lib.hid (rfits_any f1)
                cases hb : Tb.mayL f1 with
                | false =>
                  have HE := Lib.hid (HSTP.out (by rw [HNX.out, HG.out, hb]))
                  rw [hb] at HCF
                  go_upto_region 17 with fail
                  go_quiet ((go_at_call 30; exact quiet_l (HCF.out _)))
                  go_wp2
                  go_ret
                  exact ⟨by rw [HE.out] <;> rfl, HX1.out.trans (HX3.out.drewN _)⟩
                | true =>
                  have HE : Hid ((l.take (j + 1)).all (Tb.mayF t.ss.length) = true) := Lib.hid (by rw [HNX.out, HG.out, hb])
                  rw [hb] at HCF
                  go_upto_region 17 with fail
                  go_quiet ((go_at_call 30; exact quiet_l (HCF.out _)))
                  go_wp2
                  go_roundw
                  case rel => exact ⟨j + 1, by omega, by go_num, HE, HXB.out.drewN _⟩
                  case measure => simp [intOf]; omega
              · obtain rfl : j = l.length := by omega
                have HE : Hid (Tb.okK t.ss.length (t.ks.take (k + 1)) = true) := Lib.hid (by rw [HOS2.out]; have := HALL.out; rwa [List.take_length] at this)
                clear b0 b1
                go_wp2
                go_roundw
                case rel => exact ⟨k + 1, by have := HLT.out; omega, by go_num, HE, HX3.out⟩
                case measure => have := HLT.out; simp [intOf]; omega
        · obtain rfl : k = t.ks.length := by omega
          rw [List.take_length] at HOKK
          have HE : Hid (t.may = true) := Lib.hid (by unfold Tb.may; rw [HOK.out, HOKK.out, decide_eq_true ⟨by have := HLEN.out; omega, by have := HLEN.out; omega⟩]; rfl)
          go_wp2
          go_ret
          exact ⟨by rw [HE.out] <;> rfl, HX1.out.trans HX.out⟩

end Go.Proofs.Ythkalaohaholaaa
