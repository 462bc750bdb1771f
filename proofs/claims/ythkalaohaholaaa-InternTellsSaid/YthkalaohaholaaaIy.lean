/-
  The walk of the statement InternBack.
-/
import Derived.Test.YthkalaohaholaaaLg
import Derived.Test.YthkalaohaholaaaIu
import Derived.Test.YthkalaohaholaaaIw
import Derived.Test.YthkalaohaholaaaIx
set_option linter.unusedVariables false
set_option linter.unusedSimpArgs false
namespace Go.Proofs.Ythkalaohaholaaa
open Go.RowKit Go.Maps

set_option maxRecDepth 100000 in
set_option maxHeartbeats 16000000 in
theorem walk_InternBack (v : Value) (t : Tb) (u : Value) (s : ByteArray) (l : List (ByteArray × Int)) (n : Int) (w : World) (ht : TabAt w v t) (hi : TbIn t) (ha : AskAt w u s l n) (hai : AskIn s l n) :
    Calls Try.prog 4 #[v, u] w fun e w' => e = .returned (.bool true) ∧ Ext w w' := by
  obtain ⟨A, c, B, d, rfl, h1, h2⟩ := ht.two
  obtain ⟨C, q, rfl, hl⟩ := ha
  generalize ha : t.ss.length = a at *
  generalize hb : t.ks.length = b at *
  obtain ⟨wS, hw⟩ : ∃ wS, (w.alloc (.cells #[.slice A a c, .slice B b d] 25)).alloc (.cells #[.string s, .slice C l.length q, .int .i64 n] 28) = wS := ⟨_, rfl⟩
  obtain ⟨p, hp⟩ : ∃ p, w.heap.size = p := ⟨_, rfl⟩
  have HXW : Hid (Ext w wS) := Lib.hid (by rw [← hw]; exact ((Ext.refl w).alloc _).alloc _)
  have HBT : Hid (wS.heap[p]? = some (.cells #[.slice A a c, .slice B b d] 25 (0, 0))) := Lib.hid (by rw [← hw, ← hp]; exact blk_alloc (blk_new w _) _)
  have HBX : Hid (wS.heap[p + 1]? = some (.cells #[.string s, .slice C l.length q, .int .i64 n] 28 (0, 0))) := Lib.hid (by
    rw [← hw]
    have := blk_new (w.alloc (.cells #[.slice A a c, .slice B b d] 25)) (.cells #[.string s, .slice C l.length q, .int .i64 n] 28)
    rw [show (w.alloc (.cells #[.slice A a c, .slice B b d] 25)).heap.size = p + 1 by simp [hp]] at this
    exact this)
  have HC0 : Hid (∀ w', Ext wS w' → w'.cell? ⟨w.heap.size, 0, none⟩ = some (.slice A a c) ∧ w'.cell? ⟨w.heap.size, 1, none⟩ = some (.slice B b d) ∧ w'.cell? ⟨w.heap.size + 1, 0, none⟩ = some (.string s) ∧ w'.cell? ⟨w.heap.size + 1, 1, none⟩ = some (.slice C l.length q)) := Lib.hid fun w' hx => by
    rw [hp]
    exact ⟨blk_cell (hx.blk HBT.out) 0 _ rfl, blk_cell (hx.blk HBT.out) 1 _ rfl, blk_cell (hx.blk HBX.out) 0 _ rfl, blk_cell (hx.blk HBX.out) 1 _ rfl⟩
  have HT := Lib.hid (ht.ext HXW.out)
  have HL := Lib.hid (hl.ext HXW.out)
  have HTI := Lib.hid hi
  have HAI := Lib.hid hai
  have HWS := Lib.hid hw
  have HAL := Lib.hid ha
  have HBL := Lib.hid hb
  clear ht hi hai hl h1 h2 hw hp ha hb
  obtain ⟨t0, t1, x0, x1⟩ := HC0.out wS (Ext.refl _)
  go_enter Try.func4, Try.ntmps4
  go_wp2_with fail
  rw [HWS.out]
  refine (ifixed_yes _).mono ?_
  rintro e w1 ⟨rfl, hx1⟩
  have HX1 : Hid (Ext wS w1) := Lib.hid hx1
  clear hx1 t0 t1 x0 x1
  obtain ⟨t0, t1, x0, x1⟩ := HC0.out w1 HX1.out
  cases h1 : t.small with
  | false =>
    go_wp2_with fail
    refine (rsmall_k _ t _ _ h1 (HT.out.ext HX1.out) HTI.out).mono ?_
    rintro e w2 ⟨rfl, hx2⟩
    have HX2 : Hid (Ext wS w2) := Lib.hid (HX1.out.trans hx2)
    clear hx2 t0 t1 x0 x1
    obtain ⟨t0, t1, x0, x1⟩ := HC0.out w2 HX2.out
    go_wp2_with fail
    refine (ifixed_yes _).mono ?_
    rintro e w3 ⟨rfl, hx3⟩
    go_wp2
    go_ret
    exact ⟨rfl, HXW.out.trans (HX2.out.trans hx3)⟩
  | true =>
    go_wp2_with fail
    refine (rsmall_k _ t _ _ h1 (HT.out.ext HX1.out) HTI.out).mono ?_
    rintro e w2 ⟨rfl, hx2⟩
    have HX2 : Hid (Ext wS w2) := Lib.hid (HX1.out.trans hx2)
    clear hx2 t0 t1 x0 x1
    obtain ⟨t0, t1, x0, x1⟩ := HC0.out w2 HX2.out
    have HFN := Lib.hid (Tb.fine_of HTI.out h1)
    cases h3 : Tb.few l with
    | false =>
      go_wp2_with fail
      refine (rfew_k _ l _ _ h3 (HL.out.ext HX2.out) HAI.out.len HAI.out.frames).mono ?_
      rintro e w3 ⟨rfl, hx3⟩
      have HX3 : Hid (Ext wS w3) := Lib.hid (HX2.out.trans hx3)
      clear hx3 t0 t1 x0 x1
      obtain ⟨t0, t1, x0, x1⟩ := HC0.out w3 HX3.out
      go_wp2_with fail
      refine (ifixed_yes _).mono ?_
      rintro e w4 ⟨rfl, hx4⟩
      go_wp2
      go_ret
      exact ⟨rfl, HXW.out.trans (HX3.out.trans hx4)⟩
    | true =>
      go_wp2_with fail
      refine (rfew_k _ l _ _ h3 (HL.out.ext HX2.out) HAI.out.len HAI.out.frames).mono ?_
      rintro e w3 ⟨rfl, hx3⟩
      have HX3 : Hid (Ext wS w3) := Lib.hid (HX2.out.trans hx3)
      clear hx3 t0 t1 x0 x1
      obtain ⟨t0, t1, x0, x1⟩ := HC0.out w3 HX3.out
      by_cases g5 : 1000 < s.size
      · have g5i : (1000 : Int) < ((s.size : Nat) : Int) := by omega
        go_wp2_with fail
        refine (ifixed_yes _).mono ?_
        rintro e w4 ⟨rfl, hx4⟩
        go_wp2
        go_ret
        exact ⟨rfl, HXW.out.trans (HX3.out.trans hx4)⟩
      have g5i : ¬ (1000 : Int) < ((s.size : Nat) : Int) := by omega
      cases h2 : t.may with
      | false =>
        go_wp2_with fail
        refine (rtmay_k _ t _ _ h2 (HT.out.ext HX3.out) HFN.out).mono ?_
        rintro e w4 ⟨rfl, hx4⟩
        have HX4 : Hid (Ext wS w4) := Lib.hid (HX3.out.trans hx4)
        clear hx4 t0 t1 x0 x1
        obtain ⟨t0, t1, x0, x1⟩ := HC0.out w4 HX4.out
        go_wp2_with fail
        refine (ifixed_yes _).mono ?_
        rintro e w5 ⟨rfl, hx5⟩
        go_wp2
        go_ret
        exact ⟨rfl, HXW.out.trans (HX4.out.trans hx5)⟩
      | true =>
        go_wp2_with fail
        refine (rtmay_k _ t _ _ h2 (HT.out.ext HX3.out) HFN.out).mono ?_
        rintro e w4 ⟨rfl, hx4⟩
        have HX4 : Hid (Ext wS w4) := Lib.hid (HX3.out.trans hx4)
        clear hx4 t0 t1 x0 x1
        obtain ⟨t0, t1, x0, x1⟩ := HC0.out w4 HX4.out
        have HSM := Lib.hid (Tb.small_iff.1 h1)
        have HLT : Hid (t.ss.length < 10000) := Lib.hid (by have := HSM.out.2.2.1; omega)
        have HSP := Lib.hid (Tb.string_spec (s := s) h2 HLT.out (by omega))
        have HBN := Lib.hid (Tb.back_name (s := s) h2 HLT.out (by omega))
        have HBA := Lib.hid (Tb.back_again (s := s) h2 HLT.out (by omega))
        have HFL := Lib.hid (Tb.few_iff.1 h3)
        go_wp2_with fail
        refine (istr_q _ t s _ (HT.out.ext HX4.out) (by have := HSM.out.2.2.1; omega) (by have := HSM.out.2.2.2; omega) HAI.out.text).mono ?_
        rintro e v5 ⟨A5, k5, c5, B5, m5, d5, rfl, hk5, hm5, ht5, hx5⟩
        obtain ⟨w5, hu5⟩ : ∃ w5, v5.alloc (.cells #[.slice A5 k5 c5, .slice B5 m5 d5] 25) = w5 := ⟨_, rfl⟩
        obtain ⟨p5, hp5⟩ : ∃ p5, v5.heap.size = p5 := ⟨_, rfl⟩
        obtain ⟨n5, hn5⟩ : ∃ n5, (t.string s).2 = n5 := ⟨_, rfl⟩
        have HR5 : Hid (w5.heap[p5]? = some (.cells #[.slice A5 k5 c5, .slice B5 m5 d5] 25 (0, 0))) := Lib.hid (by rw [← hu5, ← hp5]; exact blk_new v5 _)
        have HY5 : Hid (Ext w4 w5) := Lib.hid (by rw [← hu5]; exact hx5.alloc _)
        have HX5 : Hid (Ext wS w5) := Lib.hid (HX4.out.trans HY5.out)
        have HT5 := Lib.hid (show TabAt w5 (.agg #[.slice A5 k5 c5, .slice B5 m5 d5]) _ from by rw [← hu5]; exact ht5.ext ((Ext.refl v5).alloc _))
        have HU5 := Lib.hid hu5
        have HP5 := Lib.hid hp5
        have HN5 := Lib.hid hn5
        have HK5 := Lib.hid hm5
        rw [hn5]
        clear hn5
        clear hx5 hu5 hp5 hk5 hm5 ht5 t0 t1 x0 x1
        obtain ⟨t0, t1, x0, x1⟩ := HC0.out w5 HX5.out
        have r5 : w5.cell? ⟨v5.heap.size, 0, none⟩ = some (.slice A5 k5 c5) := by rw [HP5.out]; exact blk_cell HR5.out 0 _ rfl
        have z5 : w5.cell? ⟨v5.heap.size, 1, none⟩ = some (.slice B5 m5 d5) := by rw [HP5.out]; exact blk_cell HR5.out 1 _ rfl
        have HA1 : Hid ((t.string s).1.ss.length ≤ 100000) := Lib.hid (by have := HSP.out.2.2.2.1; have := HSM.out.2.2.1; omega)
        have HA2 : Hid ((t.string s).1.ks.length ≤ 100000) := Lib.hid (by rw [HSP.out.2.1]; have := HSM.out.2.2.2; omega)
        have HAM : Hid ((t.string s).1.may = true) := Lib.hid HSP.out.1
        have HAS : Hid ((t.string s).1.string s = ((t.string s).1, n5)) := Lib.hid (by rw [HBA.out]; exact Prod.ext rfl HN5.out)
        rw [HN5.out] at HBN
        have HAP := Lib.hid HSP.out.2.2.1
        have HAK := Lib.hid HSP.out.2.1
        clear HSP HBA
        generalize (t.string s).1 = a1 at *
        go_wp2_with (rw [HU5.out])
        refine (iname_k _ a1 n5 s true _ HBN.out HT5.out HA1.out HA2.out).mono ?_
        rintro e w6 ⟨rfl, hx6⟩
        have HY6 := Lib.hid hx6
        have HX6 : Hid (Ext wS w6) := Lib.hid (HX5.out.trans hx6)
        clear hx6 t0 t1 x0 x1
        clear r5 z5
        obtain ⟨t0, t1, x0, x1⟩ := HC0.out w6 HX6.out
        have HE5_6 := Lib.hid (HY6.out)
        have HQ5_6 := Lib.hid (HY6.out.blk HR5.out)
        have r5 : w6.cell? ⟨v5.heap.size, 0, none⟩ = some (.slice A5 k5 c5) := by rw [HP5.out]; exact blk_cell HQ5_6.out 0 _ rfl
        have z5 : w6.cell? ⟨v5.heap.size, 1, none⟩ = some (.slice B5 m5 d5) := by rw [HP5.out]; exact blk_cell HQ5_6.out 1 _ rfl
        go_wp2_with fail
        refine (istr_k _ a1 s a1 n5 _ HAS.out (HT5.out.ext HE5_6.out) HA1.out HA2.out HAI.out.text).mono ?_
        rintro e v7 ⟨A7, k7, c7, B7, m7, d7, rfl, hk7, hm7, ht7, hx7⟩
        obtain ⟨w7, hu7⟩ : ∃ w7, v7.alloc (.cells #[.slice A7 k7 c7, .slice B7 m7 d7] 25) = w7 := ⟨_, rfl⟩
        obtain ⟨p7, hp7⟩ : ∃ p7, v7.heap.size = p7 := ⟨_, rfl⟩
        skip
        have HR7 : Hid (w7.heap[p7]? = some (.cells #[.slice A7 k7 c7, .slice B7 m7 d7] 25 (0, 0))) := Lib.hid (by rw [← hu7, ← hp7]; exact blk_new v7 _)
        have HY7 : Hid (Ext w6 w7) := Lib.hid (by rw [← hu7]; exact hx7.alloc _)
        have HX7 : Hid (Ext wS w7) := Lib.hid (HX6.out.trans HY7.out)
        have HT7 := Lib.hid (show TabAt w7 (.agg #[.slice A7 k7 c7, .slice B7 m7 d7]) _ from by rw [← hu7]; exact ht7.ext ((Ext.refl v7).alloc _))
        have HU7 := Lib.hid hu7
        have HP7 := Lib.hid hp7
        skip
        have HK7 := Lib.hid hm7
        skip
        clear hx7 hu7 hp7 hk7 hm7 ht7 t0 t1 x0 x1
        clear r5 z5
        obtain ⟨t0, t1, x0, x1⟩ := HC0.out w7 HX7.out
        have r7 : w7.cell? ⟨v7.heap.size, 0, none⟩ = some (.slice A7 k7 c7) := by rw [HP7.out]; exact blk_cell HR7.out 0 _ rfl
        have z7 : w7.cell? ⟨v7.heap.size, 1, none⟩ = some (.slice B7 m7 d7) := by rw [HP7.out]; exact blk_cell HR7.out 1 _ rfl
        have HE5_7 := Lib.hid (HE5_6.out.trans HY7.out)
        have HQ5_7 := Lib.hid (HY7.out.blk HQ5_6.out)
        have r5 : w7.cell? ⟨v5.heap.size, 0, none⟩ = some (.slice A5 k5 c5) := by rw [HP5.out]; exact blk_cell HQ5_7.out 0 _ rfl
        have z5 : w7.cell? ⟨v5.heap.size, 1, none⟩ = some (.slice B5 m5 d5) := by rw [HP5.out]; exact blk_cell HQ5_7.out 1 _ rfl
        have hss := toList_eq s s
        rw [decide_eq_true rfl] at hss
        have hnn : (n5 != n5) = false := by simp
        go_wp2_with (rw [HU7.out])
        refine (rsametab_k _ _ a1 a1 true _ (Tb.same_iff.2 rfl) (HT5.out.ext HE5_7.out) HT7.out (Tb.fine_may HAM.out) (Tb.fine_may HAM.out)).mono ?_
        rintro e w8 ⟨rfl, hx8⟩
        have HY8 := Lib.hid hx8
        have HX8 : Hid (Ext wS w8) := Lib.hid (HX7.out.trans hx8)
        clear hx8 t0 t1 x0 x1
        clear r5 z5
        obtain ⟨t0, t1, x0, x1⟩ := HC0.out w8 HX8.out
        have HE5_8 := Lib.hid (HE5_7.out.trans HY8.out)
        have HQ5_8 := Lib.hid (HY8.out.blk HQ5_7.out)
        have r5 : w8.cell? ⟨v5.heap.size, 0, none⟩ = some (.slice A5 k5 c5) := by rw [HP5.out]; exact blk_cell HQ5_8.out 0 _ rfl
        have z5 : w8.cell? ⟨v5.heap.size, 1, none⟩ = some (.slice B5 m5 d5) := by rw [HP5.out]; exact blk_cell HQ5_8.out 1 _ rfl
        go_wp2_with fail
        refine (imay_k _ a1 true _ HAM.out (HT5.out.ext HE5_8.out) HA1.out HA2.out).mono ?_
        rintro e w9 ⟨rfl, hx9⟩
        have HY9 := Lib.hid hx9
        have HX9 : Hid (Ext wS w9) := Lib.hid (HX8.out.trans hx9)
        clear hx9 t0 t1 x0 x1
        clear r5 z5
        obtain ⟨t0, t1, x0, x1⟩ := HC0.out w9 HX9.out
        have HE5_9 := Lib.hid (HE5_8.out.trans HY9.out)
        have HQ5_9 := Lib.hid (HY9.out.blk HQ5_8.out)
        have r5 : w9.cell? ⟨v5.heap.size, 0, none⟩ = some (.slice A5 k5 c5) := by rw [HP5.out]; exact blk_cell HQ5_9.out 0 _ rfl
        have z5 : w9.cell? ⟨v5.heap.size, 1, none⟩ = some (.slice B5 m5 d5) := by rw [HP5.out]; exact blk_cell HQ5_9.out 1 _ rfl
        go_wp2_with fail
        refine (istk_q _ _ a1 l _ (HT5.out.ext HE5_9.out) (HL.out.ext HX9.out) HA1.out HA2.out (by have := HFL.out.2; omega) (Tb.few_sz h3)).mono ?_
        rintro e v10 ⟨A10, k10, c10, B10, m10, d10, rfl, hk10, hm10, ht10, hx10⟩
        obtain ⟨w10, hu10⟩ : ∃ w10, v10.alloc (.cells #[.slice A10 k10 c10, .slice B10 m10 d10] 25) = w10 := ⟨_, rfl⟩
        obtain ⟨p10, hp10⟩ : ∃ p10, v10.heap.size = p10 := ⟨_, rfl⟩
        obtain ⟨n10, hn10⟩ : ∃ n10, (a1.stk l).2 = n10 := ⟨_, rfl⟩
        have HR10 : Hid (w10.heap[p10]? = some (.cells #[.slice A10 k10 c10, .slice B10 m10 d10] 25 (0, 0))) := Lib.hid (by rw [← hu10, ← hp10]; exact blk_new v10 _)
        have HY10 : Hid (Ext w9 w10) := Lib.hid (by rw [← hu10]; exact hx10.alloc _)
        have HX10 : Hid (Ext wS w10) := Lib.hid (HX9.out.trans HY10.out)
        have HT10 := Lib.hid (show TabAt w10 (.agg #[.slice A10 k10 c10, .slice B10 m10 d10]) _ from by rw [← hu10]; exact ht10.ext ((Ext.refl v10).alloc _))
        have HU10 := Lib.hid hu10
        have HP10 := Lib.hid hp10
        have HN10 := Lib.hid hn10
        have HK10 := Lib.hid hm10
        rw [hn10]
        clear hn10
        clear hx10 hu10 hp10 hk10 hm10 ht10 t0 t1 x0 x1
        clear r5 z5
        obtain ⟨t0, t1, x0, x1⟩ := HC0.out w10 HX10.out
        have r10 : w10.cell? ⟨v10.heap.size, 0, none⟩ = some (.slice A10 k10 c10) := by rw [HP10.out]; exact blk_cell HR10.out 0 _ rfl
        have z10 : w10.cell? ⟨v10.heap.size, 1, none⟩ = some (.slice B10 m10 d10) := by rw [HP10.out]; exact blk_cell HR10.out 1 _ rfl
        have HE5_10 := Lib.hid (HE5_9.out.trans HY10.out)
        have HQ5_10 := Lib.hid (HY10.out.blk HQ5_9.out)
        have r5 : w10.cell? ⟨v5.heap.size, 0, none⟩ = some (.slice A5 k5 c5) := by rw [HP5.out]; exact blk_cell HQ5_10.out 0 _ rfl
        have z5 : w10.cell? ⟨v5.heap.size, 1, none⟩ = some (.slice B5 m5 d5) := by rw [HP5.out]; exact blk_cell HQ5_10.out 1 _ rfl
        clear hss hnn r5 z5 r7 z7
        by_cases e10 : n10 = 0
        · subst e10
          have HZZ := Lib.hid (Tb.stk_zero HN10.out)
          by_cases hl0 : l = []
          · subst hl0
            go_wp2_with (rw [HU10.out])
            go_ret
            exact ⟨rfl, HXW.out.trans HX10.out⟩
          · have hz : a1.stk l = (Tb.none, 0) := by
              rcases HZZ.out with h | ⟨h, _⟩
              · exact h
              · exact absurd h hl0
            have HSC := Lib.hid (rsametab_k (.agg #[.slice A10 k10 c10, .slice B10 m10 d10]) (.agg #[.slice none 0 0, .slice none 0 0]) Tb.none Tb.none true w10 (Tb.same_iff.2 rfl) (by have := HT10.out; rw [hz] at this; exact this) (tabAt_none _) ⟨by decide, by decide, by simp [Tb.none], by simp [Tb.none]⟩ ⟨by decide, by decide, by simp [Tb.none], by simp [Tb.none]⟩)
            have hlz : ((l.length : Int) == 0) = false := by
              have := List.length_pos_iff.2 hl0
              simp; omega
            clear hz
            go_wp2_with (rw [HU10.out])
            refine HSC.out.mono ?_
            rintro e wz ⟨rfl, hxz⟩
            go_wp2
            go_ret
            exact ⟨rfl, HXW.out.trans (HX10.out.trans hxz)⟩
        have f10 : (n10 == 0) = false := by simpa using e10
        have HSK := Lib.hid (Tb.stk_spec (t := a1) (l := l) (by rw [HN10.out]; exact e10))
        have HBF : Hid ((a1.stk l).1.frames n10 = (l, true)) := Lib.hid (by have := Tb.back_frames (t := a1) (l := l) (by rw [HN10.out]; exact e10); rwa [HN10.out] at this)
        have HBS : Hid ((a1.stk l).1.stk l = ((a1.stk l).1, n10)) := Lib.hid (by rw [Tb.back_stk (by rw [HN10.out]; exact e10) (by have := HFL.out.2; omega)]; exact Prod.ext rfl HN10.out)
        have HCM : Hid ((a1.stk l).1.may = true) := Lib.hid (by obtain ⟨_, _, fs, _, _, _, _, _, _, _, hm, _⟩ := HSK.out; exact hm)
        have HCP : Hid (a1.ss <+: (a1.stk l).1.ss ∧ a1.ks <+: (a1.stk l).1.ks) := Lib.hid (by obtain ⟨_, _, fs, _, p1, _, _, _, _, q1, _, _⟩ := HSK.out; exact ⟨p1, q1⟩)
        clear HSK
        generalize (a1.stk l).1 = b1 at *
        have HC1 : Hid (b1.ss.length ≤ 100000) := Lib.hid (by have := (Tb.may_iff.1 HCM.out).1; omega)
        have HC2 : Hid (b1.ks.length ≤ 100000) := Lib.hid (by have := (Tb.may_iff.1 HCM.out).2.1; omega)
        go_wp2_with (rw [HU10.out])
        refine (iframes_k _ b1 n10 l true _ HBF.out HT10.out HC1.out HC2.out).mono ?_
        rintro e w11 ⟨A11, c11, rfl, hr11, hx11⟩
        have HY11 := Lib.hid hx11
        have HX11 : Hid (Ext wS w11) := Lib.hid (HX10.out.trans hx11)
        clear hx11 t0 t1 x0 x1
        clear r10 z10
        obtain ⟨t0, t1, x0, x1⟩ := HC0.out w11 HX11.out
        have HE10_11 := Lib.hid (HY11.out)
        have HQ10_11 := Lib.hid (HY11.out.blk HR10.out)
        have r10 : w11.cell? ⟨v10.heap.size, 0, none⟩ = some (.slice A10 k10 c10) := by rw [HP10.out]; exact blk_cell HQ10_11.out 0 _ rfl
        have z10 : w11.cell? ⟨v10.heap.size, 1, none⟩ = some (.slice B10 m10 d10) := by rw [HP10.out]; exact blk_cell HQ10_11.out 1 _ rfl
        have HR11 := Lib.hid hr11
        clear hr11
        go_wp2_with fail
        refine (istk_k _ _ b1 l b1 n10 _ HBS.out (HT10.out.ext HE10_11.out) (HL.out.ext HX11.out) HC1.out HC2.out (by have := HFL.out.2; omega) (Tb.few_sz h3)).mono ?_
        rintro e v12 ⟨A12, k12, c12, B12, m12, d12, rfl, hk12, hm12, ht12, hx12⟩
        obtain ⟨w12, hu12⟩ : ∃ w12, v12.alloc (.cells #[.slice A12 k12 c12, .slice B12 m12 d12] 25) = w12 := ⟨_, rfl⟩
        obtain ⟨p12, hp12⟩ : ∃ p12, v12.heap.size = p12 := ⟨_, rfl⟩
        skip
        have HR12 : Hid (w12.heap[p12]? = some (.cells #[.slice A12 k12 c12, .slice B12 m12 d12] 25 (0, 0))) := Lib.hid (by rw [← hu12, ← hp12]; exact blk_new v12 _)
        have HY12 : Hid (Ext w11 w12) := Lib.hid (by rw [← hu12]; exact hx12.alloc _)
        have HX12 : Hid (Ext wS w12) := Lib.hid (HX11.out.trans HY12.out)
        have HT12 := Lib.hid (show TabAt w12 (.agg #[.slice A12 k12 c12, .slice B12 m12 d12]) _ from by rw [← hu12]; exact ht12.ext ((Ext.refl v12).alloc _))
        have HU12 := Lib.hid hu12
        have HP12 := Lib.hid hp12
        skip
        have HK12 := Lib.hid hm12
        skip
        clear hx12 hu12 hp12 hk12 hm12 ht12 t0 t1 x0 x1
        clear r10 z10
        obtain ⟨t0, t1, x0, x1⟩ := HC0.out w12 HX12.out
        have r12 : w12.cell? ⟨v12.heap.size, 0, none⟩ = some (.slice A12 k12 c12) := by rw [HP12.out]; exact blk_cell HR12.out 0 _ rfl
        have z12 : w12.cell? ⟨v12.heap.size, 1, none⟩ = some (.slice B12 m12 d12) := by rw [HP12.out]; exact blk_cell HR12.out 1 _ rfl
        have HE10_12 := Lib.hid (HE10_11.out.trans HY12.out)
        have HQ10_12 := Lib.hid (HY12.out.blk HQ10_11.out)
        have r10 : w12.cell? ⟨v10.heap.size, 0, none⟩ = some (.slice A10 k10 c10) := by rw [HP10.out]; exact blk_cell HQ10_12.out 0 _ rfl
        have z10 : w12.cell? ⟨v10.heap.size, 1, none⟩ = some (.slice B10 m10 d10) := by rw [HP10.out]; exact blk_cell HQ10_12.out 1 _ rfl
        have HTP : Hid (t.ss <+: b1.ss) := Lib.hid (HAP.out.trans HCP.out.1)
        have HTQ : Hid (t.ks <+: b1.ks) := Lib.hid (by rw [← HAK.out]; exact HCP.out.2)
        have HTM := Lib.hid h2
        have HCC : Hid (∀ w', Ext w12 w' → w'.cell? ⟨v10.heap.size, 0, none⟩ = some (.slice A10 k10 c10) ∧ w'.cell? ⟨v10.heap.size, 1, none⟩ = some (.slice B10 m10 d10)) := Lib.hid fun w' hx => by
          rw [HP10.out]
          exact ⟨blk_cell (hx.blk HQ10_12.out) 0 _ rfl, blk_cell (hx.blk HQ10_12.out) 1 _ rfl⟩
        have HL1 : Hid (t.ss.length ≤ 100000 ∧ t.ks.length ≤ 100000) := Lib.hid (by have := HSM.out.2.2; omega)
        have la : a ≤ 60 := by have := HSM.out.2.2.1; have := HAL.out; omega
        have lb : b ≤ 60 := by have := HSM.out.2.2.2; have := HBL.out; omega
        have HC12 := Lib.hid (HT10.out.ext HE10_12.out)
        have HSR := Lib.hid (HR11.out.ext HY12.out)
        go_wp2_with (rw [HU12.out])
        clear r10 z10 r12 z12 t0 t1 x0 x1
        go_loopw [17] (fun iv wr => ∃ k : Nat, k ≤ a + 1 ∧ iv = .int .i64 k ∧ Ext w12 wr) (fun iv _ => a + 1 - (intOf iv).toNat)
        case atStart => exact ⟨0, by omega, rfl, Ext.refl _⟩
        case round =>
          obtain ⟨k, hk, rfl, hx⟩ := hrel
          have HX := Lib.hid hx
          clear hx
          obtain ⟨t0, t1, x0, x1⟩ := HC0.out wr (HX12.out.trans HX.out)
          by_cases hlt : k ≤ a
          · have hki : (k : Int) ≤ (a : Int) := by omega
            have hkn : Hid (t.name (k : Int) = b1.name (k : Int)) := Lib.hid (Tb.keep_name HTM.out HCM.out HTP.out k (by rw [HAL.out]; exact hlt))
            obtain ⟨nm, bo, hnm⟩ : ∃ nm bo, t.name (k : Int) = (nm, bo) := ⟨_, _, rfl⟩
            have HNM := Lib.hid hnm
            clear hnm
            go_wp2_with fail
            refine (iname_k _ t k nm bo _ HNM.out (HT.out.ext (HX12.out.trans HX.out)) HL1.out.1 HL1.out.2).mono ?_
            rintro e wp ⟨rfl, hxp⟩
            have HXP := Lib.hid (HX.out.trans hxp)
            clear hxp t0 t1 x0 x1
            obtain ⟨r10, z10⟩ := HCC.out wp HXP.out
            go_wp2_with fail
            refine (iname_k _ b1 k nm bo _ (by rw [← hkn.out]; exact HNM.out) (HC12.out.ext HXP.out) HC1.out HC2.out).mono ?_
            rintro e wq ⟨rfl, hxq⟩
            have HXQ := Lib.hid (HXP.out.trans hxq)
            clear hxq r10 z10
            have hss := toList_eq nm nm
            rw [decide_eq_true rfl] at hss
            go_wp2
            go_roundw
            case rel => exact ⟨k + 1, by omega, by go_num, HXQ.out⟩
            case measure => simp [intOf]; omega
          · obtain rfl : k = a + 1 := by omega
            have hki : ¬ (((a + 1 : Nat) : Int) ≤ (a : Int)) := by omega
            obtain ⟨wo, rfl⟩ : ∃ wo, wo = wr := ⟨_, rfl⟩
            go_wp2_with fail
            clear t0 t1 x0 x1
            go_loopw [22] (fun iv wr => ∃ k : Nat, k ≤ b + 1 ∧ iv = .int .i64 k ∧ Ext w12 wr) (fun iv _ => b + 1 - (intOf iv).toNat)
            case atStart => exact ⟨0, by omega, rfl, HX.out⟩
            case round =>
              clear HX
              obtain ⟨k, hk2, rfl, hx⟩ := hrel
              have HX := Lib.hid hx
              clear hx
              obtain ⟨t0, t1, x0, x1⟩ := HC0.out wr (HX12.out.trans HX.out)
              by_cases hlt2 : k ≤ b
              · have hki2 : (k : Int) ≤ (b : Int) := by omega
                have hkn : Hid (t.frames (k : Int) = b1.frames (k : Int)) := Lib.hid (Tb.keep_frames HTM.out HCM.out HTP.out HTQ.out k (by rw [HBL.out]; exact hlt2))
                have HFI := Lib.hid (Tb.frames_in HTM.out k (by rw [HBL.out]; exact hlt2))
                obtain ⟨nm, bo, hnm⟩ : ∃ nm bo, t.frames (k : Int) = (nm, bo) := ⟨_, _, rfl⟩
                have HNM := Lib.hid hnm
                rw [hnm] at HFI
                have HFC : Hid (∀ f ∈ nm, FcIn f) := Lib.hid fun f hf => by
                  have := HFI.out f hf
                  refine ⟨by have := this.1; unfold maxLen; omega, ?_⟩
                  unfold i64in
                  omega
                have HFN2 : Hid (nm.length ≤ 100000) := Lib.hid (by
                  have h3 := congrArg Prod.fst hnm
                  simp only at h3
                  rw [← h3]
                  unfold Tb.frames
                  split
                  · split
                    · simp
                    · simp only [Tb.told_len]
                      rw [List.getD]
                      cases hg : t.ks[((k : Int) - 1).toNat]? with
                      | none => simp
                      | some l => have := (HFN.out.len l (List.mem_of_getElem? hg)); simpa using this
                  · simp)
                clear hnm HFI
                go_wp2_with fail
                refine (iframes_k _ t k nm bo _ HNM.out (HT.out.ext (HX12.out.trans HX.out)) HL1.out.1 HL1.out.2).mono ?_
                rintro e wp ⟨Ap, cp, rfl, hrp, hxp⟩
                have HRP := Lib.hid hrp
                have HXP := Lib.hid (HX.out.trans hxp)
                clear hxp hrp t0 t1 x0 x1
                obtain ⟨r10, z10⟩ := HCC.out wp HXP.out
                go_wp2_with fail
                refine (iframes_k _ b1 k nm bo _ (by rw [← hkn.out]; exact HNM.out) (HC12.out.ext HXP.out) HC1.out HC2.out).mono ?_
                rintro e wq ⟨Aq, cq, rfl, hrq, hxq⟩
                have HSF := Lib.hid (rsamefr_k _ _ nm nm true wq (by simp) (HRP.out.ext hxq) hrq HFC.out HFC.out HFN2.out)
                have HXQ := Lib.hid (HXP.out.trans hxq)
                clear hxq hrq r10 z10
                go_wp2_with fail
                refine HSF.out.mono ?_
                rintro e wt ⟨rfl, hxt⟩
                have HXT := Lib.hid (HXQ.out.trans hxt)
                clear hxt
                go_wp2
                go_roundw
                case rel => exact ⟨k + 1, by omega, by go_num, HXT.out⟩
                case measure => simp [intOf]; omega
              · obtain rfl : k = b + 1 := by omega
                have hki2 : ¬ (((b + 1 : Nat) : Int) ≤ (b : Int)) := by omega
                have HSF := Lib.hid (rsamefr_k _ _ l l true wr (by simp) (HSR.out.ext HX.out) (HL.out.ext (HX12.out.trans HX.out)) HAI.out.frames HAI.out.frames (by have := HFL.out.2; omega))
                have hnn : (n10 == n10) = true := by simp
                go_wp2_with fail
                refine HSF.out.mono ?_
                rintro e wp ⟨rfl, hxp⟩
                have HXP := Lib.hid (HX.out.trans hxp)
                clear hxp t0 t1 x0 x1
                obtain ⟨r10, z10⟩ := HCC.out wp HXP.out
                have r12 : wp.cell? ⟨v12.heap.size, 0, none⟩ = some (.slice A12 k12 c12) := by rw [HP12.out]; exact blk_cell (HXP.out.blk HR12.out) 0 _ rfl
                have z12 : wp.cell? ⟨v12.heap.size, 1, none⟩ = some (.slice B12 m12 d12) := by rw [HP12.out]; exact blk_cell (HXP.out.blk HR12.out) 1 _ rfl
                go_wp2_with fail
                refine (rsametab_k _ _ b1 b1 true _ (Tb.same_iff.2 rfl) (HC12.out.ext HXP.out) (HT12.out.ext HXP.out) (Tb.fine_may HCM.out) (Tb.fine_may HCM.out)).mono ?_
                rintro e wz ⟨rfl, hxz⟩
                go_wp2
                go_ret
                exact ⟨rfl, HXW.out.trans (HX12.out.trans (HXP.out.trans hxz))⟩

end Go.Proofs.Ythkalaohaholaaa
