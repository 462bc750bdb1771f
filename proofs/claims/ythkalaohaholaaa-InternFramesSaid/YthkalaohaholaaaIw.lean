/-
  The walk of the statement InternApart.
-/
import Derived.Test.YthkalaohaholaaaLg
import Derived.Test.YthkalaohaholaaaIu
import Derived.Test.YthkalaohaholaaaIv
set_option linter.unusedVariables false
set_option linter.unusedSimpArgs false
namespace Go.Proofs.Ythkalaohaholaaa
open Go.RowKit Go.Maps

theorem rtmay_k (v : Value) (t : Tb) (r : Bool) (w : World) (hr : t.may = r) (h : TabAt w v t) (hf : t.Fine) : Calls Try.prog 20 #[v] w fun e w' => e = .returned (.bool r) ∧ Ext w w' := hr ▸ rtmay_any v t w h hf
theorem rsmall_k (v : Value) (t : Tb) (r : Bool) (w : World) (hr : t.small = r) (h : TabAt w v t) (hi : TbIn t) : Calls Try.prog 8 #[v] w fun e w' => e = .returned (.bool r) ∧ Ext w w' := hr ▸ rsmall_any v t w h hi.ss hi.ks hi.text hi.len
theorem rfew_k (v : Value) (l : List (ByteArray × Int)) (r : Bool) (w : World) (hr : Tb.few l = r) (h : RowsAt 2 fcL w v l) (hn : l.length ≤ maxLen) (hz : ∀ f ∈ l, FcIn f) : Calls Try.prog 9 #[v] w fun e w' => e = .returned (.bool r) ∧ Ext w w' := hr ▸ (rfew_any v l w h hn fun f hf => (hz f hf).1).mono fun e w' h => ⟨h.1, h.2 ▸ Ext.refl w⟩
theorem rsametab_k (u v : Value) (a b : Tb) (r : Bool) (w : World) (hr : Tb.same a b = r) (h : TabAt w u a) (h' : TabAt w v b) (ha : a.Fine) (hb : b.Fine) : Calls Try.prog 21 #[u, v] w fun e w' => e = .returned (.bool r) ∧ Ext w w' := hr ▸ rsametab_any u v a b w h h' ha hb
theorem Tb.fine_of {t : Tb} (hi : TbIn t) (hs : t.small = true) : t.Fine := by
  obtain ⟨_, a, b, c⟩ := Tb.small_iff.1 hs
  exact ⟨by omega, by omega, fun l hl => by have := a l hl; omega, hi.nums⟩
theorem Tb.fine_may {t : Tb} (h : t.may = true) : t.Fine := by
  obtain ⟨a, b, _, _, c, _⟩ := Tb.may_iff.1 h
  refine ⟨by omega, by omega, fun l hl => by have := (Tb.mayK_iff.1 (c l hl)).2.1; omega, fun l hl f hf => ?_⟩
  have := (Tb.mayK_iff.1 (c l hl)).2.2 f hf
  unfold FrIn i64in
  omega
theorem Tb.few_sz {l : List (ByteArray × Int)} (h : Tb.few l = true) : ∀ f ∈ l, f.1.size ≤ maxLen := fun f hf => by have := (Tb.few_iff.1 h).1 f hf; unfold maxLen; omega
/-- The same, the number only. -/
theorem istr_q (v : Value) (t : Tb) (s : ByteArray) (w : World) (h : TabAt w v t) (hl : t.ss.length ≤ 100000) (hm' : t.ks.length ≤ 100000) (hs : s.size ≤ maxLen) : Calls Try.prog 11 #[v, .string s] w (TabQ (t.string s).1 (t.string s).2 w) := (istr_any v t s w h hl hm' hs).mono fun e w' h => TabP.q h
theorem istk_q (v u : Value) (t : Tb) (l : List (ByteArray × Int)) (w : World) (h : TabAt w v t) (hfr : RowsAt 2 fcL w u l) (hl : t.ss.length ≤ 100000) (hm' : t.ks.length ≤ 100000) (hll : l.length ≤ 100000) (hsz : ∀ f ∈ l, f.1.size ≤ maxLen) : Calls Try.prog 13 #[v, u] w (TabQ (t.stk l).1 (t.stk l).2 w) := (istk_any v u t l w h hfr hl hm' hll hsz).mono fun e w' h => TabP.q h
set_option maxRecDepth 100000 in
set_option maxHeartbeats 16000000 in
theorem walk_InternApart (v : Value) (t : Tb) (u : Value) (s : ByteArray) (l : List (ByteArray × Int)) (n : Int) (x : Value) (z : ByteArray) (m : List (ByteArray × Int)) (k : Int) (w : World) (ht : TabAt w v t) (hi : TbIn t) (ha : AskAt w u s l n) (hai : AskIn s l n) (hb : AskAt w x z m k) (hbi : AskIn z m k) :
    Calls Try.prog 5 #[v, u, x] w fun e w' => e = .returned (.bool true) ∧ Ext w w' := by
  obtain ⟨A, c, B, d, rfl, h1, h2⟩ := ht.two
  obtain ⟨C, q, rfl, hl⟩ := ha
  obtain ⟨D, r, rfl, hm⟩ := hb
  generalize ha : t.ss.length = a at *
  generalize hb : t.ks.length = b at *
  obtain ⟨wS, hw⟩ : ∃ wS, ((w.alloc (.cells #[.slice A a c, .slice B b d] 25)).alloc (.cells #[.string s, .slice C l.length q, .int .i64 n] 28)).alloc (.cells #[.string z, .slice D m.length r, .int .i64 k] 28) = wS := ⟨_, rfl⟩
  obtain ⟨p, hp⟩ : ∃ p, w.heap.size = p := ⟨_, rfl⟩
  have HXW : Hid (Ext w wS) := Lib.hid (by rw [← hw]; exact (((Ext.refl w).alloc _).alloc _).alloc _)
  have HBT : Hid (wS.heap[p]? = some (.cells #[.slice A a c, .slice B b d] 25 (0, 0))) := Lib.hid (by rw [← hw, ← hp]; exact blk_alloc (blk_alloc (blk_new w _) _) _)
  have HBX : Hid (wS.heap[p + 1]? = some (.cells #[.string s, .slice C l.length q, .int .i64 n] 28 (0, 0))) := Lib.hid (by
    rw [← hw]
    have := blk_new (w.alloc (.cells #[.slice A a c, .slice B b d] 25)) (.cells #[.string s, .slice C l.length q, .int .i64 n] 28)
    rw [show (w.alloc (.cells #[.slice A a c, .slice B b d] 25)).heap.size = p + 1 by simp [hp]] at this
    exact blk_alloc this _)
  have HBY : Hid (wS.heap[p + 2]? = some (.cells #[.string z, .slice D m.length r, .int .i64 k] 28 (0, 0))) := Lib.hid (by
    rw [← hw]
    have := blk_new ((w.alloc (.cells #[.slice A a c, .slice B b d] 25)).alloc (.cells #[.string s, .slice C l.length q, .int .i64 n] 28)) (.cells #[.string z, .slice D m.length r, .int .i64 k] 28)
    rw [show ((w.alloc (.cells #[.slice A a c, .slice B b d] 25)).alloc (.cells #[.string s, .slice C l.length q, .int .i64 n] 28)).heap.size = p + 2 by simp [hp]] at this
    exact this)
  have HC0 : Hid (∀ w', Ext wS w' → w'.cell? ⟨w.heap.size, 0, none⟩ = some (.slice A a c) ∧ w'.cell? ⟨w.heap.size, 1, none⟩ = some (.slice B b d) ∧ w'.cell? ⟨w.heap.size + 1, 0, none⟩ = some (.string s) ∧ w'.cell? ⟨w.heap.size + 1, 1, none⟩ = some (.slice C l.length q) ∧ w'.cell? ⟨w.heap.size + 2, 0, none⟩ = some (.string z) ∧ w'.cell? ⟨w.heap.size + 2, 1, none⟩ = some (.slice D m.length r)) := Lib.hid fun w' hx => by
    rw [hp]
    exact ⟨blk_cell (hx.blk HBT.out) 0 _ rfl, blk_cell (hx.blk HBT.out) 1 _ rfl, blk_cell (hx.blk HBX.out) 0 _ rfl, blk_cell (hx.blk HBX.out) 1 _ rfl, blk_cell (hx.blk HBY.out) 0 _ rfl, blk_cell (hx.blk HBY.out) 1 _ rfl⟩
  have HT := Lib.hid (ht.ext HXW.out)
  have HL := Lib.hid (hl.ext HXW.out)
  have HM := Lib.hid (hm.ext HXW.out)
  have HTI := Lib.hid hi
  have HAI := Lib.hid hai
  have HBI := Lib.hid hbi
  have HWS := Lib.hid hw
  have HAL := Lib.hid ha
  have HBL := Lib.hid hb
  clear ht hi hai hbi hl hm h1 h2 hw hp ha hb
  obtain ⟨t0, t1, x0, x1, y0, y1⟩ := HC0.out wS (Ext.refl _)
  go_enter Try.func5, Try.ntmps5
  go_wp2_with fail
  rw [HWS.out]
  refine (ifixed_yes _).mono ?_
  rintro e w1 ⟨rfl, hx1⟩
  have HX1 : Hid (Ext wS w1) := Lib.hid hx1
  clear hx1 t0 t1 x0 x1 y0 y1
  obtain ⟨t0, t1, x0, x1, y0, y1⟩ := HC0.out w1 HX1.out
  cases h1 : t.small with
  | false =>
    go_wp2_with fail
    refine (rsmall_k _ t _ _ h1 (HT.out.ext HX1.out) HTI.out).mono ?_
    rintro e w2 ⟨rfl, hx2⟩
    have HX2 : Hid (Ext wS w2) := Lib.hid (HX1.out.trans hx2)
    clear hx2 t0 t1 x0 x1 y0 y1
    obtain ⟨t0, t1, x0, x1, y0, y1⟩ := HC0.out w2 HX2.out
    go_wp2_with fail
    refine (ifixed_yes _).mono ?_
    rintro e w3 ⟨rfl, hx3⟩
    go_wp2
    go_ret
    exact ⟨rfl, HXW.out.trans (HX2.out.trans hx3)⟩
  | true =>
    go_wp2_with fail
    refine (rsmall_k _ t _ _ h1 (HT.out.ext HX1.out) HTI.out).mono ?_
    rintro e w2 ⟨rfl, hx2⟩
    have HX2 : Hid (Ext wS w2) := Lib.hid (HX1.out.trans hx2)
    clear hx2 t0 t1 x0 x1 y0 y1
    obtain ⟨t0, t1, x0, x1, y0, y1⟩ := HC0.out w2 HX2.out
    have HFN := Lib.hid (Tb.fine_of HTI.out h1)
    cases h2 : t.may with
    | false =>
      go_wp2_with fail
      refine (rtmay_k _ t _ _ h2 (HT.out.ext HX2.out) HFN.out).mono ?_
      rintro e w3 ⟨rfl, hx3⟩
      have HX3 : Hid (Ext wS w3) := Lib.hid (HX2.out.trans hx3)
      clear hx3 t0 t1 x0 x1 y0 y1
      obtain ⟨t0, t1, x0, x1, y0, y1⟩ := HC0.out w3 HX3.out
      go_wp2_with fail
      refine (ifixed_yes _).mono ?_
      rintro e w4 ⟨rfl, hx4⟩
      go_wp2
      go_ret
      exact ⟨rfl, HXW.out.trans (HX3.out.trans hx4)⟩
    | true =>
      go_wp2_with fail
      refine (rtmay_k _ t _ _ h2 (HT.out.ext HX2.out) HFN.out).mono ?_
      rintro e w3 ⟨rfl, hx3⟩
      have HX3 : Hid (Ext wS w3) := Lib.hid (HX2.out.trans hx3)
      clear hx3 t0 t1 x0 x1 y0 y1
      obtain ⟨t0, t1, x0, x1, y0, y1⟩ := HC0.out w3 HX3.out
      cases h3 : Tb.few l with
      | false =>
        go_wp2_with fail
        refine (rfew_k _ l _ _ h3 (HL.out.ext HX3.out) HAI.out.len HAI.out.frames).mono ?_
        rintro e w4 ⟨rfl, hx4⟩
        have HX4 : Hid (Ext wS w4) := Lib.hid (HX3.out.trans hx4)
        clear hx4 t0 t1 x0 x1 y0 y1
        obtain ⟨t0, t1, x0, x1, y0, y1⟩ := HC0.out w4 HX4.out
        go_wp2_with fail
        refine (ifixed_yes _).mono ?_
        rintro e w5 ⟨rfl, hx5⟩
        go_wp2
        go_ret
        exact ⟨rfl, HXW.out.trans (HX4.out.trans hx5)⟩
      | true =>
        go_wp2_with fail
        refine (rfew_k _ l _ _ h3 (HL.out.ext HX3.out) HAI.out.len HAI.out.frames).mono ?_
        rintro e w4 ⟨rfl, hx4⟩
        have HX4 : Hid (Ext wS w4) := Lib.hid (HX3.out.trans hx4)
        clear hx4 t0 t1 x0 x1 y0 y1
        obtain ⟨t0, t1, x0, x1, y0, y1⟩ := HC0.out w4 HX4.out
        cases h4 : Tb.few m with
        | false =>
          go_wp2_with fail
          refine (rfew_k _ m _ _ h4 (HM.out.ext HX4.out) HBI.out.len HBI.out.frames).mono ?_
          rintro e w5 ⟨rfl, hx5⟩
          have HX5 : Hid (Ext wS w5) := Lib.hid (HX4.out.trans hx5)
          clear hx5 t0 t1 x0 x1 y0 y1
          obtain ⟨t0, t1, x0, x1, y0, y1⟩ := HC0.out w5 HX5.out
          go_wp2_with fail
          refine (ifixed_yes _).mono ?_
          rintro e w6 ⟨rfl, hx6⟩
          go_wp2
          go_ret
          exact ⟨rfl, HXW.out.trans (HX5.out.trans hx6)⟩
        | true =>
          go_wp2_with fail
          refine (rfew_k _ m _ _ h4 (HM.out.ext HX4.out) HBI.out.len HBI.out.frames).mono ?_
          rintro e w5 ⟨rfl, hx5⟩
          have HX5 : Hid (Ext wS w5) := Lib.hid (HX4.out.trans hx5)
          clear hx5 t0 t1 x0 x1 y0 y1
          obtain ⟨t0, t1, x0, x1, y0, y1⟩ := HC0.out w5 HX5.out
          by_cases g5 : 1000 < s.size
          · have g5i : (1000 : Int) < ((s.size : Nat) : Int) := by omega
            go_wp2_with fail
            refine (ifixed_yes _).mono ?_
            rintro e w6 ⟨rfl, hx6⟩
            go_wp2
            go_ret
            exact ⟨rfl, HXW.out.trans (HX5.out.trans hx6)⟩
          have g5i : ¬ (1000 : Int) < ((s.size : Nat) : Int) := by omega
          by_cases g6 : 1000 < z.size
          · have g6i : (1000 : Int) < ((z.size : Nat) : Int) := by omega
            go_wp2_with fail
            refine (ifixed_yes _).mono ?_
            rintro e w6 ⟨rfl, hx6⟩
            go_wp2
            go_ret
            exact ⟨rfl, HXW.out.trans (HX5.out.trans hx6)⟩
          have g6i : ¬ (1000 : Int) < ((z.size : Nat) : Int) := by omega
          have HSM := Lib.hid (Tb.small_iff.1 h1)
          have HSP := Lib.hid (Tb.string_spec (s := s) h2 (by have := HSM.out.2.2.1; omega) (by omega))
          have HAP := Lib.hid (Tb.string_apart (x := s) (y := z) h2 (by have := HSM.out.2.2.1; omega) (by omega) (by omega))
          go_wp2_with fail
          refine (istr_q _ t s _ (HT.out.ext HX5.out) (by have := HSM.out.2.2.1; omega) (by have := HSM.out.2.2.2; omega) HAI.out.text).mono ?_
          rintro e v6 ⟨A6, k6, c6, B6, m6, d6, rfl, hk6, hm6, ht6, hx6⟩
          obtain ⟨w6, hu6⟩ : ∃ w6, v6.alloc (.cells #[.slice A6 k6 c6, .slice B6 m6 d6] 25) = w6 := ⟨_, rfl⟩
          obtain ⟨p6, hp6⟩ : ∃ p6, v6.heap.size = p6 := ⟨_, rfl⟩
          obtain ⟨n6, hn6⟩ : ∃ n6, (t.string s).2 = n6 := ⟨_, rfl⟩
          have HR6 : Hid (w6.heap[p6]? = some (.cells #[.slice A6 k6 c6, .slice B6 m6 d6] 25 (0, 0))) := Lib.hid (by rw [← hu6, ← hp6]; exact blk_new v6 _)
          have HY6 : Hid (Ext w5 w6) := Lib.hid (by rw [← hu6]; exact hx6.alloc _)
          have HX6 : Hid (Ext wS w6) := Lib.hid (HX5.out.trans HY6.out)
          have HT6 := Lib.hid (show TabAt w6 (.agg #[.slice A6 k6 c6, .slice B6 m6 d6]) _ from by rw [← hu6]; exact ht6.ext ((Ext.refl v6).alloc _))
          have HU6 := Lib.hid hu6
          have HP6 := Lib.hid hp6
          have HN6 := Lib.hid hn6
          have HK6 := Lib.hid hm6
          rw [hn6]
          clear hn6
          clear hx6 hu6 hp6 hk6 hm6 ht6 t0 t1 x0 x1 y0 y1
          obtain ⟨t0, t1, x0, x1, y0, y1⟩ := HC0.out w6 HX6.out
          have r6 : w6.cell? ⟨v6.heap.size, 0, none⟩ = some (.slice A6 k6 c6) := by rw [HP6.out]; exact blk_cell HR6.out 0 _ rfl
          have z6 : w6.cell? ⟨v6.heap.size, 1, none⟩ = some (.slice B6 m6 d6) := by rw [HP6.out]; exact blk_cell HR6.out 1 _ rfl
          go_wp2_with (rw [HU6.out])
          refine (istr_q _ (t.string s).1 z _ HT6.out (by have := HSP.out.2.2.2.1; have := HSM.out.2.2.1; omega) (by rw [HSP.out.2.1]; have := HSM.out.2.2.2; omega) HBI.out.text).mono ?_
          rintro e v7 ⟨A7, k7, c7, B7, m7, d7, rfl, hk7, hm7, ht7, hx7⟩
          obtain ⟨w7, hu7⟩ : ∃ w7, v7.alloc (.cells #[.slice A7 k7 c7, .slice B7 m7 d7] 25) = w7 := ⟨_, rfl⟩
          obtain ⟨p7, hp7⟩ : ∃ p7, v7.heap.size = p7 := ⟨_, rfl⟩
          obtain ⟨n7, hn7⟩ : ∃ n7, ((t.string s).1.string z).2 = n7 := ⟨_, rfl⟩
          have HR7 : Hid (w7.heap[p7]? = some (.cells #[.slice A7 k7 c7, .slice B7 m7 d7] 25 (0, 0))) := Lib.hid (by rw [← hu7, ← hp7]; exact blk_new v7 _)
          have HY7 : Hid (Ext w6 w7) := Lib.hid (by rw [← hu7]; exact hx7.alloc _)
          have HX7 : Hid (Ext wS w7) := Lib.hid (HX6.out.trans HY7.out)
          have HT7 := Lib.hid (show TabAt w7 (.agg #[.slice A7 k7 c7, .slice B7 m7 d7]) _ from by rw [← hu7]; exact ht7.ext ((Ext.refl v7).alloc _))
          have HU7 := Lib.hid hu7
          have HP7 := Lib.hid hp7
          have HN7 := Lib.hid hn7
          have HK7 := Lib.hid hm7
          rw [hn7]
          clear hn7
          clear hx7 hu7 hp7 hk7 hm7 ht7 t0 t1 x0 x1 y0 y1
          clear r6 z6
          obtain ⟨t0, t1, x0, x1, y0, y1⟩ := HC0.out w7 HX7.out
          have r7 : w7.cell? ⟨v7.heap.size, 0, none⟩ = some (.slice A7 k7 c7) := by rw [HP7.out]; exact blk_cell HR7.out 0 _ rfl
          have z7 : w7.cell? ⟨v7.heap.size, 1, none⟩ = some (.slice B7 m7 d7) := by rw [HP7.out]; exact blk_cell HR7.out 1 _ rfl
          have HE6_7 := Lib.hid (HY7.out)
          have HQ6_7 := Lib.hid (HY7.out.blk HR6.out)
          have r6 : w7.cell? ⟨v6.heap.size, 0, none⟩ = some (.slice A6 k6 c6) := by rw [HP6.out]; exact blk_cell HQ6_7.out 0 _ rfl
          have z6 : w7.cell? ⟨v6.heap.size, 1, none⟩ = some (.slice B6 m6 d6) := by rw [HP6.out]; exact blk_cell HQ6_7.out 1 _ rfl
          have hqq : (n6 == n7) = decide (s = z) := by
            rw [Bool.eq_iff_iff, beq_iff_eq, decide_eq_true_eq, ← HN6.out, ← HN7.out]; exact HAP.out
          have hss := toList_eq s z
          generalize decide (s = z) = bb at *
          clear r6 z6 r7 z7 HSP HAP
          have HBN : Hid ((bb != bb) = false) := Lib.hid (by cases bb <;> rfl)
          have hbn := HBN.out
          have HSL := Lib.hid (Tb.stk_len (t := t) (l := l) (by have := HSM.out.2.2.1; omega) (by have := HSM.out.2.2.2; omega))
          have HFL := Lib.hid (Tb.few_iff.1 h3)
          have HFM := Lib.hid (Tb.few_iff.1 h4)
          go_wp2_with (rw [HU7.out])
          refine (istk_q _ _ t l _ (HT.out.ext HX7.out) (HL.out.ext HX7.out) (by have := HSM.out.2.2.1; omega) (by have := HSM.out.2.2.2; omega) (by have := HFL.out.2; omega) (Tb.few_sz h3)).mono ?_
          rintro e v8 ⟨A8, k8, c8, B8, m8, d8, rfl, hk8, hm8, ht8, hx8⟩
          obtain ⟨w8, hu8⟩ : ∃ w8, v8.alloc (.cells #[.slice A8 k8 c8, .slice B8 m8 d8] 25) = w8 := ⟨_, rfl⟩
          obtain ⟨p8, hp8⟩ : ∃ p8, v8.heap.size = p8 := ⟨_, rfl⟩
          obtain ⟨n8, hn8⟩ : ∃ n8, (t.stk l).2 = n8 := ⟨_, rfl⟩
          have HR8 : Hid (w8.heap[p8]? = some (.cells #[.slice A8 k8 c8, .slice B8 m8 d8] 25 (0, 0))) := Lib.hid (by rw [← hu8, ← hp8]; exact blk_new v8 _)
          have HY8 : Hid (Ext w7 w8) := Lib.hid (by rw [← hu8]; exact hx8.alloc _)
          have HX8 : Hid (Ext wS w8) := Lib.hid (HX7.out.trans HY8.out)
          have HT8 := Lib.hid (show TabAt w8 (.agg #[.slice A8 k8 c8, .slice B8 m8 d8]) _ from by rw [← hu8]; exact ht8.ext ((Ext.refl v8).alloc _))
          have HU8 := Lib.hid hu8
          have HP8 := Lib.hid hp8
          have HN8 := Lib.hid hn8
          have HK8 := Lib.hid hm8
          rw [hn8]
          clear hn8
          clear hx8 hu8 hp8 hk8 hm8 ht8 t0 t1 x0 x1 y0 y1
          obtain ⟨t0, t1, x0, x1, y0, y1⟩ := HC0.out w8 HX8.out
          have r8 : w8.cell? ⟨v8.heap.size, 0, none⟩ = some (.slice A8 k8 c8) := by rw [HP8.out]; exact blk_cell HR8.out 0 _ rfl
          have z8 : w8.cell? ⟨v8.heap.size, 1, none⟩ = some (.slice B8 m8 d8) := by rw [HP8.out]; exact blk_cell HR8.out 1 _ rfl
          clear hqq hss HBN hbn HN6 HN7
          go_wp2_with (rw [HU8.out])
          refine (istk_q _ _ (t.stk l).1 m _ HT8.out (HM.out.ext HX8.out) (by have := HSL.out.1; omega) (by have := HSL.out.2; omega) (by have := HFM.out.2; omega) (Tb.few_sz h4)).mono ?_
          rintro e v9 ⟨A9, k9, c9, B9, m9, d9, rfl, hk9, hm9, ht9, hx9⟩
          obtain ⟨w9, hu9⟩ : ∃ w9, v9.alloc (.cells #[.slice A9 k9 c9, .slice B9 m9 d9] 25) = w9 := ⟨_, rfl⟩
          obtain ⟨p9, hp9⟩ : ∃ p9, v9.heap.size = p9 := ⟨_, rfl⟩
          obtain ⟨n9, hn9⟩ : ∃ n9, ((t.stk l).1.stk m).2 = n9 := ⟨_, rfl⟩
          have HR9 : Hid (w9.heap[p9]? = some (.cells #[.slice A9 k9 c9, .slice B9 m9 d9] 25 (0, 0))) := Lib.hid (by rw [← hu9, ← hp9]; exact blk_new v9 _)
          have HY9 : Hid (Ext w8 w9) := Lib.hid (by rw [← hu9]; exact hx9.alloc _)
          have HX9 : Hid (Ext wS w9) := Lib.hid (HX8.out.trans HY9.out)
          have HT9 := Lib.hid (show TabAt w9 (.agg #[.slice A9 k9 c9, .slice B9 m9 d9]) _ from by rw [← hu9]; exact ht9.ext ((Ext.refl v9).alloc _))
          have HU9 := Lib.hid hu9
          have HP9 := Lib.hid hp9
          have HN9 := Lib.hid hn9
          have HK9 := Lib.hid hm9
          rw [hn9]
          clear hn9
          clear hx9 hu9 hp9 hk9 hm9 ht9 t0 t1 x0 x1 y0 y1
          clear r8 z8
          obtain ⟨t0, t1, x0, x1, y0, y1⟩ := HC0.out w9 HX9.out
          have r9 : w9.cell? ⟨v9.heap.size, 0, none⟩ = some (.slice A9 k9 c9) := by rw [HP9.out]; exact blk_cell HR9.out 0 _ rfl
          have z9 : w9.cell? ⟨v9.heap.size, 1, none⟩ = some (.slice B9 m9 d9) := by rw [HP9.out]; exact blk_cell HR9.out 1 _ rfl
          have HE8_9 := Lib.hid (HY9.out)
          have HQ8_9 := Lib.hid (HY9.out.blk HR8.out)
          have r8 : w9.cell? ⟨v8.heap.size, 0, none⟩ = some (.slice A8 k8 c8) := by rw [HP8.out]; exact blk_cell HQ8_9.out 0 _ rfl
          have z8 : w9.cell? ⟨v8.heap.size, 1, none⟩ = some (.slice B8 m8 d8) := by rw [HP8.out]; exact blk_cell HQ8_9.out 1 _ rfl
          by_cases e8 : n8 = 0
          · subst e8
            go_wp2_with (rw [HU9.out])
            go_ret
            exact ⟨rfl, HXW.out.trans HX9.out⟩
          by_cases e9 : n9 = 0
          · subst e9
            have f8 : (n8 == 0) = false := by simpa using e8
            go_wp2_with (rw [HU9.out])
            go_ret
            exact ⟨rfl, HXW.out.trans HX9.out⟩
          have f8 : (n8 == 0) = false := by simpa using e8
          have f9 : (n9 == 0) = false := by simpa using e9
          by_cases e7 : m9 < 1
          · have f7 : (m9 : Int) < 1 := by omega
            go_wp2_with (rw [HU9.out])
            go_ret
            exact ⟨rfl, HXW.out.trans HX9.out⟩
          have f7 : ¬ (m9 : Int) < 1 := by omega
          have hqq : (n8 == n9) = decide (l = m) := by
            rw [Bool.eq_iff_iff, beq_iff_eq, decide_eq_true_eq, ← HN8.out, ← HN9.out]
            exact Tb.stk_apart (by rw [HN8.out]; exact e8) (by rw [HN9.out]; exact e9)
          have HSF := Lib.hid (rsamefr_any _ _ l m w9 (HL.out.ext HX9.out) (HM.out.ext HX9.out) HAI.out.frames HBI.out.frames (by have := HFL.out.2; omega))
          generalize decide (l = m) = bb at *
          go_wp2_with (rw [HU9.out])
          refine HSF.out.mono ?_
          rintro e wz ⟨rfl, hxz⟩
          have hbb : (bb == bb) = true := by cases bb <;> rfl
          go_wp2
          go_ret
          exact ⟨by first | rfl | (rw [hbb] <;> rfl), HXW.out.trans (HX9.out.trans hxz)⟩

end Go.Proofs.Ythkalaohaholaaa
