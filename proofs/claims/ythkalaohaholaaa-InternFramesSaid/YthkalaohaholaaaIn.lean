/-
  The contract of intern's Stack.
-/
import Derived.Test.YthkalaohaholaaaIm
set_option linter.unusedVariables false
set_option linter.unusedSimpArgs false
namespace Go.Proofs.Ythkalaohaholaaa
open Go.RowKit Go.Maps

/-- The first frames of a row are told. -/
def FrRow (cs : Array Value) (n k : Nat) (fs : List (Int × Int)) : Prop := cs.size = n * 2 ∧ fs.length = k ∧ ∀ (j : Nat) (f : Int × Int), fs[j]? = some f → cs[j * 2]? = some (.int .i64 f.1) ∧ cs[j * 2 + 1]? = some (.int .i64 f.2)
theorem FrRow.next {cs : Array Value} {n k : Nat} {fs : List (Int × Int)} (h : FrRow cs n k fs) (hk : k < n) (x y : Int) : FrRow ((cs.setIfInBounds (k * 2) (.int .i64 x)).setIfInBounds (k * 2 + 1) (.int .i64 y)) n (k + 1) (fs ++ [(x, y)]) := by
  obtain ⟨h1, h2, h3⟩ := h
  refine ⟨by simp [h1], by simp [h2], fun j f hj => ?_⟩
  by_cases hlt : j < fs.length
  · rw [List.getElem?_append_left hlt] at hj
    obtain ⟨a, b⟩ := h3 j f hj
    rw [Array.getElem?_setIfInBounds_ne (by omega), Array.getElem?_setIfInBounds_ne (by omega), Array.getElem?_setIfInBounds_ne (by omega), Array.getElem?_setIfInBounds_ne (by omega)]
    exact ⟨a, b⟩
  · have hjk : j = k := by have := (List.getElem?_eq_some_iff.1 hj).1; simp at this; omega
    subst hjk
    rw [List.getElem?_append_right (by omega), h2, Nat.sub_self] at hj
    simp only [List.getElem?_cons_zero, Option.some.injEq] at hj
    subst hj
    refine ⟨?_, ?_⟩
    · rw [Array.getElem?_setIfInBounds_ne (by omega), Array.getElem?_setIfInBounds_self, if_pos (by omega)]
    · rw [Array.getElem?_setIfInBounds_self, if_pos (by simp; omega)]
theorem FrRow.rows {cs : Array Value} {n : Nat} {fs : List (Int × Int)} (h : FrRow cs n n fs) {w : World} {F S : Nat} (hw : w.heap[F]? = some (.cells cs 54 (0, 0))) (hS : S ≤ F) : RowsIn S w.heap.size 2 frL w (.slice (some ⟨F, 0, none⟩) n n) fs := by
  obtain ⟨h1, h2, h3⟩ := h
  refine ⟨_, n, by rw [h2], by omega, fun _ => ⟨F, 0, rfl, hS, blk_lt hw, blk_lt hw, fun j f hj i u hu => ?_⟩⟩
  obtain ⟨a, b⟩ := h3 j f hj
  rw [Nat.zero_add]
  match i, hu with
  | 0, hu => simp [frL] at hu; subst hu; exact blk_cell hw _ _ (by simpa using a)
  | 1, hu => simp [frL] at hu; subst hu; exact blk_cell hw _ _ b
  | i + 2, hu => simp [frL] at hu
theorem fcs_get {w : World} {A : Option Addr} {n c : Nat} {l : List (ByteArray × Int)} (h : RowsAt 2 fcL w (.slice A n c) l) {k : Nat} {f : ByteArray × Int} (hk : l[k]? = some f) : ∃ b o, A = some ⟨b, o, none⟩ ∧ b < w.heap.size ∧ w.cell? ⟨b, o + k * 2, none⟩ = some (.string f.1) ∧ w.cell? ⟨b, o + k * 2 + 1, none⟩ = some (.int .i64 f.2) := by
  have hl := (List.getElem?_eq_some_iff.1 hk).1
  obtain ⟨b, o, hA, hb, hc⟩ := h.cell (by omega)
  exact ⟨b, o, hA, hb, by have := hc k f hk 0 _ rfl; rwa [Nat.add_zero] at this, hc k f hk 1 _ rfl⟩
set_option maxRecDepth 100000 in
set_option maxHeartbeats 16000000 in
theorem istk_any (v u : Value) (t : Tb) (l : List (ByteArray × Int)) (w : World) (h : TabAt w v t) (hfr : RowsAt 2 fcL w u l) (hl : t.ss.length ≤ 100000) (hm' : t.ks.length ≤ 100000) (hll : l.length ≤ 100000) (hsz : ∀ f ∈ l, f.1.size ≤ maxLen) :
    Calls Try.prog 13 #[v, u] w (TabP (t.stk l) w) := by
  obtain ⟨A, c, B, d, rfl, h1, h2⟩ := h.two
  obtain ⟨C, q, rfl, hq⟩ := hfr.form
  obtain ⟨w1, hw1⟩ : ∃ w1, (w.alloc (.cells #[.slice A t.ss.length c, .slice B t.ks.length d] 25)).alloc (.cells #[.slice none 0 0, .slice none 0 0] 25) = w1 := ⟨_, rfl⟩
  have HX1 : Hid (Ext w w1) := Lib.hid (by rw [← hw1]; exact ((Ext.refl w).alloc _).alloc _)
  have HB1 : Hid (w1.heap[w.heap.size]? = some (.cells #[.slice A t.ss.length c, .slice B t.ks.length d] 25)) := Lib.hid (by rw [← hw1]; exact blk_alloc (blk_new w _) _)
  have HR1 : Hid (w1.heap[w.heap.size + 1]? = some (.cells #[.slice none 0 0, .slice none 0 0] 25)) := Lib.hid (by
    have := blk_new (w.alloc (.cells #[.slice A t.ss.length c, .slice B t.ks.length d] 25)) (.cells #[.slice none 0 0, .slice none 0 0] 25)
    rw [hw1] at this
    simpa using this)
  have HO := Lib.hid (open_any _ _ t _ (h1.ext HX1.out) (h2.ext HX1.out) hl hm')
  have H1 := Lib.hid h1
  have H2 := Lib.hid h2
  have HFR := Lib.hid hfr
  have HSZ := Lib.hid hsz
  have HW1 := Lib.hid hw1
  have b0 := blk_cell HB1.out 0 _ rfl
  have b1 := blk_cell HB1.out 1 _ rfl
  clear h h1 h2 hw1 hfr hsz
  have HNONE : Hid (∀ w2, Ext w w2 → w2.heap[w.heap.size + 1]? = some (.cells #[.slice none 0 0, .slice none 0 0] 25) → t.stk l = (Tb.none, 0) → TabP (t.stk l) w (.returned (.tuple #[.agg #[.slice none 0 0, .slice none 0 0], .int .i64 0])) ((w2.setCell ⟨w.heap.size + 1, 0, none⟩ (.slice none 0 0)).setCell ⟨w.heap.size + 1, 1, none⟩ (.slice none 0 0))) := Lib.hid fun w2 hx hr ht => by
    rw [ht]
    exact tabP_none (hx.upd (upd2 _ _ _ _) (by omega))
  cases hm : t.may with
  | false =>
    have HT : Hid (t.stk l = (Tb.none, 0)) := Lib.hid (by unfold Tb.stk; rw [if_neg (by rw [hm]; simp)])
    go_enter Try.func13, Try.ntmps13
    go_wp2_with fail
    rw [HW1.out]
    refine HO.out.mono ?_
    rintro e w2 ⟨hx, hif⟩
    rw [hm] at hif
    obtain rfl := (show e = .returned (.tuple #[.agg #[.slice none 0 0, .slice none 0 0, .map none, .map none], .bool false]) by simpa using hif)
    have HX2 := Lib.hid (HX1.out.trans hx)
    have HR2 := Lib.hid ((hx.alloc (.cells #[.slice none 0 0, .slice none 0 0, .map none, .map none] 50)).blk HR1.out)
    clear hif hx b0 b1
    have q0 := blk_cell HR2.out 0 _ rfl
    have q1 := blk_cell HR2.out 1 _ rfl
    have y0 := frozen_of_row _ _ 0 _ _ HR2.out
    have y1 := frozen_of_row _ _ 1 _ _ HR2.out
    go_wp2
    have hz := set2_at HR2.out (.slice none 0 0) (.slice none 0 0)
    have t0 := blk_cell hz 0 _ rfl
    have t1 := blk_cell hz 1 _ rfl
    refine bodyPost_ret (v := .tuple #[.agg #[.slice none 0 0, .slice none 0 0], .int .i64 0]) (by simp [results, Try.results13, go_sem, t0, t1]) rfl ?_
    exact HNONE.out _ (HX2.out.alloc _) HR2.out HT.out
  | true =>
    obtain ⟨hl1, hl2⟩ := Tb.may_len hm
    have HLK := Lib.hid (Tb.may_stk hm)
    have HOKS : Hid (Tb.okS t.ss = true) := Lib.hid (by have := hm; unfold Tb.may at this; simp only [Bool.and_eq_true] at this; exact this.1.2)
    go_enter Try.func13, Try.ntmps13
    go_wp2_with fail
    rw [HW1.out]
    refine HO.out.mono ?_
    rintro e w2 ⟨hx, hif⟩
    rw [hm, if_pos rfl] at hif
    obtain ⟨tb, kb, rfl, htb, hkb, htk, hmt, hmk⟩ := hif
    obtain ⟨w3, hw3⟩ : ∃ w3, w2.alloc (.cells #[.slice A t.ss.length c, .slice B t.ks.length d, .map (some tb), .map (some kb)] 50) = w3 := ⟨_, rfl⟩
    obtain ⟨g, hg⟩ : ∃ g, w2.heap.size = g := ⟨_, rfl⟩
    have hx23 : Ext w2 w3 := by rw [← hw3]; exact (Ext.refl w2).alloc _
    have HX3 := Lib.hid (HX1.out.trans (hx.trans hx23))
    have hbk : w3.heap[g]? = some (.cells (bookV (.slice A t.ss.length c) (.slice B t.ks.length d) tb kb) 50 (0, 0)) := by rw [← hw3, ← hg]; exact blk_new w2 _
    have HBK := Lib.hid hbk
    have HR3 := Lib.hid ((hx.trans hx23).blk HR1.out)
    have HMT := Lib.hid (hmt.ext hx23)
    have HMK := Lib.hid (hmk.ext hx23)
    have HOWN := Lib.hid (own_any g tb kb _ _ t w3 hbk (H1.out.ext HX3.out) (H2.out.ext HX3.out) hl hm' (fun l hl => by have := HLK.out l hl; omega))
    have HG3 : Hid (w2.heap.size = g ∧ tb < g ∧ kb < g ∧ w1.heap.size ≤ tb ∧ w1.heap.size ≤ kb ∧ w1.heap.size ≤ g) := Lib.hid ⟨hg, by have := hmt.lt; omega, by have := hmk.lt; omega, htb, hkb, by have := hx.size; omega⟩
    have HW3 := Lib.hid hw3
    clear hx hx23 hbk hmt hmk hw3 hg b0 b1 HO
    by_cases h100 : 100 < l.length
    · have HT : Hid (t.stk l = (Tb.none, 0)) := Lib.hid (by unfold Tb.stk; rw [if_neg (by omega)])
      have h100' : (100 : Int) < (l.length : Int) := by omega
      have q0 := blk_cell HR3.out 0 _ rfl
      have q1 := blk_cell HR3.out 1 _ rfl
      have y0 := frozen_of_row _ _ 0 _ _ HR3.out
      have y1 := frozen_of_row _ _ 1 _ _ HR3.out
      go_wp2_with (rw [HW3.out])
      (have hz := set2_at HR3.out (.slice none 0 0) (.slice none 0 0); have t0 := blk_cell hz 0 _ rfl; have t1 := blk_cell hz 1 _ rfl; refine bodyPost_ret (v := (.tuple #[.agg #[.slice none 0 0, .slice none 0 0], .int .i64 0])) (by simp [results, Try.results13, go_sem, t0, t1]) rfl ?_; exact HNONE.out _ HX3.out HR3.out HT.out)
    · have h100' : (l.length : Int) ≤ 100 := by omega
      have HDE : Hid (l = [] → t.stk l = (t, 0)) := Lib.hid fun h => by unfold Tb.stk; rw [if_pos ⟨hm, by omega⟩, if_pos h]
      have HDN : Hid (¬ l = [] → Tb.lay t.ss l = Option.none → t.stk l = (Tb.none, 0)) := Lib.hid fun h h2 => by unfold Tb.stk; rw [if_pos ⟨hm, by omega⟩, if_neg h, h2]
      have HDS : Hid (¬ l = [] → ∀ ss fs, Tb.lay t.ss l = some (ss, fs) → t.stk l = if Tb.mayK ss.length fs = true then (if fs ∈ t.ks then (⟨ss, t.ks⟩, Tb.idx t.ks fs) else if t.ks.length = 10000 then (Tb.none, 0) else (⟨ss, t.ks ++ [fs]⟩, (t.ks.length : Int) + 1)) else (Tb.none, 0)) := Lib.hid fun h ss fs h2 => by unfold Tb.stk; rw [if_pos ⟨hm, by omega⟩, if_neg h, h2]
      go_wp2_with fail
      rw [HW3.out, HG3.out.1]
      refine HOWN.out.mono ?_
      rintro e w4 ⟨rfl, S, sv', kv', hS1, hS2, hrow, hown, hnest, hu⟩
      obtain ⟨A', c', rfl, hc'⟩ := (OwnRows.rows strL_len hown).form
      obtain ⟨B', d', rfl, hd'⟩ := hnest.nest.form
      have hgw := blk_lt HBK.out
      obtain ⟨G1, G2, G3, G4, G5, G6⟩ := HG3.out
      have hw1 : w.heap.size + 1 < w1.heap.size := blk_lt HR1.out
      have HBS : Hid (BookS w4 g tb kb S t.ss (.slice A' t.ss.length c') (.slice B' t.ks.length d')) := Lib.hid ⟨hrow, hown, HMT.out.upd hu (by omega), by omega, by omega, by omega, hS2⟩
      have HN4 := Lib.hid hnest
      have HX4 : Hid (Ext w w4) := Lib.hid (HX3.out.upd hu (by have := HX1.out.size; omega))
      have HR4 : Hid (w4.heap[w.heap.size + 1]? = some (.cells #[.slice none 0 0, .slice none 0 0] 25)) := Lib.hid (hu.blk HR3.out (by omega))
      have HM4 : Hid (MapQ stackKind intKind 0 w4 kb t.ks.length (Tb.idx t.ks)) := Lib.hid (HMK.out.upd hu (by omega))
      have HS1 := Lib.hid hS1
      have HS2 := Lib.hid hS2
      have HTK := Lib.hid htk
      obtain ⟨m, hmm⟩ : ∃ m, w3.heap.size = m := ⟨_, rfl⟩
      rw [hmm] at HN4 HS1 hgw
      clear hS1 hS2 hown hnest hu HOWN htk hmm
      have q0 := blk_cell HR4.out 0 _ rfl
      have q1 := blk_cell HR4.out 1 _ rfl
      have y0 := frozen_of_row _ _ 0 _ _ HR4.out
      have y1 := frozen_of_row _ _ 1 _ _ HR4.out
      obtain ⟨b0, b1, b2, b3⟩ := cells4 hrow
      clear hrow
      by_cases he : l = []
      · subst he
        have HT : Hid (t.stk [] = (t, 0)) := Lib.hid (HDE.out rfl)
        simp only [List.length_nil, Int.natCast_zero] at *
        go_wp2
        have hz := set2_at HR4.out (.slice A' t.ss.length c') (.slice B' t.ks.length d')
        have t0 := blk_cell hz 0 _ rfl
        have t1 := blk_cell hz 1 _ rfl
        have hux := upd2 (w.heap.size + 1) w4 (.slice A' t.ss.length c') (.slice B' t.ks.length d')
        refine bodyPost_ret (v := .tuple #[.agg #[.slice A' t.ss.length c', .slice B' t.ks.length d'], .int .i64 0]) (by simp [results, Try.results13, go_sem, t0, t1]) rfl ?_
        rw [HT.out]
        have hb : But (fun i => i = w.heap.size + 1) w4 _ := But.upd hux rfl
        exact tabP_ret (r := (t, 0)) _ _ _ (g + 1) (by omega) (((OwnRows.rowsIn strL_len HBS.out.own).but hb fun b h1 _ h2 => by have := HS1.out; omega).mono (by have := HBS.out.gS; omega) hb.size) ((HN4.out.but hb (fun b h1 _ h2 => by omega) HS1.out).nestIn hgw (Nat.le_trans HBS.out.sz hb.size) HS1.out (Ext.refl _)).1 (HX4.out.upd hux (by omega)) rfl
      · have hpos : 0 < l.length := List.length_pos_iff.2 he
        have hz0 : ((l.length : Int) == 0) = false := by simp; omega
        obtain ⟨i0, I0, I1, I2, I3⟩ := info_parts Try.infoFrame
        have hmk : (Instr.makeSlice 46 (.int .i64 (l.length : Int)) (.int .i64 (l.length : Int))).run Try.prog w4 = .ok (.slice (some ⟨w4.heap.size, 0, none⟩) l.length l.length) (w4.alloc (.cells (madeCells #[.int .i64 0, .int .i64 0] (l.length * 2)) 54)) := by
          have := run_make (P := Try.prog) w4 46 54 i0 (.agg #[.int .i64 0, .int .i64 0]) Try.underlying46 I0 I1 .i64 .i64 (l.length : Int) (l.length : Int) (by omega) (by omega) (by rw [I3]; omega) (by omega)
          rw [I2] at this
          simp only [Int.toNat_natCast] at this
          exact this
        obtain ⟨w5, hw5⟩ : ∃ w5, w4.alloc (.cells (madeCells #[.int .i64 0, .int .i64 0] (l.length * 2)) 54) = w5 := ⟨_, rfl⟩
        have hx5 : Ext w4 w5 := by rw [← hw5]; exact (Ext.refl w4).alloc _
        have hq5 : w5.heap[w4.heap.size]? = some (.cells (madeCells #[.int .i64 0, .int .i64 0] (l.length * 2)) 54 (0, 0)) := by rw [← hw5]; exact blk_new w4 _
        have hsz5 : (madeCells #[.int .i64 0, .int .i64 0] (l.length * 2)).size = l.length * 2 := by simp [size_madeCells]
        generalize madeCells #[.int .i64 0, .int .i64 0] (l.length * 2) = cs0 at *
        rw [hw5] at hmk
        obtain ⟨F, hF⟩ : ∃ F, w4.heap.size = F := ⟨_, rfl⟩
        rw [hF] at hq5 hmk
        have HQ5 := Lib.hid hq5
        have HZ5 := Lib.hid hsz5
        have HX5 := Lib.hid hx5
        have HF := Lib.hid hF
        have HB5 : Hid (BookS w5 g tb kb S t.ss (.slice A' t.ss.length c') (.slice B' t.ks.length d')) := Lib.hid ⟨hx5.blk HBS.out.row, OwnRows.ext HBS.out.own hx5, HBS.out.map.ext hx5, HBS.out.gS, HBS.out.tS, HBS.out.ne, Nat.le_trans HBS.out.sz hx5.size⟩
        have hSF : S ≤ F := by have := HS2.out; omega
        have hown5 : (Value.slice A' t.ss.length c').ownBlock ≠ some F := fun e => by have := (OwnRows.lt HBS.out.own F e).2; omega
        have HOF := Lib.hid hown5
        clear hw5 hsz5 hq5 hF hx5 I0 I1 I2 I3 q0 q1 y0 y1 b0 b1 b2 b3 hown5
        go_wp2_with fail
        go_loopw [37] (fun iv wr => ∃ k : Nat, k ≤ l.length ∧ iv = .int .i64 k ∧ ∃ ss fs cs sv, Tb.lay t.ss (l.take k) = some (ss, fs) ∧ Tb.okS ss = true ∧ ss.length ≤ 10000 ∧ BookS wr g tb kb S ss sv (.slice B' t.ks.length d') ∧ FrRow cs l.length k fs ∧ wr.heap[F]? = some (.cells cs 54 (0, 0)) ∧ sv.ownBlock ≠ some F ∧ But (Turns g tb S) w5 wr) (fun iv _ => l.length - (intOf iv).toNat)
        case atStart => exact ⟨0, by omega, rfl, t.ss, [], cs0, _, rfl, HOKS.out, hl1, HB5.out, ⟨HZ5.out, rfl, fun j f h => by simp at h⟩, HQ5.out, HOF.out, But.refl _ _⟩
        case round =>
          obtain ⟨k, hk, rfl, ss, fs, cs, sv, hlay, hoks, hsl, hbs, hfr, hqF, hnF, hbut⟩ := hrel
          have HLAY := Lib.hid hlay
          have HOK := Lib.hid hoks
          have HBR := Lib.hid hbs
          have HFRR := Lib.hid hfr
          have HQF := Lib.hid hqF
          have HNF := Lib.hid hnF
          have HBUT := Lib.hid hbut
          obtain ⟨As, cs', rfl, hcs'⟩ := (OwnRows.rows strL_len hbs.own).form
          have hzr := hbut.size
          have hzF := blk_lt hqF
          clear hlay hoks hbs hfr hqF hnF hbut hmk
          by_cases hlt : k < l.length
          · obtain ⟨f, hf⟩ : ∃ f, l[k]? = some f := ⟨_, List.getElem?_eq_getElem hlt⟩
            have hff : l[k] = f := (List.getElem?_eq_some_iff.1 hf).2
            have hfsz := HSZ.out f (List.mem_of_getElem? hf)
            have HLN : Hid (Tb.lay t.ss (l.take (k + 1)) = Tb.layStep (some (ss, fs)) f) := Lib.hid (by rw [List.take_succ_eq_append_getElem hlt, hff, Tb.lay_snoc, HLAY.out])
            obtain ⟨bf, of, rfl, hbf, a0, a1⟩ := fcs_get HFR.out hf
            obtain ⟨s, ln⟩ := f
            simp only at hfsz a0 a1
            have hx5w := HX4.out.trans HX5.out
            have hw5 := HX5.out.size
            have hw4 := HX4.out.size
            have hnt : ¬ Turns g tb S bf := fun h => by
              rcases h with h | h | h
              · omega
              · omega
              · have := HS1.out; have := HX1.out.size; omega
            have c0 : wr.cell? ⟨bf, of + k * 2, none⟩ = some (.string s) := (HBUT.out.cell (by omega) hnt).trans ((Below.cell hx5w hbf).trans a0)
            have c1 : wr.cell? ⟨bf, of + k * 2 + 1, none⟩ = some (.int .i64 ln) := (HBUT.out.cell (by omega) hnt).trans ((Below.cell hx5w hbf).trans a1)
            obtain ⟨w6, hw6⟩ : ∃ w6, wr.alloc (.cells #[.string s, .int .i64 ln] 45) = w6 := ⟨_, rfl⟩
            obtain ⟨n, hn⟩ : ∃ n, wr.heap.size = n := ⟨_, rfl⟩
            have hx6 : Ext wr w6 := by rw [← hw6]; exact (Ext.refl wr).alloc _
            have hq6 : w6.heap[n]? = some (.cells #[.string s, .int .i64 ln] 45 (0, 0)) := by rw [← hw6, ← hn]; exact blk_new wr _
            have HQ6 := Lib.hid hq6
            have HX6 := Lib.hid hx6
            have HF6 : Hid (w6.heap[F]? = _) := Lib.hid (hx6.blk HQF.out)
            have HB6 : Hid (BookS w6 g tb kb S ss (.slice As ss.length cs') (.slice B' t.ks.length d')) := Lib.hid ⟨hx6.blk HBR.out.row, OwnRows.ext HBR.out.own hx6, HBR.out.map.ext hx6, HBR.out.gS, HBR.out.tS, HBR.out.ne, Nat.le_trans HBR.out.sz hx6.size⟩
            have HNN : Hid ((Value.slice As ss.length cs').ownBlock ≠ some n) := Lib.hid fun e => by have := (OwnRows.lt HBR.out.own n e).2; omega
            have HTX : Hid (Calls _ _ _ _ _) := Lib.hid (itext_any g tb kb S ss s _ _ w6 HB6.out hsl hfsz)
            have HW6 := Lib.hid hw6
            have HN6 := Lib.hid hn
            have q0 := blk_cell HQ6.out 0 _ rfl
            have HTO := Lib.hid (Tb.text_ok (s := s) HOK.out hsl)
            have hSn : S ≤ n := by have := HBR.out.sz; omega
            clear hx6 hq6 hw6 hff hf a0 a1 hnt hx5w hw4
            go_wp2_with fail
            rw [HW6.out]
            refine HTX.out.mono ?_
            rintro e w7 ⟨rfl, sv7, hb7, hbt7, hfar7⟩
            obtain ⟨A7, c7, rfl, hc7⟩ := (OwnRows.rows strL_len hb7.own).form
            have hF7 := hfar7 F (by have := blk_lt HF6.out; omega) (by have := HBR.out.gS; omega) (by have := HBR.out.tS; omega) HNF.out
            have hn7 := hfar7 n (blk_lt HQ6.out) (by have := HBR.out.gS; omega) (by have := HBR.out.tS; omega) HNN.out
            have HB7 := Lib.hid hb7
            have HQ7 : Hid (w7.heap[n]? = _) := Lib.hid (hn7.1.trans HQ6.out)
            have HF7 : Hid (w7.heap[F]? = some (.cells cs 54 (0, 0))) := Lib.hid (hF7.1.trans HF6.out)
            have HO7 := Lib.hid hF7.2
            have HT7 : Hid (But (Turns g tb S) w5 w7) := Lib.hid ((HBUT.out.trans (But.ext HX6.out)).trans hbt7)
            clear hb7 hbt7 hfar7 hF7 hn7 q0 c0 c1 HTX
            have q1 : w7.cell? ⟨wr.heap.size, 1, none⟩ = some (.int .i64 ln) := by rw [HN6.out]; exact blk_cell HQ7.out 1 _ rfl
            have q1n : w7.cell? ⟨n, 1, none⟩ = some (.int .i64 ln) := blk_cell HQ7.out 1 _ rfl
            obtain ⟨id, hid⟩ : ∃ id, (Tb.text ss s).2 = id := ⟨_, rfl⟩
            have HID := Lib.hid hid
            rw [hid]
            by_cases h0 : id = 0
            · subst h0
              have HT : Hid (t.stk l = (Tb.none, 0)) := Lib.hid (HDN.out he (Tb.lay_take (k := k + 1) (by rw [HLN.out]; simp [Tb.layStep, HID.out])))
              have HX7 : Hid (Ext w w7) := Lib.hid (But.after (HX4.out.trans HX5.out) HT7.out fun i hi => by
                rcases hi with hi | hi | hi
                · have := HX1.out.size; omega
                · have := HX1.out.size; omega
                · have := HS1.out; have := HX1.out.size; omega)
              have HR7 : Hid (w7.heap[w.heap.size + 1]? = some (.cells #[.slice none 0 0, .slice none 0 0] 25)) := Lib.hid (HT7.out.blk (HX5.out.blk HR4.out) fun hi => by
                rcases hi with hi | hi | hi
                · omega
                · omega
                · have := HS1.out; omega)
              have q0 := blk_cell HR7.out 0 _ rfl
              have q2 := blk_cell HR7.out 1 _ rfl
              have y0 := frozen_of_row _ _ 0 _ _ HR7.out
              have y1 := frozen_of_row _ _ 1 _ _ HR7.out
              go_wp2
              (have hz := set2_at HR7.out (.slice none 0 0) (.slice none 0 0); have t0 := blk_cell hz 0 _ rfl; have t1 := blk_cell hz 1 _ rfl; refine bodyPost_ret (v := (.tuple #[.agg #[.slice none 0 0, .slice none 0 0], .int .i64 0])) (by simp [results, Try.results13, go_sem, t0, t1]) rfl ?_; exact HNONE.out _ HX7.out HR7.out HT.out)
            · have hz7 : (id == 0) = false := by simpa using h0
              have hkF : k * 2 < cs.size ∧ k * 2 + 1 < cs.size := by have := HFRR.out.1; omega
              have p0 := blk_cell HF7.out (k * 2) _ (Array.getElem?_eq_getElem hkF.1)
              have p1 := blk_cell HF7.out (k * 2 + 1) _ (Array.getElem?_eq_getElem hkF.2)
              have y0 := frozen_of_row _ _ (k * 2) _ _ HF7.out
              have y1 := frozen_of_row _ _ (k * 2 + 1) _ _ HF7.out
              go_wp2
              go_roundw
              case rel =>
                have hub := ((Upd.refl F w7).set (k * 2) (.int .i64 id)).set (k * 2 + 1) (.int .i64 ln)
                refine ⟨k + 1, by omega, by go_num, (Tb.text ss s).1, fs ++ [(id, ln)], (cs.setIfInBounds (k * 2) (.int .i64 id)).setIfInBounds (k * 2 + 1) (.int .i64 ln), .slice A7 (Tb.text ss s).1.length c7, ?_, HTO.out.1, HTO.out.2.1, ⟨?_, ?_, ?_, HB7.out.gS, HB7.out.tS, HB7.out.ne, Nat.le_trans HB7.out.sz hub.size⟩, HFRR.out.next (by omega) id ln, ?_, HO7.out, HT7.out.trans (But.upd hub (.inr (.inr hSF)))⟩
                · rw [HLN.out]; simp [Tb.layStep, HID.out, h0]
                · exact hub.blk HB7.out.row (by have := HB7.out.gS; omega)
                · exact World.ownsRow.kept HB7.out.own hub (by
                    cases hv : (Value.slice A7 (Tb.text ss s).1.length c7).ownBlock with
                    | none => exact .inl rfl
                    | some z => right; intro he; injection he with he; exact HO7.out (by rw [hv, he]))
                · exact HB7.out.map.upd hub (by have := HB7.out.tS; omega)
                · have := blk_set (blk_set HF7.out (k * 2) (.int .i64 id)) (k * 2 + 1) (.int .i64 ln)
                  exact this
              case measure => simp [intOf]; omega
          · obtain rfl : k = l.length := by omega
            rw [List.take_length] at HLAY
            have HUU := Lib.hid (HFRR.out.rows HQF.out hSF)
            have HNR : Hid (NestO wr m S (.slice B' t.ks.length d') t.ks) := Lib.hid ((HN4.out.but (T := fun _ => False) (But.ext HX5.out) (fun _ _ _ h => h) HS1.out).but HBUT.out (fun b h1 h2 h3 => by
              rcases h3 with h3 | h3 | h3
              · omega
              · omega
              · omega) HS1.out)
            have HMR : Hid (MapQ stackKind intKind 0 wr kb t.ks.length (Tb.idx t.ks)) := Lib.hid ((HM4.out.ext HX5.out).but HBUT.out fun h => by
              rcases h with h | h | h
              · omega
              · exact HTK.out h.symm
              · have := HS1.out; omega)
            have HSTK : Hid (Calls _ _ _ _ _) := Lib.hid (istack_any g m tb kb S ss t.ks fs _ _ _ wr HBR.out HNR.out hgw HS1.out HMR.out HUU.out hl2 hsl)
            go_wp2_with fail
            refine HSTK.out.mono ?_
            rintro e w6 ⟨rfl, kv6, hrow6, hs6, hn6, hb6⟩
            obtain ⟨B6, d6, rfl, hd6⟩ := hn6.nest.form
            have HS6 := Lib.hid hs6
            have HN6 := Lib.hid hn6
            have HXR : Hid (Ext w wr) := Lib.hid (But.after (HX4.out.trans HX5.out) HBUT.out fun i hi => by
              have := HX1.out.size
              rcases hi with hi | hi | hi
              · omega
              · omega
              · have := HS1.out; omega)
            have HX6 : Hid (Ext w w6) := Lib.hid (But.after HXR.out hb6 fun i hi => by have := HX1.out.size; omega)
            have HR6 : Hid (w6.heap[w.heap.size + 1]? = some (.cells #[.slice none 0 0, .slice none 0 0] 25)) := Lib.hid (hb6.blk (HBUT.out.blk (HX5.out.blk HR4.out) fun hi => by
              rcases hi with hi | hi | hi
              · omega
              · omega
              · have := HS1.out; omega) (by omega))
            obtain ⟨b0, b1, b2, b3⟩ := cells4 hrow6
            have q0 := blk_cell HR6.out 0 _ rfl
            have q1 := blk_cell HR6.out 1 _ rfl
            have y0 := frozen_of_row _ _ 0 _ _ HR6.out
            have y1 := frozen_of_row _ _ 1 _ _ HR6.out
            have HDD := Lib.hid (HDS.out he ss fs HLAY.out)
            have HRR : Hid (t.stk l = if (Tb.lays ss.length t.ks fs).2 = 0 then (Tb.none, 0) else (⟨ss, (Tb.lays ss.length t.ks fs).1⟩, (Tb.lays ss.length t.ks fs).2)) := Lib.hid (by
              rw [HDD.out]
              unfold Tb.lays
              by_cases h1 : Tb.mayK ss.length fs = true
              · rw [if_pos h1, if_pos h1]
                by_cases h2 : fs ∈ t.ks
                · rw [if_pos h2, if_pos h2]
                  have := Tb.idx_pos.2 h2
                  rw [if_neg (by simp only; omega)]
                · rw [if_neg h2, if_neg h2]
                  by_cases h3 : t.ks.length = 10000
                  · rw [if_pos h3, if_pos h3]; rfl
                  · rw [if_neg h3, if_neg h3]
                    rw [if_neg (by simp only; omega)]
              · rw [if_neg h1, if_neg h1]; rfl)
            obtain ⟨id, hid⟩ : ∃ id, (Tb.lays ss.length t.ks fs).2 = id := ⟨_, rfl⟩
            rw [hid] at HRR ⊢
            clear hs6 hn6 hb6 hrow6
            by_cases h0 : id = 0
            · subst h0
              have HT : Hid (t.stk l = (Tb.none, 0)) := Lib.hid (by rw [HRR.out, if_pos rfl])
              go_wp2
              (have hz := set2_at HR6.out (.slice none 0 0) (.slice none 0 0); have t0 := blk_cell hz 0 _ rfl; have t1 := blk_cell hz 1 _ rfl; refine bodyPost_ret (v := (.tuple #[.agg #[.slice none 0 0, .slice none 0 0], .int .i64 0])) (by simp [results, Try.results13, go_sem, t0, t1]) rfl ?_; exact HNONE.out _ HX6.out HR6.out HT.out)
            · have HT : Hid (t.stk l = (⟨ss, (Tb.lays ss.length t.ks fs).1⟩, id)) := Lib.hid (by rw [HRR.out, if_neg h0])
              have hz7 : (id == 0) = false := by simpa using h0
              generalize (Tb.lays ss.length t.ks fs).1 = ks' at *
              obtain ⟨kl, hkl⟩ : ∃ kl, ks'.length = kl := ⟨_, rfl⟩
              rw [hkl] at b1 HN6
              go_wp2
              have hz := set2_at HR6.out (.slice As ss.length cs') (.slice B6 kl d6)
              have t0 := blk_cell hz 0 _ rfl
              have t1 := blk_cell hz 1 _ rfl
              have hux := upd2 (w.heap.size + 1) w6 (.slice As ss.length cs') (.slice B6 kl d6)
              refine bodyPost_ret (v := .tuple #[.agg #[.slice As ss.length cs', .slice B6 kl d6], .int .i64 id]) (by simp [results, Try.results13, go_sem, t0, t1]) rfl ?_
              rw [HT.out]
              have hb : But (fun i => i = w.heap.size + 1) w6 _ := But.upd hux rfl
              have hn6 : NestIn (g + 1) w6.heap.size 2 frL w6 (.slice B6 kl d6) ks' := HN6.out
              exact tabP_ret (r := (⟨ss, ks'⟩, id)) _ _ _ (g + 1) (by omega) ((HS6.out.but hb fun b h1 _ h2 => by omega).mono (Nat.le_refl _) hb.size) (by
                obtain ⟨vs, za, zb, zc⟩ := hn6.but hb fun b h1 _ h2 => by omega
                exact ⟨vs, za, zb.mono (Nat.le_refl _) hb.size, fun i u xs hi hxs => (zc i u xs hi hxs).mono (Nat.le_refl _) hb.size⟩) (HX6.out.upd hux (by omega)) rfl

end Go.Proofs.Ythkalaohaholaaa
