/-
  The contract of intern's String.
-/
import Derived.Test.YthkalaohaholaaaIj
set_option linter.unusedVariables false
set_option linter.unusedSimpArgs false
namespace Go.Proofs.Ythkalaohaholaaa
open Go.RowKit Go.Maps

theorem upd2 (g : Nat) (w : World) (d0 d1 : Value) : Upd g w ((w.setCell ⟨g, 0, none⟩ d0).setCell ⟨g, 1, none⟩ d1) := ((Upd.refl g w).set 0 d0).set 1 d1
theorem set2_at {w : World} {g : Nat} {T : TypeId} {c0 c1 : Value} (h : w.heap[g]? = some (.cells #[c0, c1] T (0, 0))) (d0 d1 : Value) : ((w.setCell ⟨g, 0, none⟩ d0).setCell ⟨g, 1, none⟩ d1).heap[g]? = some (.cells #[d0, d1] T (0, 0)) := blk_set (blk_set h 0 d0) 1 d1
theorem Tb.may_len {t : Tb} (h : t.may = true) : t.ss.length ≤ 10000 ∧ t.ks.length ≤ 10000 := by have := Tb.may_iff.1 h; exact ⟨this.1, this.2.1⟩
theorem Tb.may_stk {t : Tb} (h : t.may = true) : ∀ l ∈ t.ks, l.length ≤ 100 := fun l hl => (Tb.mayK_iff.1 ((Tb.may_iff.1 h).2.2.2.2.1 l hl)).2.1
/-- A table that is answered from a result cell. -/
theorem tabP_ret {r : Tb × Int} {w w' : World} (sv kv : Value) (n : Int) (L : Nat) (hL : w.heap.size ≤ L) (h1 : RowsIn L w'.heap.size 1 strL w' sv r.1.ss) (h2 : NestIn L w'.heap.size 2 frL w' kv r.1.ks) (hx : Ext w w') (hn : n = r.2) : TabP r w (.returned (.tuple #[.agg #[sv, kv], .int .i64 n])) w' :=
  ⟨_, by rw [hn], ⟨sv, kv, rfl, h1.rows, h2.nest⟩, hx, sv, kv, rfl, h1.mono hL (Nat.le_refl _), by
    obtain ⟨vs, a, b, c⟩ := h2
    exact ⟨vs, a, b.mono hL (Nat.le_refl _), fun i u xs hi hxs => (c i u xs hi hxs).mono hL (Nat.le_refl _)⟩⟩
theorem tabP_none {w w' : World} (hx : Ext w w') : TabP (Tb.none, 0) w (.returned (.tuple #[.agg #[.slice none 0 0, .slice none 0 0], .int .i64 0])) w' :=
  ⟨_, rfl, tabAt_none w', hx, _, _, rfl, ⟨none, 0, rfl, Nat.le_refl _, fun h => by simp [Tb.none] at h⟩, [], rfl, ⟨none, 0, rfl, Nat.le_refl _, fun h => by simp at h⟩, fun i u xs h => by simp at h⟩
set_option maxRecDepth 100000 in
set_option maxHeartbeats 8000000 in
theorem istr_any (v : Value) (t : Tb) (s : ByteArray) (w : World) (h : TabAt w v t) (hl : t.ss.length ≤ 100000) (hm' : t.ks.length ≤ 100000) (hs : s.size ≤ maxLen) :
    Calls Try.prog 11 #[v, .string s] w (TabP (t.string s) w) := by
  obtain ⟨A, c, B, d, rfl, h1, h2⟩ := h.two
  obtain ⟨w1, hw1⟩ : ∃ w1, (w.alloc (.cells #[.slice A t.ss.length c, .slice B t.ks.length d] 25)).alloc (.cells #[.slice none 0 0, .slice none 0 0] 25) = w1 := ⟨_, rfl⟩
  have HX1 : Hid (Ext w w1) := Lib.hid (by rw [← hw1]; exact ((Ext.refl w).alloc _).alloc _)
  have HB1 : Hid (w1.heap[w.heap.size]? = some (.cells #[.slice A t.ss.length c, .slice B t.ks.length d] 25)) := Lib.hid (by rw [← hw1]; exact blk_alloc (blk_new w _) _)
  have HR1 : Hid (w1.heap[w.heap.size + 1]? = some (.cells #[.slice none 0 0, .slice none 0 0] 25)) := Lib.hid (by
    have := blk_new (w.alloc (.cells #[.slice A t.ss.length c, .slice B t.ks.length d] 25)) (.cells #[.slice none 0 0, .slice none 0 0] 25)
    rw [hw1] at this
    simpa using this)
  have HO := Lib.hid (open_any _ _ t _ (h1.ext HX1.out) (h2.ext HX1.out) hl hm')
  have H1 := Lib.hid h1
  have H2 := Lib.hid h2
  have HW1 := Lib.hid hw1
  have b0 := blk_cell HB1.out 0 _ rfl
  have b1 := blk_cell HB1.out 1 _ rfl
  clear h h1 h2 hw1
  cases hm : t.may with
  | false =>
    have HT : Hid (t.string s = (Tb.none, 0)) := Lib.hid (by unfold Tb.string; rw [if_neg (by rw [hm]; simp)])
    go_enter Try.func11, Try.ntmps11
    go_wp2_with fail
    rw [HW1.out]
    refine HO.out.mono ?_
    rintro e w2 ⟨hx, hif⟩
    rw [hm] at hif
    obtain rfl := (show e = .returned (.tuple #[.agg #[.slice none 0 0, .slice none 0 0, .map none, .map none], .bool false]) by simpa using hif)
    have HX2 := Lib.hid (HX1.out.trans hx)
    have HR2 := Lib.hid ((hx.alloc (.cells #[.slice none 0 0, .slice none 0 0, .map none, .map none] 50)).blk HR1.out)
    clear hif hx b0 b1
    have q0 := blk_cell HR2.out 0 _ rfl
    have q1 := blk_cell HR2.out 1 _ rfl
    have y0 := frozen_of_row _ _ 0 _ _ HR2.out
    have y1 := frozen_of_row _ _ 1 _ _ HR2.out
    go_wp2
    have hz := set2_at HR2.out (.slice none 0 0) (.slice none 0 0)
    have t0 := blk_cell hz 0 _ rfl
    have t1 := blk_cell hz 1 _ rfl
    refine bodyPost_ret (v := .tuple #[.agg #[.slice none 0 0, .slice none 0 0], .int .i64 0]) (by simp [results, Try.results11, go_sem, t0, t1]) rfl ?_
    rw [HT.out]
    exact tabP_none ((HX2.out.alloc _).upd (upd2 _ _ _ _) (by omega))
  | true =>
    obtain ⟨hl1, hl2⟩ := Tb.may_len hm
    have HLK := Lib.hid (Tb.may_stk hm)
    go_enter Try.func11, Try.ntmps11
    go_wp2_with fail
    rw [HW1.out]
    refine HO.out.mono ?_
    rintro e w2 ⟨hx, hif⟩
    rw [hm, if_pos rfl] at hif
    obtain ⟨tb, kb, rfl, htb, hkb, -, hmt, hmk⟩ := hif
    obtain ⟨w3, hw3⟩ : ∃ w3, w2.alloc (.cells #[.slice A t.ss.length c, .slice B t.ks.length d, .map (some tb), .map (some kb)] 50) = w3 := ⟨_, rfl⟩
    obtain ⟨g, hg⟩ : ∃ g, w2.heap.size = g := ⟨_, rfl⟩
    have hx23 : Ext w2 w3 := by rw [← hw3]; exact (Ext.refl w2).alloc _
    have HX3 := Lib.hid (HX1.out.trans (hx.trans hx23))
    have hbk : w3.heap[g]? = some (.cells (bookV (.slice A t.ss.length c) (.slice B t.ks.length d) tb kb) 50 (0, 0)) := by rw [← hw3, ← hg]; exact blk_new w2 _
    have HBK := Lib.hid hbk
    have HR3 := Lib.hid ((hx.trans hx23).blk HR1.out)
    have HMT := Lib.hid (hmt.ext hx23)
    have HMK := Lib.hid (hmk.ext hx23)
    have HOWN := Lib.hid (own_any g tb kb _ _ t w3 hbk (H1.out.ext HX3.out) (H2.out.ext HX3.out) hl hm' (fun l hl => by have := HLK.out l hl; omega))
    have HG3 : Hid (w2.heap.size = g ∧ tb < g ∧ w1.heap.size ≤ tb ∧ w1.heap.size ≤ g) := Lib.hid ⟨hg, by have := hmt.lt; omega, htb, by have := hx.size; omega⟩
    have HW3 := Lib.hid hw3
    clear hx hx23 hbk hmt hmk hw3 hg b0 b1 HO
    have HDEF : Hid (t.string s = if s = ⟨#[]⟩ then (t, 0) else if (Tb.text t.ss s).2 = 0 then (Tb.none, 0) else (⟨(Tb.text t.ss s).1, t.ks⟩, (Tb.text t.ss s).2)) := Lib.hid (by unfold Tb.string; rw [if_pos hm])
    go_wp2_with fail
    rw [HW3.out, HG3.out.1]
    refine HOWN.out.mono ?_
    rintro e w4 ⟨rfl, S, sv', kv', hS1, hS2, hrow, hown, hnest, hu⟩
    obtain ⟨A', c', rfl, hc'⟩ := (OwnRows.rows strL_len hown).form
    obtain ⟨B', d', rfl, hd'⟩ := hnest.nest.form
    have hgw := blk_lt HBK.out
    obtain ⟨G1, G2, G3, G4⟩ := HG3.out
    have hw1 : w.heap.size + 1 < w1.heap.size := blk_lt HR1.out
    have HBS : Hid (BookS w4 g tb kb S t.ss (.slice A' t.ss.length c') (.slice B' t.ks.length d')) := Lib.hid ⟨hrow, hown, HMT.out.upd hu (by omega), by omega, by omega, by omega, hS2⟩
    have HN4 := Lib.hid hnest
    have HX4 : Hid (Ext w w4) := Lib.hid (HX3.out.upd hu (by have := HX1.out.size; omega))
    have HR4 : Hid (w4.heap[w.heap.size + 1]? = some (.cells #[.slice none 0 0, .slice none 0 0] 25)) := Lib.hid (hu.blk HR3.out (by omega))
    have HS1 := Lib.hid hS1
    have HTX : Hid (Calls _ _ _ _ _) := Lib.hid (itext_any g tb kb S t.ss s _ _ w4 HBS.out hl1 hs)
    clear hS1 hS2 hown hnest hu HOWN
    have q0 := blk_cell HR4.out 0 _ rfl
    have q1 := blk_cell HR4.out 1 _ rfl
    have y0 := frozen_of_row _ _ 0 _ _ HR4.out
    have y1 := frozen_of_row _ _ 1 _ _ HR4.out
    obtain ⟨b0, b1, b2, b3⟩ := cells4 hrow
    clear hrow
    by_cases he : s = ⟨#[]⟩
    · subst he
      have HT : Hid (t.string ⟨#[]⟩ = (t, 0)) := Lib.hid (by rw [HDEF.out, if_pos rfl])
      go_wp2
      have hz := set2_at HR4.out (.slice A' t.ss.length c') (.slice B' t.ks.length d')
      have t0 := blk_cell hz 0 _ rfl
      have t1 := blk_cell hz 1 _ rfl
      have hux := upd2 (w.heap.size + 1) w4 (.slice A' t.ss.length c') (.slice B' t.ks.length d')
      refine bodyPost_ret (v := .tuple #[.agg #[.slice A' t.ss.length c', .slice B' t.ks.length d'], .int .i64 0]) (by simp [results, Try.results11, go_sem, t0, t1]) rfl ?_
      rw [HT.out]
      have hb : But (fun i => i = w.heap.size + 1) w4 _ := But.upd hux rfl
      exact tabP_ret (r := (t, 0)) _ _ _ (g + 1) (by omega) (((OwnRows.rowsIn strL_len HBS.out.own).but hb fun b h1 _ h2 => by have := HS1.out; omega).mono (by have := HBS.out.gS; omega) hb.size) ((HN4.out.but hb (fun b h1 _ h2 => by omega) HS1.out).nestIn hgw (Nat.le_trans HBS.out.sz hb.size) HS1.out (Ext.refl _)).1 (HX4.out.upd hux (by omega)) rfl
    · obtain ⟨e1, e2⟩ := bytes_list he
      go_wp2_with fail
      refine HTX.out.mono ?_
      rintro e w5 ⟨rfl, sv5, hbs5, hb5, -⟩
      obtain ⟨A5, c5, rfl, hc5⟩ := (OwnRows.rows strL_len hbs5.own).form
      have HB5 := Lib.hid hbs5
      have HBT := Lib.hid hb5
      have HX5 : Hid (Ext w w5) := Lib.hid (But.after HX4.out hb5 fun i hi => by
        rcases hi with rfl | rfl | hi
        · omega
        · omega
        · have := HS1.out; omega)
      have HR5 : Hid (w5.heap[w.heap.size + 1]? = some (.cells #[.slice none 0 0, .slice none 0 0] 25)) := Lib.hid (hb5.blk HR4.out fun hi => by
        rcases hi with hi | hi | hi
        · omega
        · omega
        · have := HS1.out; omega)
      obtain ⟨p0, p1, p2, p3⟩ := cells4 hbs5.row
      clear q0 q1 y0 y1 b0 b1 b2 b3 hbs5 hb5 HTX
      have q0 := blk_cell HR5.out 0 _ rfl
      have q1 := blk_cell HR5.out 1 _ rfl
      have y0 := frozen_of_row _ _ 0 _ _ HR5.out
      have y1 := frozen_of_row _ _ 1 _ _ HR5.out
      by_cases h0 : (Tb.text t.ss s).2 = 0
      · have HT : Hid (t.string s = (Tb.none, 0)) := Lib.hid (by rw [HDEF.out, if_neg he, if_pos h0])
        rw [h0]
        go_wp2
        have hz := set2_at HR5.out (.slice none 0 0) (.slice none 0 0)
        have t0 := blk_cell hz 0 _ rfl
        have t1 := blk_cell hz 1 _ rfl
        refine bodyPost_ret (v := .tuple #[.agg #[.slice none 0 0, .slice none 0 0], .int .i64 0]) (by simp [results, Try.results11, go_sem, t0, t1]) rfl ?_
        rw [HT.out]
        exact tabP_none (HX5.out.upd (upd2 _ _ _ _) (by omega))
      · have HT : Hid (t.string s = (⟨(Tb.text t.ss s).1, t.ks⟩, (Tb.text t.ss s).2)) := Lib.hid (by rw [HDEF.out, if_neg he, if_neg h0])
        have hz0 : ((Tb.text t.ss s).2 == 0) = false := by simpa using h0
        obtain ⟨n, hn⟩ : ∃ n, (Tb.text t.ss s).2 = n := ⟨_, rfl⟩
        have HN := Lib.hid hn
        rw [hn] at hz0 ⊢
        generalize (Tb.text t.ss s).1.length = ln at *
        clear hn h0
        go_wp2
        have hz := set2_at HR5.out (.slice A5 ln c5) (.slice B' t.ks.length d')
        have t0 := blk_cell hz 0 _ rfl
        have t1 := blk_cell hz 1 _ rfl
        have hux := upd2 (w.heap.size + 1) w5 (.slice A5 ln c5) (.slice B' t.ks.length d')
        refine bodyPost_ret (v := .tuple #[.agg #[.slice A5 ln c5, .slice B' t.ks.length d'], .int .i64 n]) (by simp [results, Try.results11, go_sem, t0, t1]) rfl ?_
        rw [HT.out]
        have hb : But (fun i => i = w.heap.size + 1) w5 _ := But.upd hux rfl
        have hn5 := HN4.out.but HBT.out (fun b h1 h2 h3 => by
          rcases h3 with h3 | h3 | h3
          · omega
          · omega
          · omega) HS1.out
        exact tabP_ret (r := (⟨(Tb.text t.ss s).1, t.ks⟩, (Tb.text t.ss s).2)) _ _ _ (g + 1) (by omega) (((OwnRows.rowsIn strL_len HB5.out.own).but hb fun b h1 _ h2 => by have := HS1.out; omega).mono (by have := HB5.out.gS; omega) hb.size) ((hn5.but hb (fun b h1 _ h2 => by omega) HS1.out).nestIn hgw (Nat.le_trans HB5.out.sz hb.size) HS1.out (Ext.refl _)).1 (HX5.out.upd hux (by omega)) HN.out.symm

end Go.Proofs.Ythkalaohaholaaa
