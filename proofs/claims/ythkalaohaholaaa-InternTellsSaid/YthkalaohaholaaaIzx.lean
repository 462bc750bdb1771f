/-
  Several texts in one: Iza, Izb, Izc, Izd, Ize, Izf.
-/
import Derived.Test.YthkalaohaholaaaIw
import Derived.Test.YthkalaohaholaaaIx
set_option linter.unusedVariables false
set_option linter.unusedSimpArgs false
namespace Go.Proofs.Ythkalaohaholaaa
open Go.RowKit Go.Maps

def Tb.add (t : Tb) (s : ByteArray) : Tb × Int := if s = ⟨#[]⟩ then (t, 0) else if s ∈ t.ss then (t, Tb.idx t.ss s) else (⟨t.ss ++ [s], t.ks⟩, (t.ss.length : Int) + 1)
/-- The document's String is the program's. -/
theorem Tb.add_string (t : Tb) (s : ByteArray) : (if t.may = true then (if (t.add s).1.may = true then t.add s else (Tb.none, 0)) else (Tb.none, 0)) = t.string s := by
  by_cases hm : t.may = true
  · rw [if_pos hm]
    unfold Tb.string
    rw [if_pos hm]
    unfold Tb.add
    by_cases h0 : s = ⟨#[]⟩
    · rw [if_pos h0, if_pos h0, if_pos hm]
    · rw [if_neg h0, if_neg h0]
      by_cases hin : s ∈ t.ss
      · have hp := Tb.idx_pos.2 hin
        rw [if_pos hin, if_pos hm, Tb.text_again hin, if_neg (by simp only; omega)]
      · rw [if_neg hin]
        have hiff : Tb.may ⟨t.ss ++ [s], t.ks⟩ = true ↔ Tb.mayS s = true ∧ t.ss.length ≠ 10000 := by
          have h := Tb.may_iff.1 hm
          constructor
          · intro h1
            have h1 := Tb.may_iff.1 h1
            simp only [List.length_append, List.length_singleton] at h1
            exact ⟨h1.2.2.1 s (by simp), by omega⟩
          · rintro ⟨h1, h2⟩
            refine Tb.may_mk (ss := t.ss) hm ?_ ?_ ?_
            · rw [Tb.okS_snoc, Tb.may_ok hm, h1, decide_eq_true hin]; rfl
            · simp; omega
            · simp
        by_cases hk : Tb.mayS s = true ∧ t.ss.length ≠ 10000
        · have ht : Tb.text t.ss s = (t.ss ++ [s], (t.ss.length : Int) + 1) := by unfold Tb.text; rw [if_neg hin, if_pos hk]
          rw [if_pos (hiff.2 hk), ht, if_neg (by simp only; omega)]
        · have ht : Tb.text t.ss s = (t.ss, 0) := by unfold Tb.text; rw [if_neg hin, if_neg hk]
          rw [if_neg (fun h => hk (hiff.1 h)), ht, if_pos rfl]
  · rw [if_neg hm]
    unfold Tb.string
    rw [if_neg hm]
/-- A slice of records that lies in no block of S. -/
def RowsOff {α : Type} (S : Nat → Prop) (m : Nat) (f : α → List Value) (w : World) (v : Value) (xs : List α) : Prop :=
  ∃ A c, v = .slice A xs.length c ∧ xs.length ≤ c ∧ (0 < xs.length → ∃ b o, A = some ⟨b, o, none⟩ ∧ ¬ S b ∧ b < w.heap.size ∧ ∀ j x, xs[j]? = some x → ∀ i u, (f x)[i]? = some u → w.cell? ⟨b, o + j * m + i, none⟩ = some u)
def NestOff {α : Type} (S : Nat → Prop) (m : Nat) (f : α → List Value) (w : World) (v : Value) (xss : List (List α)) : Prop :=
  ∃ vs : List Value, vs.length = xss.length ∧ RowsOff S 1 oneL w v vs ∧ ∀ (i : Nat) u xs, vs[i]? = some u → xss[i]? = some xs → RowsOff S m f w u xs
section
variable {α : Type} {S : Nat → Prop} {L H m : Nat} {f : α → List Value} {w w' : World} {v : Value} {xs : List α} {xss : List (List α)}
theorem RowsOff.rows (h : RowsOff S m f w v xs) : RowsAt m f w v xs := by
  obtain ⟨A, c, rfl, hc, hA⟩ := h
  exact ⟨A, c, rfl, hc, fun h0 => by obtain ⟨b, o, h1, _, h2, h3⟩ := hA h0; exact ⟨b, o, h1, h2, h3⟩⟩
theorem RowsOff.but (h : RowsOff S m f w v xs) (k : But S w w') : RowsOff S m f w' v xs := by
  obtain ⟨A, c, rfl, hc, hA⟩ := h
  refine ⟨A, c, rfl, hc, fun h0 => ?_⟩
  obtain ⟨b, o, h1, h2, h3, h4⟩ := hA h0
  exact ⟨b, o, h1, h2, Nat.lt_of_lt_of_le h3 k.size, fun j x hj i u hu => by rw [k.cell h3 h2]; exact h4 j x hj i u hu⟩
theorem RowsIn.off (h : RowsIn L H m f w v xs) (hs : ∀ b, L ≤ b → b < H → ¬ S b) : RowsOff S m f w v xs := by
  obtain ⟨A, c, rfl, hc, hA⟩ := h
  exact ⟨A, c, rfl, hc, fun h0 => by obtain ⟨b, o, h1, h2, h3, h4, h5⟩ := hA h0; exact ⟨b, o, h1, hs b h2 h3, h4, h5⟩⟩
theorem NestOff.nest (h : NestOff S m f w v xss) : NestAt m f w v xss := by
  obtain ⟨vs, h1, h2, h3⟩ := h
  exact ⟨vs, h1, h2.rows, fun i u xs a b => (h3 i u xs a b).rows⟩
theorem NestOff.but (h : NestOff S m f w v xss) (k : But S w w') : NestOff S m f w' v xss := by
  obtain ⟨vs, h1, h2, h3⟩ := h
  exact ⟨vs, h1, h2.but k, fun i u xs a b => (h3 i u xs a b).but k⟩
theorem NestAt.off (h : NestAt m f w v xss) (hs : ∀ b, b < w.heap.size → ¬ S b) : NestOff S m f w v xss := by
  obtain ⟨vs, h1, h2, h3⟩ := h
  exact ⟨vs, h1, h2.rowsIn.off fun b _ hb => hs b hb, fun i u xs a b => (h3 i u xs a b).rowsIn.off fun b _ hb => hs b hb⟩
end
def TabOff (S : Nat → Prop) (w : World) (v : Value) (t : Tb) : Prop := ∃ sv kv, v = .agg #[sv, kv] ∧ RowsOff S 1 strL w sv t.ss ∧ NestOff S 2 frL w kv t.ks
theorem TabOff.tab {S : Nat → Prop} {w : World} {v : Value} {t : Tb} (h : TabOff S w v t) : TabAt w v t := by
  obtain ⟨sv, kv, rfl, h1, h2⟩ := h
  exact ⟨sv, kv, rfl, h1.rows, h2.nest⟩
theorem TabOff.but {S : Nat → Prop} {w w' : World} {v : Value} {t : Tb} (h : TabOff S w v t) (k : But S w w') : TabOff S w' v t := by
  obtain ⟨sv, kv, rfl, h1, h2⟩ := h
  exact ⟨sv, kv, rfl, h1.but k, h2.but k⟩
theorem TabAt.off {S : Nat → Prop} {w : World} {v : Value} {t : Tb} (h : TabAt w v t) (hs : ∀ b, b < w.heap.size → ¬ S b) : TabOff S w v t := by
  obtain ⟨sv, kv, rfl, h1, h2⟩ := h
  exact ⟨sv, kv, rfl, h1.rowsIn.off fun b _ hb => hs b hb, h2.off hs⟩
/-- The same, and where the table lies: where the given one did, or in new blocks. -/
def AddQ (v0 : Value) (t : Tb) (r : Tb × Int) (w : World) (e : Ending) (w' : World) : Prop := ∃ v, e = .returned (.tuple #[v, .int .i64 r.2]) ∧ TabAt w' v r.1 ∧ Ext w w' ∧ ∀ S : Nat → Prop, (∀ b, S b → b < w.heap.size) → TabOff S w v0 t → TabOff S w' v r.1
/-- What add answers. -/
def AddP (r : Tb × Int) (w : World) (e : Ending) (w' : World) : Prop := ∃ v, e = .returned (.tuple #[v, .int .i64 r.2]) ∧ TabAt w' v r.1 ∧ Ext w w'
set_option maxRecDepth 100000 in
set_option maxHeartbeats 8000000 in
theorem radd_any (v : Value) (t : Tb) (s : ByteArray) (w : World) (h : TabAt w v t) (hl : t.ss.length ≤ 100000) :
    Calls Try.prog 26 #[v, .string s] w (AddQ v t (t.add s) w) := by
  obtain ⟨A, c, B, d, rfl, h1, h2⟩ := h.two
  obtain ⟨w1, hw1⟩ : ∃ w1, (w.alloc (.cells #[.slice A t.ss.length c, .slice B t.ks.length d] 25)).alloc (.cells #[.slice none 0 0, .slice none 0 0] 25) = w1 := ⟨_, rfl⟩
  obtain ⟨p, hp⟩ : ∃ p, w.heap.size = p := ⟨_, rfl⟩
  have HX1 : Hid (Ext w w1) := Lib.hid (by rw [← hw1]; exact ((Ext.refl w).alloc _).alloc _)
  have HB1 : Hid (w1.heap[p]? = some (.cells #[.slice A t.ss.length c, .slice B t.ks.length d] 25 (0, 0))) := Lib.hid (by rw [← hw1, ← hp]; exact blk_alloc (blk_new w _) _)
  have HR1 : Hid (w1.heap[p + 1]? = some (.cells #[.slice none 0 0, .slice none 0 0] 25 (0, 0))) := Lib.hid (by
    have := blk_new (w.alloc (.cells #[.slice A t.ss.length c, .slice B t.ks.length d] 25)) (.cells #[.slice none 0 0, .slice none 0 0] 25)
    rw [hw1, show (w.alloc (.cells #[.slice A t.ss.length c, .slice B t.ks.length d] 25)).heap.size = p + 1 by simp [hp]] at this
    exact this)
  have H1 := Lib.hid h1
  have H2 := Lib.hid h2
  have HW1 := Lib.hid hw1
  have HP := Lib.hid hp
  clear h h1 h2 hw1 hp
  have t0' : w1.cell? ⟨w.heap.size, 0, none⟩ = some (.slice A t.ss.length c) := by rw [HP.out]; exact blk_cell HB1.out 0 _ rfl
  have t1' : w1.cell? ⟨w.heap.size, 1, none⟩ = some (.slice B t.ks.length d) := by rw [HP.out]; exact blk_cell HB1.out 1 _ rfl
  have q0 : w1.cell? ⟨w.heap.size + 1, 0, none⟩ = some (.slice none 0 0) := by rw [HP.out]; exact blk_cell HR1.out 0 _ rfl
  have q1 : w1.cell? ⟨w.heap.size + 1, 1, none⟩ = some (.slice none 0 0) := by rw [HP.out]; exact blk_cell HR1.out 1 _ rfl
  have y0 : w1.frozen? ⟨w.heap.size + 1, 0, none⟩ = false := by rw [HP.out]; exact frozen_of_row _ _ 0 _ _ HR1.out
  have y1 : w1.frozen? ⟨w.heap.size + 1, 1, none⟩ = false := by rw [HP.out]; exact frozen_of_row _ _ 1 _ _ HR1.out
  have HSAME : Hid (TabAt ((w1.setCell ⟨w.heap.size + 1, 0, none⟩ (.slice A t.ss.length c)).setCell ⟨w.heap.size + 1, 1, none⟩ (.slice B t.ks.length d)) (.agg #[.slice A t.ss.length c, .slice B t.ks.length d]) t ∧ Ext w ((w1.setCell ⟨w.heap.size + 1, 0, none⟩ (.slice A t.ss.length c)).setCell ⟨w.heap.size + 1, 1, none⟩ (.slice B t.ks.length d))) := Lib.hid (by
    have hx := HX1.out.upd (upd2 (w.heap.size + 1) w1 (.slice A t.ss.length c) (.slice B t.ks.length d)) (by omega)
    exact ⟨⟨_, _, rfl, H1.out.ext hx, H2.out.ext hx⟩, hx⟩)
  have HZ : Hid (((w1.setCell ⟨w.heap.size + 1, 0, none⟩ (.slice A t.ss.length c)).setCell ⟨w.heap.size + 1, 1, none⟩ (.slice B t.ks.length d)).heap[w.heap.size + 1]? = some (.cells #[.slice A t.ss.length c, .slice B t.ks.length d] 25 (0, 0))) := Lib.hid (by rw [HP.out]; exact set2_at HR1.out _ _)
  by_cases h0 : s = ⟨#[]⟩
  · subst h0
    have HT : Hid (t.add ⟨#[]⟩ = (t, 0)) := Lib.hid (by unfold Tb.add; rw [if_pos rfl])
    go_enter Try.func26, Try.ntmps26
    go_wp2_with (rw [HW1.out])
    have t0 := blk_cell HZ.out 0 _ rfl
    have t1 := blk_cell HZ.out 1 _ rfl
    refine bodyPost_ret (v := .tuple #[.agg #[.slice A t.ss.length c, .slice B t.ks.length d], .int .i64 0]) (by simp [results, Try.results26, go_sem, t0, t1]) rfl ?_
    rw [HT.out]
    exact ⟨_, rfl, HSAME.out.1, HSAME.out.2, fun S hS h => h.but (But.ext HSAME.out.2)⟩
  obtain ⟨e1, e2⟩ := bytes_list h0
  have HFI := Lib.hid (rfind_any _ t.ss s w1 (H1.out.ext HX1.out) hl)
  by_cases hin : s ∈ t.ss
  · have HT : Hid (t.add s = (t, Tb.idx t.ss s)) := Lib.hid (by unfold Tb.add; rw [if_neg h0, if_pos hin])
    have hpos := Tb.idx_pos.2 hin
    have hle := Tb.idx_le (l := t.ss) (x := s)
    generalize Tb.idx t.ss s = n at *
    go_enter Try.func26, Try.ntmps26
    go_wp2_with (rw [HW1.out])
    refine HFI.out.mono ?_
    rintro e w' ⟨rfl, rfl⟩
    have hn0 : (0 : Int) ≤ n - 1 := by omega
    have hn1 : n - 1 + 1 = n := by omega
    go_wp2
    have t0 := blk_cell HZ.out 0 _ rfl
    have t1 := blk_cell HZ.out 1 _ rfl
    refine bodyPost_ret (v := .tuple #[.agg #[.slice A t.ss.length c, .slice B t.ks.length d], .int .i64 n]) (by simp [results, Try.results26, go_sem, t0, t1, hn1]) rfl ?_
    rw [HT.out]
    exact ⟨_, rfl, HSAME.out.1, HSAME.out.2, fun S hS h => h.but (But.ext HSAME.out.2)⟩
  · have HT : Hid (t.add s = (⟨t.ss ++ [s], t.ks⟩, (t.ss.length : Int) + 1)) := Lib.hid (by unfold Tb.add; rw [if_neg h0, if_neg hin])
    rw [Tb.idx_zero.2 hin] at HFI
    obtain ⟨i0, I0, I1, I2, I3⟩ := info_parts Try.infoText
    obtain ⟨w2, hw2⟩ : ∃ w2, w1.alloc (.cells #[] 9) = w2 := ⟨_, rfl⟩
    have hx2 : Ext w1 w2 := by rw [← hw2]; exact (Ext.refl w1).alloc _
    have hmade : OwnRows 9 1 strL w2 w1.heap.size (.slice (some ⟨w1.heap.size, 0, none⟩) 0 0) [] := by rw [← hw2]; exact World.ownsRow_made (base := w1.heap.size) (e := 9) (size := 1) w1 #[] 0 (Nat.le_refl _) (by decide) rfl
    obtain ⟨v3, w3, hr3, ho3, hg3⟩ := OwnRows.append (P := Try.prog) (e := 9) (m := 1) (f := strL) (xs := []) 22 Try.underlying22 I0 I1 I2 I3 rfl (by decide) strL_len strL_one hmade (H1.out.ext (HX1.out.trans hx2)) (by simp [maxLen]; omega) (by simp; omega) hx2.size
    have hx3 : Ext w1 w3 := OwnRows.grown (W := w1) hmade hx2 hg3
    obtain ⟨w4, hw4⟩ : ∃ w4, w3.alloc (.cells #[.string s] 9) = w4 := ⟨_, rfl⟩
    have hx4 : Ext w3 w4 := by rw [← hw4]; exact (Ext.refl w3).alloc _
    have hone : RowsAt 1 strL w4 (.slice (some ⟨w3.heap.size, 0, none⟩) 1 1) [s] := by rw [← hw4]; exact row_one (f := strL) s 9
    simp only [List.nil_append] at ho3
    obtain ⟨A3, c3, rfl, hc3⟩ := (OwnRows.rows strL_len ho3).form
    obtain ⟨v5, w5, hr5, ho5, hg5⟩ := OwnRows.append (P := Try.prog) (e := 9) (m := 1) (f := strL) (xs := t.ss) (ys := [s]) 22 Try.underlying22 I0 I1 I2 I3 rfl (by decide) strL_len strL_one (OwnRows.ext ho3 hx4) hone (by simp [maxLen]; omega) (by simp; omega) (Nat.le_trans hx3.size hx4.size)
    have hx5 : Ext w1 w5 := OwnRows.grown (W := w1) (OwnRows.ext ho3 hx4) (hx3.trans hx4) hg5
    have hlen : (t.ss ++ [s]).length = t.ss.length + 1 := by simp
    obtain ⟨A5, c5, rfl, hc5⟩ := (OwnRows.rows strL_len ho5).form
    rw [hlen] at hr5 ho5 hc5
    have HR3 := Lib.hid hr3
    have HR5 := Lib.hid hr5
    have HW2 := Lib.hid hw2
    have HW4 := Lib.hid hw4
    have HO5 := Lib.hid ho5
    have HX5 := Lib.hid (HX1.out.trans hx5)
    have HB5 := Lib.hid (hx5.blk HB1.out)
    have HRR5 := Lib.hid (hx5.blk HR1.out)
    have u0 : w2.cell? ⟨w.heap.size, 0, none⟩ = some (.slice A t.ss.length c) := by rw [HP.out]; exact blk_cell (hx2.blk HB1.out) 0 _ rfl
    have z0 : w5.cell? ⟨w.heap.size, 0, none⟩ = some (.slice A t.ss.length c) := by rw [HP.out]; exact blk_cell HB5.out 0 _ rfl
    have z1 : w5.frozen? ⟨w.heap.size, 0, none⟩ = false := by rw [HP.out]; exact frozen_of_row _ _ 0 _ _ HB5.out
    clear hr3 hr5 hw2 hw4 ho3 ho5 hg3 hg5 hx2 hx3 hx4 hx5 hmade hone I0 I1 I2 I3 q0 q1 y0 y1
    go_enter Try.func26, Try.ntmps26
    go_wp2_with (rw [HW1.out])
    refine HFI.out.mono ?_
    rintro e w' ⟨rfl, rfl⟩
    go_wp2_with (first | rw [HW2.out] | rw [HW4.out] | (at_builtin; refine wpList_append_run rfl _ _ 22 rfl _ _ rfl rfl HR3.out ?_) | (at_builtin; refine wpList_append_run rfl _ _ 22 rfl _ _ rfl rfl HR5.out ?_))
    obtain ⟨w6, hw6⟩ : ∃ w6, w5.setCell ⟨w.heap.size, 0, none⟩ (.slice A5 (t.ss.length + 1) c5) = w6 := ⟨_, rfl⟩
    have hu6 : Upd p w5 w6 := by rw [← hw6, HP.out]; exact (Upd.refl p w5).set 0 _
    have hb6 : w6.heap[p]? = some (.cells #[.slice A5 (t.ss.length + 1) c5, .slice B t.ks.length d] 25 (0, 0)) := by rw [← hw6, HP.out]; exact blk_set HB5.out 0 _
    have hr6 : w6.heap[p + 1]? = some (.cells #[.slice none 0 0, .slice none 0 0] 25 (0, 0)) := hu6.blk HRR5.out (by omega)
    have HX6 : Hid (Ext w w6) := Lib.hid (HX5.out.upd hu6 (by have := HP.out; omega))
    have HO6 : Hid (OwnRows 9 1 strL w6 w1.heap.size (.slice A5 (t.ss.length + 1) c5) (t.ss ++ [s])) := Lib.hid (World.ownsRow.kept HO5.out hu6 (by
      cases hv : (Value.slice A5 (t.ss.length + 1) c5).ownBlock with
      | none => exact .inl rfl
      | some z => right; have := (OwnRows.lt HO5.out z hv).1; have := blk_lt HR1.out; intro he; injection he; omega))
    have HR6 := Lib.hid hr6
    rw [hw6]
    have m0 : w6.cell? ⟨w.heap.size, 0, none⟩ = some (.slice A5 (t.ss.length + 1) c5) := by rw [HP.out]; exact blk_cell hb6 0 _ rfl
    have m1 : w6.cell? ⟨w.heap.size, 1, none⟩ = some (.slice B t.ks.length d) := by rw [HP.out]; exact blk_cell hb6 1 _ rfl
    have q0 : w6.cell? ⟨w.heap.size + 1, 0, none⟩ = some (.slice none 0 0) := by rw [HP.out]; exact blk_cell hr6 0 _ rfl
    have q1 : w6.cell? ⟨w.heap.size + 1, 1, none⟩ = some (.slice none 0 0) := by rw [HP.out]; exact blk_cell hr6 1 _ rfl
    have y0 : w6.frozen? ⟨w.heap.size + 1, 0, none⟩ = false := by rw [HP.out]; exact frozen_of_row _ _ 0 _ _ hr6
    have y1 : w6.frozen? ⟨w.heap.size + 1, 1, none⟩ = false := by rw [HP.out]; exact frozen_of_row _ _ 1 _ _ hr6
    clear hw6 hu6 hb6 hr6 t0' t1' u0 z0 z1
    have HZ6 : Hid (((w6.setCell ⟨w.heap.size + 1, 0, none⟩ (.slice A5 (t.ss.length + 1) c5)).setCell ⟨w.heap.size + 1, 1, none⟩ (.slice B t.ks.length d)).drew.heap[w.heap.size + 1]? = some (.cells #[.slice A5 (t.ss.length + 1) c5, .slice B t.ks.length d] 25 (0, 0))) := Lib.hid (by rw [HP.out]; exact set2_at HR6.out _ _)
    go_region
    go_wp2
    have t0 := blk_cell HZ6.out 0 _ rfl
    have t1 := blk_cell HZ6.out 1 _ rfl
    refine bodyPost_ret (v := .tuple #[.agg #[.slice A5 (t.ss.length + 1) c5, .slice B t.ks.length d], .int .i64 ((t.ss.length : Int) + 1)]) (by simp [results, Try.results26, go_sem, t0, t1]) rfl ?_
    rw [HT.out]
    have hux := upd2 (w.heap.size + 1) w6 (.slice A5 (t.ss.length + 1) c5) (.slice B t.ks.length d)
    have hx := HX6.out.upd hux (by omega)
    have hrow : RowsIn w1.heap.size w6.heap.size 1 strL w6 (.slice A5 (t.ss.length + 1) c5) (t.ss ++ [s]) := OwnRows.rowsIn strL_len HO6.out
    have hlt := blk_lt HR1.out
    have hfar : RowsIn w1.heap.size w6.heap.size 1 strL _ (.slice A5 (t.ss.length + 1) c5) (t.ss ++ [s]) := (hrow.but (But.upd (S := fun i => i = w.heap.size + 1) hux rfl) fun b h1 _ h2 => by have := HP.out; omega).ext ((Ext.refl _).drewN 1)
    refine ⟨_, rfl, ⟨_, _, rfl, ?_, ?_⟩, hx.drewN 1, fun S hS h => ?_⟩
    · exact ((hrow.but (But.upd (S := fun i => i = w.heap.size + 1) hux rfl) fun b h1 _ h2 => by have := HP.out; omega).rows).ext ((Ext.refl _).drewN 1)
    · exact H2.out.ext (hx.drewN 1)
    · obtain ⟨sv, kv, hv, _, h2⟩ := h
      simp only [Value.agg.injEq, Array.mk.injEq, List.cons.injEq, and_true] at hv
      obtain ⟨rfl, rfl⟩ := hv
      exact ⟨_, _, rfl, hfar.off fun b h1 _ h3 => by have := hS b h3; have := HX1.out.size; omega, h2.but (But.ext (hx.drewN 1))⟩

theorem Tb.add_len (t : Tb) (s : ByteArray) : (t.add s).1.ss.length ≤ t.ss.length + 1 ∧ (t.add s).1.ks = t.ks := by
  unfold Tb.add
  split
  · simp
  · split <;> simp
set_option maxRecDepth 100000 in
set_option maxHeartbeats 8000000 in
theorem rstr_any (v : Value) (t : Tb) (s : ByteArray) (w : World) (h : TabAt w v t) (hf : t.Fine) (hl : t.ss.length ≤ 90000) :
    Calls Try.prog 12 #[v, .string s] w (AddP (t.string s) w) := by
  obtain ⟨A, c, B, d, rfl, h1, h2⟩ := h.two
  obtain ⟨w1, hw1⟩ : ∃ w1, (w.alloc (.cells #[.slice A t.ss.length c, .slice B t.ks.length d] 25)).alloc (.cells #[.slice none 0 0, .slice none 0 0] 25) = w1 := ⟨_, rfl⟩
  obtain ⟨p, hp⟩ : ∃ p, w.heap.size = p := ⟨_, rfl⟩
  have HX1 : Hid (Ext w w1) := Lib.hid (by rw [← hw1]; exact ((Ext.refl w).alloc _).alloc _)
  have HB1 : Hid (w1.heap[p]? = some (.cells #[.slice A t.ss.length c, .slice B t.ks.length d] 25 (0, 0))) := Lib.hid (by rw [← hw1, ← hp]; exact blk_alloc (blk_new w _) _)
  have HR1 : Hid (w1.heap[p + 1]? = some (.cells #[.slice none 0 0, .slice none 0 0] 25 (0, 0))) := Lib.hid (by
    have := blk_new (w.alloc (.cells #[.slice A t.ss.length c, .slice B t.ks.length d] 25)) (.cells #[.slice none 0 0, .slice none 0 0] 25)
    rw [hw1, show (w.alloc (.cells #[.slice A t.ss.length c, .slice B t.ks.length d] 25)).heap.size = p + 1 by simp [hp]] at this
    exact this)
  have HC : Hid (∀ w', Ext w1 w' → (w'.cell? ⟨w.heap.size, 0, none⟩ = some (.slice A t.ss.length c) ∧ w'.cell? ⟨w.heap.size, 1, none⟩ = some (.slice B t.ks.length d)) ∧ (w'.cell? ⟨w.heap.size + 1, 0, none⟩ = some (.slice none 0 0) ∧ w'.cell? ⟨w.heap.size + 1, 1, none⟩ = some (.slice none 0 0)) ∧ w'.frozen? ⟨w.heap.size + 1, 0, none⟩ = false ∧ w'.frozen? ⟨w.heap.size + 1, 1, none⟩ = false ∧ w'.heap[w.heap.size + 1]? = some (.cells #[.slice none 0 0, .slice none 0 0] 25 (0, 0))) := Lib.hid fun w' hx => by
    rw [hp]
    exact ⟨⟨blk_cell (hx.blk HB1.out) 0 _ rfl, blk_cell (hx.blk HB1.out) 1 _ rfl⟩, ⟨blk_cell (hx.blk HR1.out) 0 _ rfl, blk_cell (hx.blk HR1.out) 1 _ rfl⟩, frozen_of_row _ _ 0 _ _ (hx.blk HR1.out), frozen_of_row _ _ 1 _ _ (hx.blk HR1.out), hx.blk HR1.out⟩
  have HT1 := Lib.hid (h.ext HX1.out)
  have HF := Lib.hid hf
  have HT0 := Lib.hid h
  have HPS : Hid (w.heap.size + 1 < w1.heap.size) := Lib.hid (by have := blk_lt HR1.out; omega)
  have HW1 := Lib.hid hw1
  have HNONE : Hid (∀ w2, Ext w w2 → AddP (Tb.none, 0) w (.returned (.tuple #[.agg #[.slice none 0 0, .slice none 0 0], .int .i64 0])) ((w2.setCell ⟨w.heap.size + 1, 0, none⟩ (.slice none 0 0)).setCell ⟨w.heap.size + 1, 1, none⟩ (.slice none 0 0))) := Lib.hid fun w2 hx => ⟨_, rfl, tabAt_none _, hx.upd (upd2 _ _ _ _) (by omega)⟩
  have HFA : Hid ((t.add s).1.Fine) := Lib.hid ⟨by have := (Tb.add_len t s).1; omega, by rw [(Tb.add_len t s).2]; exact hf.ks, by rw [(Tb.add_len t s).2]; exact hf.len, by rw [(Tb.add_len t s).2]; exact hf.nums⟩
  have HEQ := Lib.hid (Tb.add_string t s)
  clear h h1 h2 hw1 hp hf
  obtain ⟨⟨b0, b1⟩, ⟨q0, q1⟩, y0, y1, -⟩ := HC.out w1 (Ext.refl _)
  cases hm : t.may with
  | false =>
    have HT : Hid (t.string s = (Tb.none, 0)) := Lib.hid (by rw [← HEQ.out, if_neg (by rw [hm]; simp)])
    have HM := Lib.hid (rtmay_k _ t false w1 hm HT1.out HF.out)
    go_enter Try.func12, Try.ntmps12
    go_wp2_with (rw [HW1.out])
    refine HM.out.mono ?_
    rintro e w2 ⟨rfl, hx⟩
    have HX2 := Lib.hid (HX1.out.trans hx)
    clear b0 b1 q0 q1 y0 y1
    obtain ⟨⟨b0, b1⟩, ⟨q0, q1⟩, y0, y1, hrow⟩ := HC.out w2 hx
    have HROW := Lib.hid hrow
    clear hx hrow
    go_wp2
    have hz := set2_at HROW.out (.slice none 0 0) (.slice none 0 0)
    have t0 := blk_cell hz 0 _ rfl
    have t1 := blk_cell hz 1 _ rfl
    refine bodyPost_ret (v := .tuple #[.agg #[.slice none 0 0, .slice none 0 0], .int .i64 0]) (by simp [results, Try.results12, go_sem, t0, t1]) rfl ?_
    rw [HT.out]
    exact HNONE.out _ HX2.out
  | true =>
    have HM := Lib.hid (rtmay_k _ t true w1 hm HT1.out HF.out)
    have l1 := HF.out.ss
    go_enter Try.func12, Try.ntmps12
    go_wp2_with (rw [HW1.out])
    refine HM.out.mono ?_
    rintro e w2 ⟨rfl, hx⟩
    have HXR := Lib.hid hx
    have HADD := Lib.hid (radd_any _ t s w2 (HT1.out.ext hx) l1)
    clear b0 b1 q0 q1 y0 y1
    obtain ⟨⟨b0, b1⟩, -⟩ := HC.out w2 hx
    clear hx
    go_wp2_with fail
    refine HADD.out.mono ?_
    rintro e w3 ⟨v3, rfl, ht3, hx3, hoff⟩
    have hof3 := hoff (fun b => b = w.heap.size + 1) (fun b hb => by have := HPS.out; have := HXR.out.size; omega) ((HT0.out.off (fun b hb => by omega)).but (But.ext (HX1.out.trans HXR.out)))
    obtain ⟨A3, c3, B3, d3, rfl, -, -⟩ := ht3.two
    obtain ⟨t3, ht⟩ : ∃ t3, (t.add s).1 = t3 := ⟨_, rfl⟩
    obtain ⟨n3, hn⟩ : ∃ n3, (t.add s).2 = n3 := ⟨_, rfl⟩
    have HADP : Hid (t.add s = (t3, n3)) := Lib.hid (Prod.ext ht hn)
    rw [ht] at ht3 HFA hof3
    rw [ht, hn]
    generalize t3.ss.length = ls at *
    generalize t3.ks.length = lk at *
    obtain ⟨w4, hw4⟩ : ∃ w4, w3.alloc (.cells #[.slice A3 ls c3, .slice B3 lk d3] 25) = w4 := ⟨_, rfl⟩
    obtain ⟨z, hz⟩ : ∃ z, w3.heap.size = z := ⟨_, rfl⟩
    have hx4 : Ext w3 w4 := by rw [← hw4]; exact (Ext.refl w3).alloc _
    have HQ4 : Hid (w4.heap[z]? = some (.cells #[.slice A3 ls c3, .slice B3 lk d3] 25 (0, 0))) := Lib.hid (by rw [← hw4, ← hz]; exact blk_new w3 _)
    have HT4 := Lib.hid (ht3.ext hx4)
    have HOF4 := Lib.hid (hof3.but (But.ext hx4))
    have HX4 := Lib.hid ((HXR.out.trans hx3).trans hx4)
    have HW4 := Lib.hid hw4
    have HZ4 := Lib.hid hz
    obtain ⟨m4, hm4⟩ : ∃ m4, t3.may = m4 := ⟨_, rfl⟩
    have HM4 := Lib.hid (rtmay_k _ t3 m4 w4 hm4 HT4.out HFA.out)
    have HME := Lib.hid hm4
    clear ht3 hof3 hoff hx3 hx4 hw4 hz hm4 b0 b1 ht hn
    have r0 : w4.cell? ⟨w3.heap.size, 0, none⟩ = some (.slice A3 ls c3) := by rw [HZ4.out]; exact blk_cell HQ4.out 0 _ rfl
    have r1 : w4.cell? ⟨w3.heap.size, 1, none⟩ = some (.slice B3 lk d3) := by rw [HZ4.out]; exact blk_cell HQ4.out 1 _ rfl
    go_wp2_with (rw [HW4.out])
    refine HM4.out.mono ?_
    rintro e w5 ⟨rfl, hx5⟩
    have HT5 := Lib.hid (HT4.out.ext hx5)
    have HOF5 := Lib.hid (HOF4.out.but (But.ext hx5))
    have HX5 := Lib.hid (HX4.out.trans hx5)
    have HQ5 := Lib.hid (hx5.blk HQ4.out)
    clear hx5 r0 r1
    obtain ⟨-, ⟨q0, q1⟩, y0, y1, hrow⟩ := HC.out w5 HX5.out
    have HROW := Lib.hid hrow
    clear hrow
    have r0 : w5.cell? ⟨w3.heap.size, 0, none⟩ = some (.slice A3 ls c3) := by rw [HZ4.out]; exact blk_cell HQ5.out 0 _ rfl
    have r1 : w5.cell? ⟨w3.heap.size, 1, none⟩ = some (.slice B3 lk d3) := by rw [HZ4.out]; exact blk_cell HQ5.out 1 _ rfl
    cases m4 with
    | false =>
      have HT : Hid (t.string s = (Tb.none, 0)) := Lib.hid (by rw [← HEQ.out, if_pos hm, HADP.out, if_neg (by rw [HME.out]; simp)])
      go_wp2
      have hz := set2_at HROW.out (.slice none 0 0) (.slice none 0 0)
      have t0 := blk_cell hz 0 _ rfl
      have t1 := blk_cell hz 1 _ rfl
      refine bodyPost_ret (v := .tuple #[.agg #[.slice none 0 0, .slice none 0 0], .int .i64 0]) (by simp [results, Try.results12, go_sem, t0, t1]) rfl ?_
      rw [HT.out]
      exact HNONE.out _ (HX1.out.trans HX5.out)
    | true =>
      have HT : Hid (t.string s = (t3, n3)) := Lib.hid (by rw [← HEQ.out, if_pos hm, HADP.out, if_pos HME.out])
      go_wp2
      have hz := set2_at HROW.out (.slice A3 ls c3) (.slice B3 lk d3)
      have t0 := blk_cell hz 0 _ rfl
      have t1 := blk_cell hz 1 _ rfl
      have hux := upd2 (w.heap.size + 1) w5 (.slice A3 ls c3) (.slice B3 lk d3)
      refine bodyPost_ret (v := .tuple #[.agg #[.slice A3 ls c3, .slice B3 lk d3], .int .i64 n3]) (by simp [results, Try.results12, go_sem, t0, t1]) rfl ?_
      rw [HT.out]
      exact ⟨_, rfl, (HOF5.out.but (But.upd hux rfl)).tab, (HX1.out.trans HX5.out).upd hux (by omega)⟩
set_option maxRecDepth 100000 in
set_option maxHeartbeats 4000000 in
theorem rname_any (v : Value) (t : Tb) (id : Int) (w : World) (h : TabAt w v t) (hf : t.Fine) :
    Calls Try.prog 16 #[v, .int .i64 id] w (NameP (t.name id) w) := by
  have hl := hf.ss
  have hm' := hf.ks
  obtain ⟨A, c, B, d, rfl, h1, h2⟩ := h.two
  obtain ⟨w1, hw1⟩ : ∃ w1, w.alloc (.cells #[.slice A t.ss.length c, .slice B t.ks.length d] 25) = w1 := ⟨_, rfl⟩
  have HX1 : Hid (Ext w w1) := Lib.hid (by rw [← hw1]; exact (Ext.refl w).alloc _)
  have HB1 : Hid (w1.heap[w.heap.size]? = some (.cells #[.slice A t.ss.length c, .slice B t.ks.length d] 25)) := Lib.hid (by rw [← hw1]; exact blk_new w _)
  have HM := Lib.hid (rtmay_any _ t w1 (h.ext HX1.out) hf)
  have HW1 := Lib.hid hw1
  have HS := Lib.hid h1
  have b0 := blk_cell HB1.out 0 _ rfl
  have b1 := blk_cell HB1.out 1 _ rfl
  clear h h1 h2 hw1
  by_cases hin : 0 ≤ id ∧ id ≤ t.ss.length
  · obtain ⟨i0, i1⟩ := hin
    cases hm : t.may with
    | false =>
      have HT : Hid (t.name id = (⟨#[]⟩, false)) := Lib.hid (by unfold Tb.name; rw [if_neg (by rw [hm]; simp)])
      rw [hm] at HM
      go_enter Try.func16, Try.ntmps16
      go_wp2_with (rw [HW1.out])
      refine HM.out.mono ?_
      rintro e w2 ⟨rfl, hx⟩
      go_wp2
      go_ret2
      rw [HT.out]
      exact ⟨rfl, HX1.out.trans hx⟩
    | true =>
      rw [hm] at HM
      by_cases h0 : id = 0
      · subst h0
        have HT : Hid (t.name 0 = (⟨#[]⟩, true)) := Lib.hid (by unfold Tb.name; rw [if_pos ⟨i0, i1, hm⟩, if_pos rfl])
        go_enter Try.func16, Try.ntmps16
        go_wp2_with (rw [HW1.out])
        refine HM.out.mono ?_
        rintro e w2 ⟨rfl, hx⟩
        go_wp2
        go_ret2
        rw [HT.out]
        exact ⟨rfl, HX1.out.trans hx⟩
      · obtain ⟨k, rfl⟩ : ∃ k : Nat, id = (k : Int) + 1 := ⟨(id - 1).toNat, by omega⟩
        have hk : k < t.ss.length := by omega
        obtain ⟨s, hs⟩ : ∃ s, t.ss[k]? = some s := ⟨_, List.getElem?_eq_getElem hk⟩
        have HT : Hid (t.name ((k : Int) + 1) = (s, true)) := Lib.hid (by
          unfold Tb.name
          rw [if_pos ⟨i0, i1, hm⟩, if_neg h0, show ((k : Int) + 1 - 1).toNat = k by omega, List.getD, hs]
          rfl)
        have hz0 : (((k : Int) + 1) == 0) = false := by simpa using h0
        have HSS := Lib.hid hs
        clear hs
        go_enter Try.func16, Try.ntmps16
        go_wp2_with (rw [HW1.out])
        refine HM.out.mono ?_
        rintro e w2 ⟨rfl, hx⟩
        obtain ⟨b, o, rfl, hb, hcell⟩ := strs_get (HS.out.ext (HX1.out.trans hx)) HSS.out
        have hb2 := hx.blk HB1.out
        have HB2 := Lib.hid hb2
        have HX2 := Lib.hid (HX1.out.trans hx)
        clear hx b0 b1 hb2
        have b0 := blk_cell HB2.out 0 _ rfl
        go_wp2
        go_ret2
        rw [HT.out]
        exact ⟨rfl, HX2.out⟩
  · have HT : Hid (t.name id = (⟨#[]⟩, false)) := Lib.hid (by unfold Tb.name; rw [if_neg (fun h => hin ⟨h.1, h.2.1⟩)])
    by_cases hn : id < 0
    · go_enter Try.func16, Try.ntmps16
      go_wp2_with (rw [HW1.out])
      go_ret2
      rw [HT.out]
      exact ⟨rfl, by first | exact HX1.out | (rw [HW1.out]; exact HX1.out)⟩
    · have hb : (t.ss.length : Int) < id := by omega
      go_enter Try.func16, Try.ntmps16
      go_wp2_with (rw [HW1.out])
      go_ret2
      rw [HT.out]
      exact ⟨rfl, by first | exact HX1.out | (rw [HW1.out]; exact HX1.out)⟩
set_option maxRecDepth 100000 in
set_option maxHeartbeats 8000000 in
theorem rframes_any (v : Value) (t : Tb) (id : Int) (w : World) (h : TabAt w v t) (hf : t.Fine) :
    Calls Try.prog 18 #[v, .int .i64 id] w (FramesP (t.frames id) w) := by
  have hl := hf.ss
  have hm' := hf.ks
  obtain ⟨A, c, B, d, rfl, h1, h2⟩ := h.two
  obtain ⟨w1, hw1⟩ : ∃ w1, w.alloc (.cells #[.slice A t.ss.length c, .slice B t.ks.length d] 25) = w1 := ⟨_, rfl⟩
  have HX1 : Hid (Ext w w1) := Lib.hid (by rw [← hw1]; exact (Ext.refl w).alloc _)
  have HB1 : Hid (w1.heap[w.heap.size]? = some (.cells #[.slice A t.ss.length c, .slice B t.ks.length d] 25)) := Lib.hid (by rw [← hw1]; exact blk_new w _)
  have HM := Lib.hid (rtmay_any _ t w1 (h.ext HX1.out) hf)
  have HW1 := Lib.hid hw1
  have HS := Lib.hid h1
  have HK := Lib.hid h2
  have b0 := blk_cell HB1.out 0 _ rfl
  have b1 := blk_cell HB1.out 1 _ rfl
  clear h h1 h2 hw1
  have HNIL : Hid (∀ w' b, Ext w w' → t.frames id = ([], b) → FramesP (t.frames id) w (.returned (.tuple #[.slice none 0 0, .bool b])) w') := Lib.hid fun w' b hx ht => by
    rw [ht]
    exact ⟨_, rfl, RowsAt.nil w', hx⟩
  by_cases hin : 0 ≤ id ∧ id ≤ t.ks.length
  · obtain ⟨i0, i1⟩ := hin
    cases hm : t.may with
    | false =>
      have HT : Hid (t.frames id = ([], false)) := Lib.hid (by unfold Tb.frames; rw [if_neg (by rw [hm]; simp)])
      rw [hm] at HM
      go_enter Try.func18, Try.ntmps18
      go_wp2_with (rw [HW1.out])
      refine HM.out.mono ?_
      rintro e wm ⟨rfl, hx⟩
      go_wp2
      go_ret2
      exact HNIL.out _ _ (HX1.out.trans hx) HT.out
    | true =>
      rw [hm] at HM
      by_cases h0 : id = 0
      · subst h0
        have HT : Hid (t.frames 0 = ([], true)) := Lib.hid (by unfold Tb.frames; rw [if_pos ⟨i0, i1, hm⟩, if_pos rfl])
        go_enter Try.func18, Try.ntmps18
        go_wp2_with (rw [HW1.out])
        refine HM.out.mono ?_
        rintro e wm ⟨rfl, hx⟩
        have HX2 := Lib.hid (HX1.out.trans hx)
        clear hx b0 b1
        go_wp2_with fail
        go_loopw [6, 7] (fun ov iv wr => iv = .int .i64 0 ∧ RowsAt 2 fcL wr ov [] ∧ Ext wm wr) (fun _ iv _ => 1)
        case atStart => exact ⟨rfl, ⟨_, _, rfl, Nat.le_refl _, fun h => by simp at h⟩, (Ext.refl wm).alloc _⟩
        case round =>
          obtain ⟨rfl, hr, hxr⟩ := hrel
          go_wp2
          go_ret2
          rw [HT.out]
          exact ⟨_, rfl, hr, HX2.out.trans hxr⟩
      · obtain ⟨k, rfl⟩ : ∃ k : Nat, id = (k : Int) + 1 := ⟨(id - 1).toNat, by omega⟩
        have hk : k < t.ks.length := by omega
        obtain ⟨l, hs⟩ : ∃ l, t.ks[k]? = some l := ⟨_, List.getElem?_eq_getElem hk⟩
        have HT : Hid (t.frames ((k : Int) + 1) = (Tb.told t.ss l, true)) := Lib.hid (by
          unfold Tb.frames
          rw [if_pos ⟨i0, i1, hm⟩, if_neg h0, show ((k : Int) + 1 - 1).toNat = k by omega, List.getD, hs]
          rfl)
        have hz0 : (((k : Int) + 1) == 0) = false := by simpa using h0
        have hml := Tb.mayK_iff.1 ((Tb.may_iff.1 hm).2.2.2.2.1 l (List.mem_of_getElem? hs))
        have HML := Lib.hid hml.2.2
        have hl100 := hml.2.1
        have HSS := Lib.hid hs
        clear hs hml
        go_enter Try.func18, Try.ntmps18
        go_wp2_with (rw [HW1.out])
        refine HM.out.mono ?_
        rintro e wm ⟨rfl, hx⟩
        obtain ⟨b, o, u, rfl, hb, hcell, hrow⟩ := (HK.out.ext (HX1.out.trans hx)).one HSS.out
        obtain ⟨C, q, rfl, hq⟩ := hrow.form
        have HB2 := Lib.hid (hx.blk HB1.out)
        have HX2 := Lib.hid (HX1.out.trans hx)
        have HR2 := Lib.hid hrow
        clear hx b0 b1 hrow
        have HCL := Lib.hid hcell
        have HBB := Lib.hid hb
        clear hcell hb
        go_wp2_with fail
        go_loopw [6, 7] (fun ov iv wr => ∃ j : Nat, j ≤ l.length ∧ iv = .int .i64 j ∧ OwnRows 45 2 fcL wr wm.heap.size ov (Tb.told t.ss (l.take j)) ∧ Ext wm wr) (fun _ iv _ => l.length - (intOf iv).toNat)
        case atStart => exact ⟨0, by omega, rfl, World.ownsRow_made (base := wm.heap.size) (e := 45) (size := 2) wm #[] 0 (Nat.le_refl _) (by decide) rfl, (Ext.refl wm).alloc _⟩
        case round =>
          obtain ⟨j, hj, rfl, hown, hxr⟩ := hrel
          have HO := Lib.hid hown
          have HXR := Lib.hid hxr
          have hlr : (Tb.told t.ss (l.take j)).length = j := by unfold Tb.told; rw [List.length_map, List.length_take]; omega
          obtain ⟨Ao, co, rfl, hco⟩ := (OwnRows.rows fcL_len hown).form
          rw [hlr] at hco HO ⊢
          clear hown hxr
          have b1 := blk_cell (HXR.out.blk HB2.out) 1 _ rfl
          have ck : wr.cell? ⟨b, o + k, none⟩ = some (.slice C l.length q) := (Below.cell HXR.out HBB.out).trans HCL.out
          have hkp : (0 : Int) < (k : Int) + 1 := by omega
          have hkk : (k : Int) + 1 - 1 = (k : Int) := by omega
          by_cases hlt : j < l.length
          · obtain ⟨f, hf⟩ : ∃ f, l[j]? = some f := ⟨_, List.getElem?_eq_getElem hlt⟩
            have hff : l[j] = f := (List.getElem?_eq_some_iff.1 hf).2
            have hfm := HML.out f (List.mem_of_getElem? hf)
            have HTN := Lib.hid (Tb.told_next (ss := t.ss) hlt)
            rw [hff] at HTN
            obtain ⟨b', o', rfl, hb', c0, c1⟩ := frs_get (HR2.out.ext HXR.out) hf
            obtain ⟨f0, f1⟩ := f
            simp only at hfm c0 c1 HTN
            obtain ⟨p, rfl⟩ : ∃ p : Nat, f0 = (p : Int) + 1 := ⟨(f0 - 1).toNat, by omega⟩
            have hp : p < t.ss.length := by omega
            obtain ⟨s, hs⟩ : ∃ s, t.ss[p]? = some s := ⟨_, List.getElem?_eq_getElem hp⟩
            rw [show ((p : Int) + 1 - 1).toNat = p by omega, List.getD, hs, Option.getD_some] at HTN
            obtain ⟨bs, os, rfl, hbs, cs⟩ := strs_get (HS.out.ext (HX2.out.trans HXR.out)) hs
            obtain ⟨w3, hw3⟩ : ∃ w3, wr.alloc (.cells #[.int .i64 ((p : Int) + 1), .int .i64 f1] 54) = w3 := ⟨_, rfl⟩
            obtain ⟨n, hn⟩ : ∃ n, wr.heap.size = n := ⟨_, rfl⟩
            have hx3 : Ext wr w3 := by rw [← hw3]; exact (Ext.refl wr).alloc _
            have hq3 : w3.heap[n]? = some (.cells #[.int .i64 ((p : Int) + 1), .int .i64 f1] 54 (0, 0)) := by rw [← hw3, ← hn]; exact blk_new wr _
            have HB3 := Lib.hid ((HXR.out.trans hx3).blk HB2.out)
            have HX3 := Lib.hid (HXR.out.trans hx3)
            have HO3 := Lib.hid (OwnRows.ext HO.out hx3)
            have cs3 : w3.cell? ⟨bs, os + p, none⟩ = some (.string s) := (Below.cell hx3 hbs).trans cs
            have HQ3 := Lib.hid hq3
            have HW3 := Lib.hid hw3
            have HN3 := Lib.hid hn
            have q0 := blk_cell hq3 0 _ rfl
            have q1 := blk_cell hq3 1 _ rfl
            have b0 := blk_cell HB3.out 0 _ rfl
            have HSP := Lib.hid hs
            clear hx3 hq3 hw3 hn cs hff hf hs
            obtain ⟨i0, I0, I1, I2, I3⟩ := info_parts Try.infoFr
            have J0 := Lib.hid I0
            have J1 := Lib.hid I1
            have J2 := Lib.hid I2
            have J3 := Lib.hid I3
            have hlr3 : (Tb.told t.ss (l.take j)).length = j := hlr
            have HLR := Lib.hid hlr3
            have HCS := Lib.hid (fun w' (hx : Ext wm w') => strs_get (HS.out.ext (HX2.out.trans hx)) HSP.out)
            have hwp : IntKind.i64.wrap (p : Int) = (p : Int) := IntWalk.i64_in _ (by omega)
            have hpi : (p : Int) < (t.ss.length : Int) := by omega
            have hpn : (0 : Int) ≤ (p : Int) := by omega
            clear I0 I1 I2 I3 hlr3
            rcases HO3.out.2 with ⟨hv0, hl0⟩ | ⟨gb, cap, cur, hv0, hgb, hgc, _⟩
            · rw [HLR.out] at hl0
              subst hl0
              simp only [Value.slice.injEq, true_and] at hv0
              obtain ⟨rfl, rfl⟩ := hv0
              simp only [Nat.zero_mul, Nat.add_zero] at c0 c1
              have HCS3 := Lib.hid (fun w' (hx : Ext w3 w') => HCS.out w' (HX3.out.trans hx))
              go_upto_region 8 with (rw [HW3.out, HN3.out])
              clear q0 q1 b0 cs3 c0 c1
              refine region_rgx ([(11, (fun u => ∃ x, u = .slice (some ⟨x, 0, none⟩) 1 1 : Value → Prop), (fun u w => OneRow w3.heap.size 45 fcL w (u 11).v (s, f1) : (Nat → GV) → World → Prop)), (12, (fun u => ∃ A c, u = .slice A 1 c : Value → Prop), (fun u w => OwnRows 45 2 fcL w wm.heap.size (u 12).v [(s, f1)] : (Nat → GV) → World → Prop))]) (w3) (by kernel_rfl) (by kernel_rfl) ?_ ?_ ?_
              · exact List.forall_mem_cons.2 ⟨⟨⟨_, 0, rfl⟩, fun u v w h ht => by show (fun u w => OneRow w3.heap.size 45 fcL w (u 11).v (s, f1) : (Nat → GV) → World → Prop) v w; dsimp only; rw [← h 11 (.inl rfl) (by kernel_rfl)]; exact ht, fun u w w2 hx ht => ht.ext hx⟩, List.forall_mem_cons.2 ⟨⟨⟨_, none, 0, rfl⟩, fun u v w h ht => by show (fun u w => OwnRows 45 2 fcL w wm.heap.size (u 12).v [(s, f1)] : (Nat → GV) → World → Prop) v w; dsimp only; rw [← h 12 (.inl rfl) (by kernel_rfl)]; exact ht, fun u w w2 hx ht => ht.ext hx⟩, List.forall_mem_nil _⟩⟩
              · first | assumption | exact Ext.refl _
              refine rg_pure (v := ?_) rfl (by kernel_rfl) (by kernel_rfl) (fun w hS hN => ?_) ?_
              rotate_left 1
              · clear hN
                go_simp
                refine givesP_mk ?_
                with_reducible rfl
              refine rg_pure (v := ?_) rfl (by kernel_rfl) (by kernel_rfl) (fun w hS hN => ?_) ?_
              rotate_left 1
              · clear hN
                go_simp
                refine givesP_mk ?_
                with_reducible rfl
              refine rg_pure (v := ?_) rfl (by kernel_rfl) (by kernel_rfl) (fun w hS hN => ?_) ?_
              rotate_left 1
              · have k0 := blk_cell (hS.blk HB3.out) 0 _ rfl
                clear hN
                go_simp
                refine givesP_mk ?_
                with_reducible rfl
              refine rg_pure (v := ?_) rfl (by kernel_rfl) (by kernel_rfl) (fun w hS hN => ?_) ?_
              rotate_left 1
              · clear hN
                go_simp
                refine givesP_mk ?_
                with_reducible rfl
              refine rg_pure (v := ?_) rfl (by kernel_rfl) (by kernel_rfl) (fun w hS hN => ?_) ?_
              rotate_left 1
              · have k0 := blk_cell (hS.blk HQ3.out) 0 _ rfl
                clear hN
                go_simp
                refine givesP_mk ?_
                with_reducible rfl
              refine rg_pure (v := ?_) rfl (by kernel_rfl) (by kernel_rfl) (fun w hS hN => ?_) ?_
              rotate_left 1
              · clear hN
                go_simp
                refine givesP_mk ?_
                with_reducible rfl
              refine rg_pure (v := ?_) rfl (by kernel_rfl) (by kernel_rfl) (fun w hS hN => ?_) ?_
              rotate_left 1
              · clear hN
                go_simp
                refine givesP_mk ?_
                with_reducible rfl
              refine rg_pure (v := ?_) rfl (by kernel_rfl) (by kernel_rfl) (fun w hS hN => ?_) ?_
              rotate_left 1
              · obtain ⟨b2, o2, hbo, _, k0⟩ := HCS3.out w hS
                simp only [Option.some.injEq, Addr.mk.injEq, and_true] at hbo
                obtain ⟨rfl, rfl⟩ := hbo
                clear hN
                go_simp
                refine givesP_mk ?_
                with_reducible rfl
              refine rg_pure (v := ?_) rfl (by kernel_rfl) (by kernel_rfl) (fun w hS hN => ?_) ?_
              rotate_left 1
              · clear hN
                go_simp
                refine givesP_mk ?_
                with_reducible rfl
              refine rg_pure (v := ?_) rfl (by kernel_rfl) (by kernel_rfl) (fun w hS hN => ?_) ?_
              rotate_left 1
              · have k0 := blk_cell (hS.blk HQ3.out) 1 _ rfl
                clear hN
                go_simp
                refine givesP_mk ?_
                with_reducible rfl
              refine rg_pure (v := ?_) rfl (by kernel_rfl) (by kernel_rfl) (fun w hS hN => ?_) ?_
              rotate_left 1
              · clear hN
                go_simp
                refine givesP_mk ?_
                with_reducible rfl
              refine rg_mem (fun u => ∃ x, u = .slice (some ⟨x, 0, none⟩) 1 1 : Value → Prop) (fun u w => OneRow w3.heap.size 45 fcL w (u 11).v (s, f1) : (Nat → GV) → World → Prop) (fun _ => Ext) rfl rfl rfl rfl (by kernel_rfl) (by kernel_rfl) (fun w hS hN R hR => ?_) ?_
              · have HR := Lib.hid hR
                clear hR
                (try clear hN)
                go_simp
                exact givesM_val (HR.out _ _ ⟨_, rfl⟩ (OneRow.made hS.size (s, f1)) ((Ext.refl w).alloc _))
              rintro u11 s11 t11 ⟨x11, rfl⟩
              refine rg_mem (fun u => ∃ A c, u = .slice A 1 c : Value → Prop) (fun u w => OwnRows 45 2 fcL w wm.heap.size (u 12).v [(s, f1)] : (Nat → GV) → World → Prop) (fun _ => Ext) rfl rfl rfl rfl (by kernel_rfl) (by kernel_rfl) (fun w hS hN R hR => ?_) ?_
              · have HR := Lib.hid hR
                clear hR
                have h11 : OneRow w3.heap.size 45 fcL w (.slice (some ⟨x11, 0, none⟩) 1 1) (s, f1) := hN.get 11 rfl (by kernel_rfl)
                obtain ⟨v', w', hr, ho, hg⟩ := OwnRows.append (P := Try.prog) (B := wm.heap.size) (xs := []) (ys := [(s, f1)]) (w := w) 26 Try.underlying26 J0.out J1.out J2.out J3.out rfl (by decide) fcL_len fcL_one (OwnRows.nil _ _) h11.rows (by unfold maxLen; simp) (by simp) (by have := HX3.out.size; have := hS.size; omega)
                obtain ⟨A', c', hv, _⟩ := (OwnRows.rows fcL_len ho).form
                simp only [List.nil_append, List.length_singleton] at hr ho hv
                refine givesM_append _ _ 26 rfl _ _ (by go_simp) (by go_simp) hr ?_
                exact HR.out _ _ ⟨_, _, hv⟩ ho ⟨hg.os, hg.tape, hg.output, hg.size, fun i hi => hg.block i hi (by simp [Value.ownBlock])⟩
              rintro u12 s12 t12 ⟨A12, c12, rfl⟩
              refine rg_pure (v := ?_) rfl (by kernel_rfl) (by kernel_rfl) (fun w hS hN => ?_) ?_
              rotate_left 1
              · clear hN
                go_simp
                refine givesP_mk ?_
                with_reducible rfl
              refine rg_done rfl (Nat.le_of_ble_eq_true (by kernel_rfl)) ?_
              intro w8 hS hT
              have h12 : OwnRows 45 2 fcL w8 wm.heap.size (.slice A12 1 c12) [(s, f1)] := hT (12, ⟨.slice A12 1 c12, s12, t12⟩) (by simp)
              have HO8 := Lib.hid h12
              have HX8 := Lib.hid (HX3.out.trans hS)
              clear h12 hS hT
              go_simp
              go_wp2
              go_roundw
              case rel => exact ⟨0 + 1, by omega, by go_num, by rw [HTN.out]; exact HO8.out, HX8.out⟩
              case measure => simp [intOf]; omega
            · simp only [Value.slice.injEq] at hv0
              obtain ⟨rfl, -, rfl⟩ := hv0
              have hgn : gb < n := by
                have := (OwnRows.lt HO.out gb rfl).2
                have := HN3.out
                omega
              have hn3 := blk_lt HQ3.out
              go_upto_region 8 with (rw [HW3.out, HN3.out])
              clear q0 q1 b0 cs3 c0 c1
              have hx3 := HX3.out
              have hfk : FrK n (.int .i64 ((p : Int) + 1)) (.int .i64 f1) wm.heap.size (.slice (some ⟨gb, 0, none⟩) j co) (Tb.told t.ss (l.take j)) w3 := ⟨HO3.out, HQ3.out⟩
              have hvl : (∀ k, (Value.slice (some ⟨gb, 0, none⟩) j co).ownBlock = some k → k < w3.heap.size) ∧ n < w3.heap.size := ⟨fun k hk => (HO3.out.lt k hk).2, hn3⟩
              refine region_rgz ([(11, (fun u => ∃ x, u = .slice (some ⟨x, 0, none⟩) 1 1 : Value → Prop), (fun u w => OneRow w3.heap.size 45 fcL w (u 11).v (s, f1) : (Nat → GV) → World → Prop)), (12, (fun u => ∃ A c, u = .slice A (j + 1) c : Value → Prop), (fun u w => OwnRows 45 2 fcL w wm.heap.size (u 12).v (Tb.told t.ss (l.take j) ++ [(s, f1)]) : (Nat → GV) → World → Prop))]) (wm) (w3.heap.size) (gb) (12) (FrK n (.int .i64 ((p : Int) + 1)) (.int .i64 f1) wm.heap.size (.slice (some ⟨gb, 0, none⟩) j co) (Tb.told t.ss (l.take j))) ([]) (by kernel_rfl) (by kernel_rfl) ?_ ?_ (by omega) (fun w w2 hl hk => by first | (obtain ⟨x, hx⟩ := hk; exact ⟨x, (hl _ (by omega)).trans hx⟩) | exact hk.low hl (by assumption)) ?_ ?_ ?_ ?_
              · exact List.forall_mem_nil _
              · exact List.forall_mem_cons.2 ⟨⟨⟨_, 0, rfl⟩, fun u v w h ht => by show (fun u w => OneRow w3.heap.size 45 fcL w (u 11).v (s, f1) : (Nat → GV) → World → Prop) v w; dsimp only; rw [← h 11 (.inl rfl) (by kernel_rfl)]; exact ht, fun u w w2 hx ht => ht.ext hx, List.forall_mem_nil _, fun _ u w w2 hz ht => ht.updz hz (by omega)⟩, List.forall_mem_cons.2 ⟨⟨⟨_, none, 0, rfl⟩, fun u v w h ht => by show (fun u w => OwnRows 45 2 fcL w wm.heap.size (u 12).v (Tb.told t.ss (l.take j) ++ [(s, f1)]) : (Nat → GV) → World → Prop) v w; dsimp only; rw [← h 12 (.inl rfl) (by kernel_rfl)]; exact ht, fun u w w2 hx ht => ht.ext hx, List.forall_mem_nil _, fun hne => absurd rfl hne⟩, List.forall_mem_nil _⟩⟩
              · first | assumption | exact Ext.refl _
              · first | assumption | omega
              · assumption
              refine rg_pure (v := ?_) rfl (by kernel_rfl) (by kernel_rfl) (fun w hS hN => ?_) ?_
              rotate_left 1
              · obtain ⟨hS, hM, hK⟩ := hS
                clear hN
                go_simp
                refine givesP_mk ?_
                with_reducible rfl
              refine rg_pure (v := ?_) rfl (by kernel_rfl) (by kernel_rfl) (fun w hS hN => ?_) ?_
              rotate_left 1
              · obtain ⟨hS, hM, hK⟩ := hS
                clear hN
                go_simp
                refine givesP_mk ?_
                with_reducible rfl
              refine rg_pure (v := ?_) rfl (by kernel_rfl) (by kernel_rfl) (fun w hS hN => ?_) ?_
              rotate_left 1
              · obtain ⟨hS, hM, hK⟩ := hS
                have k0 := blk_cell (hS.blk HB2.out) 0 _ rfl
                clear hN
                go_simp
                refine givesP_mk ?_
                with_reducible rfl
              refine rg_pure (v := ?_) rfl (by kernel_rfl) (by kernel_rfl) (fun w hS hN => ?_) ?_
              rotate_left 1
              · obtain ⟨hS, hM, hK⟩ := hS
                clear hN
                go_simp
                refine givesP_mk ?_
                with_reducible rfl
              refine rg_pure (v := ?_) rfl (by kernel_rfl) (by kernel_rfl) (fun w hS hN => ?_) ?_
              rotate_left 1
              · obtain ⟨hS, hM, hK⟩ := hS
                have k0 := blk_cell hK.box 0 _ rfl
                clear hN
                go_simp
                refine givesP_mk ?_
                with_reducible rfl
              refine rg_pure (v := ?_) rfl (by kernel_rfl) (by kernel_rfl) (fun w hS hN => ?_) ?_
              rotate_left 1
              · obtain ⟨hS, hM, hK⟩ := hS
                clear hN
                go_simp
                refine givesP_mk ?_
                with_reducible rfl
              refine rg_pure (v := ?_) rfl (by kernel_rfl) (by kernel_rfl) (fun w hS hN => ?_) ?_
              rotate_left 1
              · obtain ⟨hS, hM, hK⟩ := hS
                clear hN
                go_simp
                refine givesP_mk ?_
                with_reducible rfl
              refine rg_pure (v := ?_) rfl (by kernel_rfl) (by kernel_rfl) (fun w hS hN => ?_) ?_
              rotate_left 1
              · obtain ⟨hS, hM, hK⟩ := hS
                obtain ⟨b2, o2, hbo, _, k0⟩ := HCS.out w hS
                simp only [Option.some.injEq, Addr.mk.injEq, and_true] at hbo
                obtain ⟨rfl, rfl⟩ := hbo
                clear hN
                go_simp
                refine givesP_mk ?_
                with_reducible rfl
              refine rg_pure (v := ?_) rfl (by kernel_rfl) (by kernel_rfl) (fun w hS hN => ?_) ?_
              rotate_left 1
              · obtain ⟨hS, hM, hK⟩ := hS
                clear hN
                go_simp
                refine givesP_mk ?_
                with_reducible rfl
              refine rg_pure (v := ?_) rfl (by kernel_rfl) (by kernel_rfl) (fun w hS hN => ?_) ?_
              rotate_left 1
              · obtain ⟨hS, hM, hK⟩ := hS
                have k0 := blk_cell hK.box 1 _ rfl
                clear hN
                go_simp
                refine givesP_mk ?_
                with_reducible rfl
              refine rg_pure (v := ?_) rfl (by kernel_rfl) (by kernel_rfl) (fun w hS hN => ?_) ?_
              rotate_left 1
              · obtain ⟨hS, hM, hK⟩ := hS
                clear hN
                go_simp
                refine givesP_mk ?_
                with_reducible rfl
              refine rg_mem (fun u => ∃ x, u = .slice (some ⟨x, 0, none⟩) 1 1 : Value → Prop) (fun u w => OneRow w3.heap.size 45 fcL w (u 11).v (s, f1) : (Nat → GV) → World → Prop) (fun _ => Ext) rfl rfl rfl rfl (by kernel_rfl) (by kernel_rfl) (fun w hS hN R hR => ?_) ?_
              · obtain ⟨hS, hM, hK⟩ := hS
                have HR := Lib.hid hR
                clear hR
                (try clear hN)
                go_simp
                exact givesM_val (HR.out _ _ ⟨_, rfl⟩ (OneRow.made hM (s, f1)) ((Ext.refl w).alloc _))
              rintro u11 s11 t11 ⟨x11, rfl⟩
              refine rg_mem (fun u => ∃ A c, u = .slice A (j + 1) c : Value → Prop) (fun u w => OwnRows 45 2 fcL w wm.heap.size (u 12).v (Tb.told t.ss (l.take j) ++ [(s, f1)]) : (Nat → GV) → World → Prop) (fun _ w w2 => Upd (gb) w w2 ∧ (FrK n (.int .i64 ((p : Int) + 1)) (.int .i64 f1) wm.heap.size (.slice (some ⟨gb, 0, none⟩) j co) (Tb.told t.ss (l.take j)) : World → Prop) w2) rfl rfl rfl rfl (by kernel_rfl) (by kernel_rfl) (fun w hS hN R hR => ?_) ?_
              · obtain ⟨hS, hM, hK⟩ := hS
                have HR := Lib.hid hR
                clear hR
                have h11 : OneRow w3.heap.size 45 fcL w (.slice (some ⟨x11, 0, none⟩) 1 1) (s, f1) := hN.get 11 rfl (by kernel_rfl)
                obtain ⟨v', w', hr, ⟨A', c', rfl⟩, ho, hu, hk⟩ := OwnRows.appendZ (P := Try.prog) (ys := [(s, f1)]) (g := gb) 26 Try.underlying26 J0.out J1.out J2.out J3.out rfl (by decide) fcL_len fcL_one hS hK.own (fun k hk => by cases hk; rfl) rfl h11.rows (by rw [HLR.out]; unfold maxLen; simp; omega) (by rw [HLR.out]; simp; omega)
                simp only [HLR.out, List.length_singleton] at hr ho
                refine givesM_append _ _ 26 rfl _ _ (by go_simp) (by go_simp) hr ?_
                exact HR.out _ _ ⟨_, _, rfl⟩ ho ⟨hu, hk, hu.blk hK.box (by omega)⟩
              rintro u12 s12 t12 ⟨A12, c12, rfl⟩
              refine rg_pure (v := ?_) rfl (by kernel_rfl) (by kernel_rfl) (fun w hS hN => ?_) ?_
              rotate_left 1
              · obtain ⟨hS, hM, hK⟩ := hS
                clear hN
                go_simp
                refine givesP_mk ?_
                with_reducible rfl
              refine rg_done rfl (Nat.le_of_ble_eq_true (by kernel_rfl)) ?_
              intro w8 hS hT
              have h12 : OwnRows 45 2 fcL w8 wm.heap.size (.slice A12 (j + 1) c12) (Tb.told t.ss (l.take j) ++ [(s, f1)]) := hT (12, ⟨.slice A12 (j + 1) c12, s12, t12⟩) (by simp)
              have HO8 := Lib.hid h12
              have HX8 := Lib.hid hS.1
              clear h12 hS hT hfk hvl hx3
              go_simp
              go_wp2
              go_roundw
              case rel => exact ⟨j + 1, by omega, by go_num, by rw [HTN.out]; exact HO8.out, HX8.out⟩
              case measure => simp [intOf]; omega
          · obtain rfl : j = l.length := by omega
            rw [List.take_length] at HO
            go_wp2
            go_ret2
            rw [HT.out]
            exact ⟨_, rfl, by simp only [hlr] at *; exact OwnRows.rows fcL_len HO.out, HX2.out.trans HXR.out⟩
  · have HT : Hid (t.frames id = ([], false)) := Lib.hid (by unfold Tb.frames; rw [if_neg (fun h => hin ⟨h.1, h.2.1⟩)])
    by_cases hn : id < 0
    · go_enter Try.func18, Try.ntmps18
      go_wp2_with (rw [HW1.out])
      go_ret2
      exact HNIL.out _ _ (by first | exact HX1.out | (rw [HW1.out]; exact HX1.out)) HT.out
    · have hb : (t.ks.length : Int) < id := by omega
      go_enter Try.func18, Try.ntmps18
      go_wp2_with (rw [HW1.out])
      go_ret2
      exact HNIL.out _ _ (by first | exact HX1.out | (rw [HW1.out]; exact HX1.out)) HT.out
namespace Tb

def addStep (q : Tb × List (Int × Int)) (f : ByteArray × Int) : Tb × List (Int × Int) := ((q.1.add f.1).1, q.2 ++ [((q.1.add f.1).2, f.2)])
def adds (t : Tb) (l : List (ByteArray × Int)) : Tb × List (Int × Int) := l.foldl addStep (t, [])
theorem adds_snoc (t : Tb) (l : List (ByteArray × Int)) (f : ByteArray × Int) : adds t (l ++ [f]) = addStep (adds t l) f := by simp [adds]
def laid (q : Tb × List (Int × Int)) : Tb × Int := if q.2 ∈ q.1.ks then (q.1, idx q.1.ks q.2) else (⟨q.1.ss, q.1.ks ++ [q.2]⟩, (q.1.ks.length : Int) + 1)
def rstk (t : Tb) (l : List (ByteArray × Int)) : Tb × Int :=
  if t.may = true then (if l = [] then (t, 0) else if (laid (adds t l)).1.may = true then laid (adds t l) else (none, 0)) else (none, 0)
theorem adds_ks : ∀ (l : List (ByteArray × Int)) (q : Tb × List (Int × Int)), (l.foldl addStep q).1.ks = q.1.ks ∧ (l.foldl addStep q).2.length = q.2.length + l.length
  | [], q => ⟨rfl, rfl⟩
  | f :: l, q => by
    obtain ⟨a, b⟩ := adds_ks l (addStep q f)
    rw [List.foldl_cons]
    refine ⟨a.trans (add_len q.1 f.1).2, ?_⟩
    rw [b]
    simp [addStep]
    omega
def Bad (q : Tb × List (Int × Int)) : Prop := (∃ g ∈ q.2, g.1 = 0) ∨ okS q.1.ss = false ∨ 10000 < q.1.ss.length
theorem add_pre (t : Tb) (s : ByteArray) : ∃ r, (t.add s).1.ss = t.ss ++ r := by
  unfold add
  split
  · exact ⟨[], by simp⟩
  · split
    · exact ⟨[], by simp⟩
    · exact ⟨[s], rfl⟩
theorem bad_step {q : Tb × List (Int × Int)} (h : Bad q) (f : ByteArray × Int) : Bad (addStep q f) := by
  obtain ⟨r, hr⟩ := add_pre q.1 f.1
  rcases h with ⟨g, hg, h0⟩ | h | h
  · exact .inl ⟨g, by simp [addStep, hg], h0⟩
  · refine .inr (.inl ?_)
    show okS (q.1.add f.1).1.ss = false
    rw [hr]
    cases ho : okS (q.1.ss ++ r) with
    | false => rfl
    | true => rw [okS_app ho] at h; cases h
  · refine .inr (.inr ?_)
    show 10000 < (q.1.add f.1).1.ss.length
    rw [hr, List.length_append]
    omega
theorem bad_fold : ∀ (l : List (ByteArray × Int)) {q : Tb × List (Int × Int)}, Bad q → Bad (l.foldl addStep q)
  | [], _, h => h
  | f :: l, _, h => bad_fold l (bad_step h f)
/-- Step by step the document's names are the program's, or the document's table may not be. -/
theorem fold_both : ∀ (l : List (ByteArray × Int)) (ss : List ByteArray) (ks : List (List (Int × Int))) (f0 : List (Int × Int)), okS ss = true → ss.length ≤ 10000 →
    (∃ ss' fs, l.foldl layStep (some (ss, f0)) = some (ss', fs) ∧ l.foldl addStep (⟨ss, ks⟩, f0) = (⟨ss', ks⟩, fs)) ∨ (l.foldl layStep (some (ss, f0)) = Option.none ∧ Bad (l.foldl addStep (⟨ss, ks⟩, f0)))
  | [], ss, ks, f0, _, _ => .inl ⟨ss, f0, rfl, rfl⟩
  | f :: l, ss, ks, f0, hok, hl => by
    rw [List.foldl_cons, List.foldl_cons]
    by_cases h0 : (text ss f.1).2 = 0
    · have e : layStep (some (ss, f0)) f = Option.none := by simp [layStep, h0]
      rw [e]
      refine .inr ⟨lay_none l, bad_fold l ?_⟩
      have hnin : f.1 ∉ ss := fun hin => by rw [text_again hin] at h0; have := idx_pos.2 hin; simp only at h0; omega
      by_cases he : f.1 = ⟨#[]⟩
      · refine .inl ⟨(0, f.2), ?_, rfl⟩
        simp [addStep, add, he]
      · have hadd : (⟨ss, ks⟩ : Tb).add f.1 = (⟨ss ++ [f.1], ks⟩, (ss.length : Int) + 1) := by unfold add; rw [if_neg he, if_neg hnin]
        have hnot : ¬ (mayS f.1 = true ∧ ss.length ≠ 10000) := fun hh => by
          unfold text at h0
          rw [if_neg hnin, if_pos hh] at h0
          simp only at h0
          omega
        by_cases hms : mayS f.1 = true
        · refine .inr (.inr ?_)
          show 10000 < ((⟨ss, ks⟩ : Tb).add f.1).1.ss.length
          rw [hadd, List.length_append]
          have : ss.length = 10000 := Classical.byContradiction fun h => hnot ⟨hms, h⟩
          simp
          omega
        · refine .inr (.inl ?_)
          show okS ((⟨ss, ks⟩ : Tb).add f.1).1.ss = false
          rw [hadd, okS_snoc, Bool.eq_false_iff.2 hms]
          simp
    · have e : layStep (some (ss, f0)) f = some ((text ss f.1).1, f0 ++ [((text ss f.1).2, f.2)]) := by simp [layStep, h0]
      obtain ⟨a, b, c, d⟩ := text_ok (s := f.1) hok hl
      have hne : f.1 ≠ ⟨#[]⟩ := fun he => by
        unfold text at h0
        have hns : mayS f.1 = false := by rw [he]; rfl
        have hnin : f.1 ∉ ss := fun hin => by
          unfold okS at hok
          simp only [Bool.and_eq_true, List.all_eq_true] at hok
          rw [hok.1 f.1 hin] at hns
          cases hns
        rw [if_neg hnin, if_neg (fun h => by rw [hns] at h; cases h.1)] at h0
        exact h0 rfl
      have ha : addStep (⟨ss, ks⟩, f0) f = (⟨(text ss f.1).1, ks⟩, f0 ++ [((text ss f.1).2, f.2)]) := by
        have hadd : (⟨ss, ks⟩ : Tb).add f.1 = (⟨(text ss f.1).1, ks⟩, (text ss f.1).2) := by
          unfold add
          rw [if_neg hne]
          by_cases hin : f.1 ∈ ss
          · rw [if_pos hin, text_again hin]
          · rw [if_neg hin]
            unfold text at h0 ⊢
            rw [if_neg hin] at h0 ⊢
            by_cases hk : mayS f.1 = true ∧ ss.length ≠ 10000
            · rw [if_pos hk]
            · rw [if_neg hk] at h0; exact absurd rfl h0
        unfold addStep
        rw [hadd]
      rw [e, ha]
      exact fold_both l _ ks _ a b
theorem rstk_eq (t : Tb) (l : List (ByteArray × Int)) : rstk t l = t.stk l := by
  unfold rstk stk
  by_cases hm : t.may = true
  · rw [if_pos hm]
    by_cases hl : l = []
    · subst hl
      have hc : t.may = true ∧ ([] : List (ByteArray × Int)).length ≤ 100 := ⟨hm, by simp⟩
      rw [if_pos hc]
      rfl
    · rw [if_neg hl]
      have hmt := may_iff.1 hm
      obtain ⟨k1, k2⟩ := adds_ks l (t, [])
      simp only [List.length_nil, Nat.zero_add] at k1 k2
      by_cases h100 : l.length ≤ 100
      · have hc : t.may = true ∧ l.length ≤ 100 := ⟨hm, h100⟩
        rw [if_pos hc, if_neg hl]
        rcases fold_both l t.ss t.ks [] (may_ok hm) hmt.1 with ⟨ss', fs, h1, h2⟩ | ⟨h1, h2⟩
        · have hq : adds t l = (⟨ss', t.ks⟩, fs) := h2
          have hlay : lay t.ss l = some (ss', fs) := h1
          obtain ⟨o1, o2, o3, o4, _, _⟩ := lay_spec (may_ok hm) hmt.1 l ss' fs hlay
          have hm2 : may ⟨ss', t.ks⟩ = true := may_mk (ss := t.ss) hm o1 o2 o3
          rw [hq, hlay]
          unfold laid
          simp only
          by_cases hin : fs ∈ t.ks
          · have hk := (may_iff.1 hm2).2.2.2.2.1 fs hin
            rw [if_pos hin, if_pos hm2, if_pos hk, if_pos hin]
          · rw [if_neg hin]
            have hiff : may ⟨ss', t.ks ++ [fs]⟩ = true ↔ mayK ss'.length fs = true ∧ t.ks.length ≠ 10000 := by
              obtain ⟨x1, x2, x3, x4, x5, x6⟩ := may_iff.1 hm2
              simp only at x2 x5 x6
              constructor
              · intro h
                obtain ⟨y1, y2, y3, y4, y5, y6⟩ := may_iff.1 h
                simp only [List.length_append, List.length_singleton] at y2 y5
                exact ⟨y5 fs (by simp), by omega⟩
              · rintro ⟨h1, h2⟩
                refine may_iff.2 ⟨x1, by simp only [List.length_append, List.length_singleton]; omega, x3, x4, fun z hz => ?_, nodup_snoc.2 ⟨x6, hin⟩⟩
                rcases List.mem_append.1 hz with hz | hz
                · exact x5 z hz
                · rw [List.mem_singleton.1 hz]; exact h1
            by_cases hk : mayK ss'.length fs = true
            · rw [if_pos hk, if_neg hin]
              by_cases hf : t.ks.length = 10000
              · rw [if_pos hf, if_neg (fun h => (hiff.1 h).2 hf)]
              · rw [if_neg hf, if_pos (hiff.2 ⟨hk, hf⟩)]
            · rw [if_neg hk, if_neg (fun h => hk (hiff.1 h).1)]
        · have hlay : lay t.ss l = Option.none := h1
          rw [hlay]
          have hbad : Bad (adds t l) := h2
          have hno : ¬ (laid (adds t l)).1.may = true := by
            intro h
            have hss : (laid (adds t l)).1.ss = (adds t l).1.ss := by unfold laid; split <;> rfl
            have hh := may_iff.1 h
            rcases hbad with ⟨g, hg, h0⟩ | hb | hb
            · have hin : (adds t l).2 ∈ (laid (adds t l)).1.ks := by
                unfold laid
                split
                · assumption
                · simp
              have := (mayK_iff.1 (hh.2.2.2.2.1 _ hin)).2.2 g hg
              omega
            · have := may_ok h
              rw [hss, hb] at this
              cases this
            · have := hh.1
              rw [hss] at this
              omega
          rw [if_neg hno]
      · have hno : ¬ (laid (adds t l)).1.may = true := by
          intro h
          have hh := may_iff.1 h
          have hin : (adds t l).2 ∈ (laid (adds t l)).1.ks := by
            unfold laid
            split
            · assumption
            · simp
          have := (mayK_iff.1 (hh.2.2.2.2.1 _ hin)).2.1
          have h3 : (adds t l).2.length = l.length := k2
          omega
        have hc : ¬ (t.may = true ∧ l.length ≤ 100) := fun h => h100 h.2
        rw [if_neg hc, if_neg hno]
  · have hc : ¬ (t.may = true ∧ l.length ≤ 100) := fun h => hm h.1
    rw [if_neg hm, if_neg hc]
end Tb
theorem RowsOff.wide {α : Type} {S T : Nat → Prop} {m : Nat} {f : α → List Value} {w : World} {v : Value} {xs : List α} (h : RowsOff S m f w v xs) (hs : ∀ b, b < w.heap.size → T b → S b) : RowsOff T m f w v xs := by
  obtain ⟨A, c, rfl, hc, hA⟩ := h
  exact ⟨A, c, rfl, hc, fun h0 => by obtain ⟨b, o, h1, h2, h3, h4⟩ := hA h0; exact ⟨b, o, h1, fun ht => h2 (hs b h3 ht), h3, h4⟩⟩
theorem TabOff.wide {S T : Nat → Prop} {w : World} {v : Value} {t : Tb} (h : TabOff S w v t) (hs : ∀ b, b < w.heap.size → T b → S b) : TabOff T w v t := by
  obtain ⟨sv, kv, rfl, h1, vs, h2, h3, h4⟩ := h
  exact ⟨sv, kv, rfl, h1.wide hs, vs, h2, h3.wide hs, fun i u xs a b => (h4 i u xs a b).wide hs⟩
theorem TabOff.two {S : Nat → Prop} {w : World} {v : Value} {t : Tb} (h : TabOff S w v t) : ∃ A c B d, v = .agg #[.slice A t.ss.length c, .slice B t.ks.length d] := by
  obtain ⟨A, c, B, d, rfl, _, _⟩ := h.tab.two
  exact ⟨A, c, B, d, rfl⟩
theorem ChgIn.set2 {w0 w : World} {g : Nat} {u : GV} {T : TypeId} {cs : Array Value} (hs : cs.size = 2) (h0 : Ext w0 w) (hg : w0.heap.size ≤ g) (hi : u.s ≤ g ∧ g < u.t) (hb : w.heap[g]? = some (.cells cs T (0, 0))) (d0 d1 : Value) :
    ChgIn w0 0 [u] w ((w.setCell ⟨g, 0, none⟩ d0).setCell ⟨g, 1, none⟩ d1) := by
  have hu := upd2 g w d0 d1
  obtain ⟨l⟩ := cs
  match l, hs with
  | [c0, c1], _ =>
  refine ⟨h0, h0.upd hu hg, hu.sz, fun b hb' hgs => hu.block b hb' fun he => ?_, fun b ds ty hbc => ?_⟩
  · injection he with he
    subst he
    have := hgs u (by simp)
    omega
  · by_cases hbg : b = g
    · subst hbg
      rw [hb] at hbc
      cases hbc
      exact ⟨_, set2_at hb _ _, rfl, rfl⟩
    · exact ⟨ds, hu.blk hbc hbg, rfl, rfl⟩
theorem cellsOf2 {w : World} {g : Nat} {T : TypeId} {cs : Array Value} (hs : cs.size = 2) (h : w.heap[g]? = some (.cells cs T (0, 0))) : ∃ d0 d1, cs = #[d0, d1] ∧ w.cell? ⟨g, 0, none⟩ = some d0 ∧ w.cell? ⟨g, 1, none⟩ = some d1 := by
  obtain ⟨l⟩ := cs
  match l, hs with
  | [c0, c1], _ => exact ⟨c0, c1, rfl, blk_cell h 0 _ rfl, blk_cell h 1 _ rfl⟩
/-- A table that a drawn region's call answered, and a number: it lies in old blocks off S, or in blocks of the call's own. -/
def TabG (S : Nat → Prop) (w0 : World) (t : Tb) (n : Int) (w : World) (u : GV) : Prop := ∃ v, u.v = .tuple #[v, .int .i64 n] ∧ TabOff (fun b => S b ∨ (w0.heap.size ≤ b ∧ ¬ (u.s ≤ b ∧ b < u.t))) w v t
theorem TabG.ext {S : Nat → Prop} {w0 w w' : World} {t : Tb} {n : Int} {u : GV} (h : TabG S w0 t n w u) (hx : Ext w w') : TabG S w0 t n w' u := by
  obtain ⟨v, h1, h2⟩ := h
  exact ⟨v, h1, h2.but (But.ext hx)⟩
theorem TabG.far {S : Nat → Prop} {w0 w w' : World} {t : Tb} {n : Int} {u : GV} {m : Nat} {gs : List GV} (h : TabG S w0 t n w u) (hc : ChgIn w0 m gs w w') (ha : ∀ g ∈ gs, g.apart u) : TabG S w0 t n w' u := by
  obtain ⟨v, h1, h2⟩ := h
  refine ⟨v, h1, h2.but ⟨hc.new.os.trans hc.old.os.symm, hc.new.tape.trans hc.old.tape.symm, hc.new.output.trans hc.old.output.symm, hc.size, fun i hi hn => ?_⟩⟩
  by_cases hlt : i < w0.heap.size
  · exact (hc.new.block i hlt).trans (hc.old.block i hlt).symm
  · have hin : u.s ≤ i ∧ i < u.t := Classical.byContradiction fun hh => hn (.inr ⟨by omega, hh⟩)
    refine hc.same i hi fun g hg => ?_
    have := ha g hg
    unfold GV.apart at this
    omega
theorem TabG.made {S : Nat → Prop} {w0 w w' : World} {t0 : Tb} {tv : Value} {r : Tb × Int} {v : Value} (h0 : Ext w0 w) (hS : ∀ b, S b → b < w0.heap.size) (ht : TabOff S w0 tv t0) (hoff : ∀ S : Nat → Prop, (∀ b, S b → b < w.heap.size) → TabOff S w tv t0 → TabOff S w' v r.1) : TabG S w0 r.1 r.2 w' ⟨.tuple #[v, .int .i64 r.2], w.heap.size, w'.heap.size⟩ := by
  refine ⟨v, rfl, (hoff (fun b => S b ∨ (w0.heap.size ≤ b ∧ b < w.heap.size)) (fun b hb => ?_) ?_).wide fun b hb hs => ?_⟩
  · rcases hb with hb | hb
    · have := hS b hb; have := h0.size; omega
    · exact hb.2
  · exact (ht.wide fun b hb hs => by
      rcases hs with hs | hs
      · exact hs
      · omega).but (But.ext h0)
  · rcases hs with hs | ⟨h1, h2⟩
    · exact .inl hs
    · exact .inr ⟨h1, by simp only at h2; omega⟩
/-- Where a round must not write: the two boxes, the frames so far. -/
def SB (p : Nat) (sv : Value) (b : Nat) : Prop := b = p ∨ b = p + 1 ∨ sv.ownBlock = some b
/-- What a round keeps. -/
structure RK (p B0 : Nat) (q : Tb × List (Int × Int)) (sv tv : Value) (w : World) : Prop where
  box : ∃ a c, tv = .agg #[a, c] ∧ w.heap[p]? = some (.cells #[a, c] 25 (0, 0))
  res : w.heap[p + 1]? = some (.cells #[.slice none 0 0, .slice none 0 0] 25 (0, 0))
  tab : TabOff (SB p sv) w tv q.1
  own : OwnF w B0 sv q.2
theorem Tb.adds_fine {t : Tb} (hf : t.Fine) (l : List (ByteArray × Int)) (hl : t.ss.length + l.length ≤ 100000) : (Tb.adds t l).1.Fine ∧ (Tb.adds t l).1.ss.length ≤ t.ss.length + l.length := by
  have h : ∀ (l : List (ByteArray × Int)) (q : Tb × List (Int × Int)), (l.foldl Tb.addStep q).1.ss.length ≤ q.1.ss.length + l.length := by
    intro l
    induction l with
    | nil => intro q; simp
    | cons f l ih =>
      intro q
      rw [List.foldl_cons]
      have h1 := ih (Tb.addStep q f)
      have h2 := (Tb.add_len q.1 f.1).1
      have h3 : (Tb.addStep q f).1 = (q.1.add f.1).1 := rfl
      rw [h3] at h1
      simp only [List.length_cons]
      omega
  have hk : (Tb.adds t l).1.ks = t.ks := (Tb.adds_ks l (t, [])).1
  have h1 : (Tb.adds t l).1.ss.length ≤ t.ss.length + l.length := h l (t, [])
  exact ⟨⟨by omega, by rw [hk]; exact hf.ks, by rw [hk]; exact hf.len, by rw [hk]; exact hf.nums⟩, h1⟩

end Go.Proofs.Ythkalaohaholaaa
