/-
  The contract of layer 6's own helper 'fixed': it returns true.
-/
import Derived.Test.YthkalaohaholaaaIo
set_option linter.unusedVariables false
set_option linter.unusedSimpArgs false
namespace Go.Proofs.Ythkalaohaholaaa
open Go.RowKit Go.Maps

theorem rows_lit {α : Type} {m : Nat} {f : α → List Value} (hf : ∀ x, (f x).length = m) (xs : List α) (T : TypeId) (w : World) : RowsAt m f (w.alloc (.cells (xs.flatMap f).toArray T)) (.slice (some ⟨w.heap.size, 0, none⟩) xs.length xs.length) xs :=
  ⟨_, _, rfl, Nat.le_refl _, fun _ => ⟨w.heap.size, 0, rfl, by simp, fun j x hj i u hu => by
    rw [Nat.zero_add, World.cell?_alloc_new, List.getElem?_toArray]
    exact flatMap_get hf xs j x hj i u hu⟩⟩
/-- The same, part by part. -/
theorem TabP.far {t : Tb} {n : Int} {w w' : World} {e : Ending} (h : TabP (t, n) w e w') : ∃ A k c B m d, e = .returned (.tuple #[.agg #[.slice A k c, .slice B m d], .int .i64 n]) ∧ TabIn w.heap.size w'.heap.size w' (.agg #[.slice A k c, .slice B m d]) t ∧ Ext w w' := by
  obtain ⟨v, rfl, h1, h2, h3⟩ := h
  obtain ⟨A, c, B, d, rfl, _, _⟩ := h1.two
  exact ⟨A, _, c, B, _, d, rfl, h3, h2⟩
def TabQ (t : Tb) (n : Int) (w : World) (e : Ending) (w' : World) : Prop := ∃ A k c B m d, e = .returned (.tuple #[.agg #[.slice A k c, .slice B m d], .int .i64 n]) ∧ k = t.ss.length ∧ m = t.ks.length ∧ TabAt w' (.agg #[.slice A k c, .slice B m d]) t ∧ Ext w w'
theorem TabP.q {t : Tb} {n : Int} {w w' : World} {e : Ending} (h : TabP (t, n) w e w') : TabQ t n w e w' := by
  obtain ⟨v, rfl, h1, h2, _⟩ := h
  obtain ⟨A, c, B, d, rfl, h3, h4⟩ := h1.two
  exact ⟨A, _, c, B, _, d, rfl, rfl, rfl, h1, h2⟩
theorem istr_k (v : Value) (t : Tb) (s : ByteArray) (t' : Tb) (n : Int) (w : World) (hr : t.string s = (t', n)) (h : TabAt w v t) (hl : t.ss.length ≤ 100000) (hm' : t.ks.length ≤ 100000) (hs : s.size ≤ maxLen) : Calls Try.prog 11 #[v, .string s] w (TabQ t' n w) := (istr_any v t s w h hl hm' hs).mono fun e w' h => by rw [hr] at h; exact h.q
theorem istk_k (v u : Value) (t : Tb) (l : List (ByteArray × Int)) (t' : Tb) (n : Int) (w : World) (hr : t.stk l = (t', n)) (h : TabAt w v t) (hfr : RowsAt 2 fcL w u l) (hl : t.ss.length ≤ 100000) (hm' : t.ks.length ≤ 100000) (hll : l.length ≤ 100000) (hsz : ∀ f ∈ l, f.1.size ≤ maxLen) : Calls Try.prog 13 #[v, u] w (TabQ t' n w) := (istk_any v u t l w h hfr hl hm' hll hsz).mono fun e w' h => by rw [hr] at h; exact h.q
theorem iname_k (v : Value) (t : Tb) (id : Int) (s : ByteArray) (b : Bool) (w : World) (hr : t.name id = (s, b)) (h : TabAt w v t) (hl : t.ss.length ≤ 100000) (hm' : t.ks.length ≤ 100000) : Calls Try.prog 15 #[v, .int .i64 id] w (fun e w' => e = .returned (.tuple #[.string s, .bool b]) ∧ Ext w w') := (iname_any v t id w h hl hm').mono fun e w' h => by rw [hr] at h; exact h
theorem iframes_k (v : Value) (t : Tb) (id : Int) (l : List (ByteArray × Int)) (b : Bool) (w : World) (hr : t.frames id = (l, b)) (h : TabAt w v t) (hl : t.ss.length ≤ 100000) (hm' : t.ks.length ≤ 100000) : Calls Try.prog 17 #[v, .int .i64 id] w (fun e w' => ∃ A c, e = .returned (.tuple #[.slice A l.length c, .bool b]) ∧ RowsAt 2 fcL w' (.slice A l.length c) l ∧ Ext w w') := (iframes_any v t id w h hl hm').mono fun e w' h => by
  rw [hr] at h
  obtain ⟨v, rfl, h1, h2⟩ := h
  obtain ⟨A, c, rfl, _⟩ := h1.form
  exact ⟨A, c, rfl, h1, h2⟩
theorem imay_k (v : Value) (t : Tb) (r : Bool) (w : World) (hr : t.may = r) (h : TabAt w v t) (hl : t.ss.length ≤ 100000) (hm' : t.ks.length ≤ 100000) : Calls Try.prog 19 #[v] w fun e w' => e = .returned (.bool r) ∧ Ext w w' := hr ▸ imay_any v t w h hl hm'
theorem rsamefr_k (u v : Value) (xs ys : List (ByteArray × Int)) (r : Bool) (w : World) (hr : decide (xs = ys) = r) (h1 : RowsAt 2 fcL w u xs) (h2 : RowsAt 2 fcL w v ys) (ho1 : ∀ f ∈ xs, FcIn f) (ho2 : ∀ f ∈ ys, FcIn f) (hn : xs.length ≤ 100000) :
    Calls Try.prog 22 #[u, v] w fun e w' => e = .returned (.bool r) ∧ Ext w w' := hr ▸ rsamefr_any u v xs ys w h1 h2 ho1 ho2 hn
namespace Tb
def xA : ByteArray := ⟨#[97]⟩
def xB : ByteArray := ⟨#[98]⟩
def xC : ByteArray := ⟨#[99]⟩
def x2 : Tb := ⟨[xA, xB], []⟩
def xF : List (ByteArray × Int) := [(xB, 3), (xC, 4)]
def x4 : Tb := ⟨[xA, xB, xC], [[(2, 3), (3, 4)]]⟩
theorem x_1 : none.string xA = (⟨[xA], []⟩, 1) := by kernel_rfl
theorem x_2 : (⟨[xA], []⟩ : Tb).string xB = (x2, 2) := by kernel_rfl
theorem x_3 : x2.string xA = (x2, 1) := by kernel_rfl
theorem x_4 : x2.stk xF = (x4, 1) := by kernel_rfl
theorem x_5 : x4.frames 1 = (xF, true) := by kernel_rfl
theorem x_6 : x4.name 3 = (xC, true) := by kernel_rfl
theorem x_7 : x4.name 4 = (⟨#[]⟩, false) := by kernel_rfl
theorem x_8 : x4.may = true := by kernel_rfl
theorem x_9 : (⟨[⟨#[]⟩], []⟩ : Tb).may = false := by kernel_rfl
theorem x_10 : decide (xF = xF) = true := by simp
theorem xF_in : ∀ f ∈ xF, FcIn f := by
  intro f hf
  simp only [xF, List.mem_cons, List.not_mem_nil, or_false] at hf
  rcases hf with rfl | rfl <;> exact ⟨by decide, by unfold i64in; omega⟩
end Tb
theorem tabAt_none_nest (w : World) : NestAt 2 frL w (.slice none 0 0) ([] : List (List (Int × Int))) := ⟨[], rfl, ⟨none, 0, rfl, Nat.le_refl _, fun h => by simp at h⟩, fun i u xs h => by simp at h⟩
/-- A table that lies in a box. -/
def BoxT (w : World) (b : Nat) (v : Value) (t : Tb) : Prop := ∃ a c, v = .agg #[a, c] ∧ w.heap[b]? = some (.cells #[a, c] 25 (0, 0)) ∧ TabAt w v t
theorem BoxT.ext {w w' : World} {b : Nat} {v : Value} {t : Tb} (h : BoxT w b v t) (hx : Ext w w') : BoxT w' b v t := by
  obtain ⟨a, c, rfl, h1, h2⟩ := h
  exact ⟨a, c, rfl, hx.blk h1, h2.ext hx⟩
theorem BoxT.new {w : World} {a c : Value} {t : Tb} (h : TabAt w (.agg #[a, c]) t) : BoxT (w.alloc (.cells #[a, c] 25)) w.heap.size (.agg #[a, c]) t := ⟨a, c, rfl, blk_new w _, h.ext ((Ext.refl w).alloc _)⟩
set_option maxRecDepth 100000 in
set_option maxHeartbeats 8000000 in
theorem ifixed_yes (w : World) : Calls Try.prog 10 #[] w fun e w' => e = .returned (.bool true) ∧ Ext w w' := by
  have hml : ∀ s : ByteArray, s.size ≤ 10 → s.size ≤ maxLen := fun s h => by unfold maxLen; omega
  have HML := Lib.hid hml
  clear hml
  go_enter Try.func10, Try.ntmps10
  go_wp2_with fail
  refine (istr_k _ Tb.none Tb.xA _ _ _ Tb.x_1 (tabAt_none _) (by decide) (by decide) (HML.out _ (by decide))).mono ?_
  rintro e w1 ⟨A1, k1, c1, B1, m1, d1, rfl, -, -, ht1, hx1⟩
  have ht1' := ht1.ext ((Ext.refl w1).alloc (.cells #[.slice A1 k1 c1, .slice B1 m1 d1] 25))
  have HT1 := Lib.hid ht1'
  have HX1 := Lib.hid (hx1.alloc (.cells #[.slice A1 k1 c1, .slice B1 m1 d1] 25))
  clear ht1 hx1 ht1'
  go_wp2_with fail
  refine (istr_k _ _ Tb.xB _ _ _ Tb.x_2 HT1.out (by decide) (by decide) (HML.out _ (by decide))).mono ?_
  rintro e w2 ⟨A2, k2, c2, B2, m2, d2, rfl, -, -, ht2, hx2⟩
  obtain ⟨u2, hu2⟩ : ∃ u2, w2.alloc (.cells #[.slice A2 k2 c2, .slice B2 m2 d2] 25) = u2 := ⟨_, rfl⟩
  obtain ⟨p2, hp2⟩ : ∃ p2, w2.heap.size = p2 := ⟨_, rfl⟩
  have HB2 : Hid (u2.heap[p2]? = some (.cells #[.slice A2 k2 c2, .slice B2 m2 d2] 25 (0, 0))) := Lib.hid (by rw [← hu2, ← hp2]; exact blk_new w2 _)
  have HT2 := Lib.hid (show TabAt u2 _ _ from by rw [← hu2]; exact ht2.ext ((Ext.refl w2).alloc _))
  have HX2 : Hid (Ext w u2) := Lib.hid (by rw [← hu2]; exact HX1.out.trans (hx2.alloc _))
  have HU2 := Lib.hid hu2
  have HP2 := Lib.hid hp2
  clear ht2 hx2 hu2 hp2 HT1 HX1
  have q0 := blk_cell HB2.out 0 _ rfl
  have q1 := blk_cell HB2.out 1 _ rfl
  go_wp2_with fail
  rw [HU2.out]
  refine (istr_k _ _ Tb.xA _ _ _ Tb.x_3 HT2.out (by decide) (by decide) (HML.out _ (by decide))).mono ?_
  rintro e w3 ⟨A3, k3, c3, B3, m3, d3, rfl, -, -, -, hx3⟩
  have hy3 : Ext u2 (w3.alloc (.cells #[.slice A3 k3 c3, .slice B3 m3 d3] 25)) := hx3.alloc _
  obtain ⟨u3, hu3⟩ : ∃ u3, w3.alloc (.cells #[.slice A3 k3 c3, .slice B3 m3 d3] 25) = u3 := ⟨_, rfl⟩
  rw [hu3] at hy3
  have HU3 := Lib.hid hu3
  have HT3 := Lib.hid (HT2.out.ext hy3)
  have HX3 := Lib.hid (HX2.out.trans hy3)
  have HB3 := Lib.hid (hy3.blk HB2.out)
  clear hx3 hy3 hu3 q0 q1
  have q0 : u3.cell? ⟨w2.heap.size, 0, none⟩ = some (.slice A2 k2 c2) := by rw [HP2.out]; exact blk_cell HB3.out 0 _ rfl
  have q1 : u3.cell? ⟨w2.heap.size, 1, none⟩ = some (.slice B2 m2 d2) := by rw [HP2.out]; exact blk_cell HB3.out 1 _ rfl
  go_wp2_with (rw [HU3.out])
  have hx4 : Ext u3 (u3.alloc (.cells (Tb.xF.flatMap fcL).toArray 45)) := (Ext.refl u3).alloc _
  refine (istk_k _ _ _ Tb.xF _ _ _ Tb.x_4 (HT3.out.ext hx4) (rows_lit fcL_len Tb.xF _ u3) (by decide) (by decide) (by decide) (fun f hf => (Tb.xF_in f hf).1)).mono ?_
  rintro e w4 ⟨A4, k4, c4, B4, m4, d4, rfl, -, -, ht4, hx5⟩
  obtain ⟨u4, hu4⟩ : ∃ u4, w4.alloc (.cells #[.slice A4 k4 c4, .slice B4 m4 d4] 25) = u4 := ⟨_, rfl⟩
  obtain ⟨p4, hp4⟩ : ∃ p4, w4.heap.size = p4 := ⟨_, rfl⟩
  have HB4 : Hid (u4.heap[p4]? = some (.cells #[.slice A4 k4 c4, .slice B4 m4 d4] 25 (0, 0))) := Lib.hid (by rw [← hu4, ← hp4]; exact blk_new w4 _)
  have HT4 := Lib.hid (show TabAt u4 _ _ from by rw [← hu4]; exact ht4.ext ((Ext.refl w4).alloc _))
  have HX4 : Hid (Ext w u4) := Lib.hid (by rw [← hu4]; exact (HX3.out.trans hx4).trans (hx5.alloc _))
  have HU4 := Lib.hid hu4
  have HP4 := Lib.hid hp4
  clear ht4 hx5 hu4 hp4 HT3 HX3 q0 q1 HB3 HT2 HX2 HB2 hx4
  have q0 : u4.cell? ⟨w4.heap.size, 0, none⟩ = some (.slice A4 k4 c4) := by rw [HP4.out]; exact blk_cell HB4.out 0 _ rfl
  have q1 : u4.cell? ⟨w4.heap.size, 1, none⟩ = some (.slice B4 m4 d4) := by rw [HP4.out]; exact blk_cell HB4.out 1 _ rfl
  go_wp2_with fail
  rw [HU4.out]
  refine (iframes_k _ _ 1 _ _ _ Tb.x_5 HT4.out (by decide) (by decide)).mono ?_
  rintro e w5 ⟨A5, c5, rfl, hr5, hx5⟩
  have HR5 := Lib.hid hr5
  have HT5 := Lib.hid (HT4.out.ext hx5)
  have HX5 := Lib.hid (HX4.out.trans hx5)
  have HB5 := Lib.hid (hx5.blk HB4.out)
  clear hr5 hx5 q0 q1
  have q0 : w5.cell? ⟨w4.heap.size, 0, none⟩ = some (.slice A4 k4 c4) := by rw [HP4.out]; exact blk_cell HB5.out 0 _ rfl
  have q1 : w5.cell? ⟨w4.heap.size, 1, none⟩ = some (.slice B4 m4 d4) := by rw [HP4.out]; exact blk_cell HB5.out 1 _ rfl
  go_wp2_with fail
  refine (iname_k _ _ 3 _ _ _ Tb.x_6 HT5.out (by decide) (by decide)).mono ?_
  rintro e w6 ⟨rfl, hx6⟩
  have HR6 := Lib.hid (HR5.out.ext hx6)
  have HT6 := Lib.hid (HT5.out.ext hx6)
  have HX6 := Lib.hid (HX5.out.trans hx6)
  have HB6 := Lib.hid (hx6.blk HB5.out)
  clear hx6 q0 q1
  have q0 : w6.cell? ⟨w4.heap.size, 0, none⟩ = some (.slice A4 k4 c4) := by rw [HP4.out]; exact blk_cell HB6.out 0 _ rfl
  have q1 : w6.cell? ⟨w4.heap.size, 1, none⟩ = some (.slice B4 m4 d4) := by rw [HP4.out]; exact blk_cell HB6.out 1 _ rfl
  go_wp2_with fail
  refine (iname_k _ _ 4 _ _ _ Tb.x_7 HT6.out (by decide) (by decide)).mono ?_
  rintro e w7 ⟨rfl, hx7⟩
  have HR7 := Lib.hid (HR6.out.ext hx7)
  have HT7 := Lib.hid (HT6.out.ext hx7)
  have HX7 := Lib.hid (HX6.out.trans hx7)
  have HB7 := Lib.hid (hx7.blk HB6.out)
  clear hx7 q0 q1
  go_wp2_with fail
  have hx8 : Ext w7 (w7.alloc (.cells (Tb.xF.flatMap fcL).toArray 45)) := (Ext.refl w7).alloc _
  refine (rsamefr_k _ _ Tb.xF Tb.xF _ _ Tb.x_10 (HR7.out.ext hx8) (rows_lit fcL_len Tb.xF _ w7) Tb.xF_in Tb.xF_in (by decide)).mono ?_
  rintro e w8 ⟨rfl, hx9⟩
  have hx10 := hx8.trans hx9
  have HT8 := Lib.hid (HT7.out.ext hx10)
  have HX8 := Lib.hid (HX7.out.trans hx10)
  have HB8 := Lib.hid (hx10.blk HB7.out)
  clear hx8 hx9 hx10
  have q0 : w8.cell? ⟨w4.heap.size, 0, none⟩ = some (.slice A4 k4 c4) := by rw [HP4.out]; exact blk_cell HB8.out 0 _ rfl
  have q1 : w8.cell? ⟨w4.heap.size, 1, none⟩ = some (.slice B4 m4 d4) := by rw [HP4.out]; exact blk_cell HB8.out 1 _ rfl
  have hcc : Tb.xC = ⟨#[99]⟩ := rfl
  rw [hcc]
  go_wp2_with fail
  refine (imay_k _ _ _ _ Tb.x_8 HT8.out (by decide) (by decide)).mono ?_
  rintro e w9 ⟨rfl, hx9⟩
  have HX9 := Lib.hid (HX8.out.trans hx9)
  clear hx9 q0 q1
  go_wp2_with fail
  refine (imay_k _ ⟨[⟨#[]⟩], []⟩ _ _ Tb.x_9 ⟨_, _, rfl, rows_lit (f := strL) strL_len [⟨#[]⟩] _ w9, tabAt_none_nest _⟩ (by decide) (by decide)).mono ?_
  rintro e wa ⟨rfl, hxa⟩
  go_wp2
  go_ret
  exact ⟨rfl, (HX9.out.alloc _).trans hxa⟩

end Go.Proofs.Ythkalaohaholaaa
