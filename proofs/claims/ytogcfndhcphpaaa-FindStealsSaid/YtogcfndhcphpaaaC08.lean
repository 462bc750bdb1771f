/-
  Several texts in one: Tj, Tk, Tn, Tw, Tx, Ty, Tzg.
-/
import Derived.Test.YtogcfndhcphpaaaC07
import Derived.Test.YtogcfndhcphpaaaC04
import Derived.Laws.EntriesVeiled
import Derived.Laws.IdiomCopy
import Derived.Test.YtogcfndhcphpaaaC05
set_option linter.unusedVariables false
set_option linter.unusedSimpArgs false
namespace Go.Proofs.Ytogcfndhcphpaaa
open Go.RowKit
def ShapesOk (w : World) (cs : Array Value) (n : Int) : Prop := cs.size = 21 ∧ ∀ d : Nat, d < 7 → ∃ nm nb cv, cs[d * 3]? = some (.string nm) ∧ cs[d * 3 + 1]? = some (.bool nb) ∧ cs[d * 3 + 2]? = some cv ∧ ClosAt w cv (Pg.most n d)
theorem ShapesOk.ext {w w' : World} {cs : Array Value} {n : Int} (h : ShapesOk w cs n) (hx : Ext w w') : ShapesOk w' cs n := by
  refine ⟨h.1, fun d hd => ?_⟩
  obtain ⟨nm, nb, cv, h1, h2, h3, h4⟩ := h.2 d hd
  exact ⟨nm, nb, cv, h1, h2, h3, h4.ext hx⟩
def ShapesP (n : Int) (w : World) (e : Ending) (w' : World) : Prop := ∃ cs, e = .returned (.agg cs) ∧ ShapesOk w' cs n ∧ Ext w w'
set_option maxRecDepth 100000 in
set_option maxHeartbeats 8000000 in
theorem shapes_any (n : Int) (w : World) (hn : 0 ≤ n ∧ n ≤ 100000) : Calls Try.prog 119 #[.int .i64 n] w (ShapesP n w) := by
  obtain ⟨w1, hw1⟩ : ∃ w1, w.alloc (.cells #[.int .i64 n] 3) = w1 := ⟨_, rfl⟩
  obtain ⟨w2, hw2⟩ : ∃ w2, w1.alloc (.cells #[.string ⟨#[]⟩, .bool false, .nilFunc, .string ⟨#[]⟩, .bool false, .nilFunc, .string ⟨#[]⟩, .bool false, .nilFunc, .string ⟨#[]⟩, .bool false, .nilFunc, .string ⟨#[]⟩, .bool false, .nilFunc, .string ⟨#[]⟩, .bool false, .nilFunc, .string ⟨#[]⟩, .bool false, .nilFunc] 133) = w2 := ⟨_, rfl⟩
  have HX1 : Hid (Ext w w1) := Lib.hid (by rw [← hw1]; exact (Ext.refl w).alloc _)
  have HX2 : Hid (Ext w1 w2) := Lib.hid (by rw [← hw2]; exact (Ext.refl w1).alloc _)
  have HN1 : Hid (w1.heap[w.heap.size]? = some (.cells #[.int .i64 n] 3 (0, 0))) := Lib.hid (by rw [← hw1]; exact blk_new w _)
  have HB2 : Hid (w2.heap[w1.heap.size]? = some (.cells #[.string ⟨#[]⟩, .bool false, .nilFunc, .string ⟨#[]⟩, .bool false, .nilFunc, .string ⟨#[]⟩, .bool false, .nilFunc, .string ⟨#[]⟩, .bool false, .nilFunc, .string ⟨#[]⟩, .bool false, .nilFunc, .string ⟨#[]⟩, .bool false, .nilFunc, .string ⟨#[]⟩, .bool false, .nilFunc] 133 (0, 0))) := Lib.hid (by rw [← hw2]; exact blk_new w1 _)
  have HW1 := Lib.hid hw1
  have HW2 := Lib.hid hw2
  have HNN := Lib.hid hn
  clear hw1 hw2 hn
  go_enter Try.func119, Try.ntmps119
  go_wp2_with (first | rw [HW1.out] | rw [HW2.out])
  refine (fixed_any 0 w2).mono ?_
  rintro e w3 ⟨rfl, hw3⟩
  have HX3 : Hid (Ext w2 w3) := Lib.hid (by rw [hw3]; exact (Ext.refl w2).alloc _)
  have HC3 : Hid (w3.heap[w2.heap.size]? = some (.cells #[.int .i64 0] 3 (0, 0))) := Lib.hid (by rw [hw3]; exact blk_new w2 _)
  clear hw3
  unfold closF
  go_wp2_with fail
  refine (fixed_any 0 w3).mono ?_
  rintro e w4 ⟨rfl, hw4⟩
  have HX4 : Hid (Ext w3 w4) := Lib.hid (by rw [hw4]; exact (Ext.refl w3).alloc _)
  have HC4 : Hid (w4.heap[w3.heap.size]? = some (.cells #[.int .i64 0] 3 (0, 0))) := Lib.hid (by rw [hw4]; exact blk_new w3 _)
  clear hw4
  unfold closF
  go_wp2_with fail
  refine (fixed_any 3 w4).mono ?_
  rintro e w5 ⟨rfl, hw5⟩
  have HX5 : Hid (Ext w4 w5) := Lib.hid (by rw [hw5]; exact (Ext.refl w4).alloc _)
  have HC5 : Hid (w5.heap[w4.heap.size]? = some (.cells #[.int .i64 3] 3 (0, 0))) := Lib.hid (by rw [hw5]; exact blk_new w4 _)
  clear hw5
  unfold closF
  go_wp2_with fail
  refine (fixed_any 3 w5).mono ?_
  rintro e w6 ⟨rfl, hw6⟩
  have HX6 : Hid (Ext w5 w6) := Lib.hid (by rw [hw6]; exact (Ext.refl w5).alloc _)
  have HC6 : Hid (w6.heap[w5.heap.size]? = some (.cells #[.int .i64 3] 3 (0, 0))) := Lib.hid (by rw [hw6]; exact blk_new w5 _)
  clear hw6
  unfold closF
  go_wp2_with fail
  refine (fixed_any 0 w6).mono ?_
  rintro e w7 ⟨rfl, hw7⟩
  have HX7 : Hid (Ext w6 w7) := Lib.hid (by rw [hw7]; exact (Ext.refl w6).alloc _)
  have HC7 : Hid (w7.heap[w6.heap.size]? = some (.cells #[.int .i64 0] 3 (0, 0))) := Lib.hid (by rw [hw7]; exact blk_new w6 _)
  clear hw7
  unfold closF
  go_wp2_with fail
  refine (fixed_any 1000 w7).mono ?_
  rintro e w8 ⟨rfl, hw8⟩
  have HX8 : Hid (Ext w7 w8) := Lib.hid (by rw [hw8]; exact (Ext.refl w7).alloc _)
  have HC8 : Hid (w8.heap[w7.heap.size]? = some (.cells #[.int .i64 1000] 3 (0, 0))) := Lib.hid (by rw [hw8]; exact blk_new w7 _)
  clear hw8
  unfold closF
  have HXL : Hid (Ext w2 w8) := Lib.hid (((((HX3.out.trans HX4.out).trans HX5.out).trans HX6.out).trans HX7.out).trans HX8.out)
  have HBL := Lib.hid (HXL.out.blk HB2.out)
  obtain ⟨w9, hw9⟩ : ∃ w9, w8.setCells w1.heap.size 0 [.string ⟨#[119, 111, 114, 107]⟩, .bool false, .func (.func 128) #[] #[.pointer (some ⟨w2.heap.size, 0, none⟩)], .string ⟨#[115, 112, 97, 119, 110]⟩, .bool true, .func (.func 129) #[] #[.pointer (some ⟨w.heap.size, 0, none⟩)], .string ⟨#[121, 105, 101, 108, 100]⟩, .bool false, .func (.func 128) #[] #[.pointer (some ⟨w3.heap.size, 0, none⟩)], .string ⟨#[97, 99, 113, 117, 105, 114, 101]⟩, .bool true, .func (.func 128) #[] #[.pointer (some ⟨w4.heap.size, 0, none⟩)], .string ⟨#[114, 101, 108, 101, 97, 115, 101]⟩, .bool true, .func (.func 128) #[] #[.pointer (some ⟨w5.heap.size, 0, none⟩)], .string ⟨#[115, 121, 115]⟩, .bool false, .func (.func 128) #[] #[.pointer (some ⟨w6.heap.size, 0, none⟩)], .string ⟨#[115, 108, 101, 101, 112]⟩, .bool true, .func (.func 128) #[] #[.pointer (some ⟨w7.heap.size, 0, none⟩)]] = w9 := ⟨_, rfl⟩
  have HW9 := Lib.hid hw9
  have HB9 : Hid (w9.heap[w1.heap.size]? = some (.cells #[.string ⟨#[119, 111, 114, 107]⟩, .bool false, .func (.func 128) #[] #[.pointer (some ⟨w2.heap.size, 0, none⟩)], .string ⟨#[115, 112, 97, 119, 110]⟩, .bool true, .func (.func 129) #[] #[.pointer (some ⟨w.heap.size, 0, none⟩)], .string ⟨#[121, 105, 101, 108, 100]⟩, .bool false, .func (.func 128) #[] #[.pointer (some ⟨w3.heap.size, 0, none⟩)], .string ⟨#[97, 99, 113, 117, 105, 114, 101]⟩, .bool true, .func (.func 128) #[] #[.pointer (some ⟨w4.heap.size, 0, none⟩)], .string ⟨#[114, 101, 108, 101, 97, 115, 101]⟩, .bool true, .func (.func 128) #[] #[.pointer (some ⟨w5.heap.size, 0, none⟩)], .string ⟨#[115, 121, 115]⟩, .bool false, .func (.func 128) #[] #[.pointer (some ⟨w6.heap.size, 0, none⟩)], .string ⟨#[115, 108, 101, 101, 112]⟩, .bool true, .func (.func 128) #[] #[.pointer (some ⟨w7.heap.size, 0, none⟩)]] 133 (0, 0))) := Lib.hid (by rw [← hw9]; exact setCells_at [.string ⟨#[]⟩, .bool false, .nilFunc, .string ⟨#[]⟩, .bool false, .nilFunc, .string ⟨#[]⟩, .bool false, .nilFunc, .string ⟨#[]⟩, .bool false, .nilFunc, .string ⟨#[]⟩, .bool false, .nilFunc, .string ⟨#[]⟩, .bool false, .nilFunc, .string ⟨#[]⟩, .bool false, .nilFunc] _ rfl HBL.out)
  have hu9 : Upd w1.heap.size w8 w9 := by rw [← hw9]; exact setCells_upd _ _ _ _
  have HX9 : Hid (Ext w1 w9) := Lib.hid ((HX2.out.trans HXL.out).upd hu9 (Nat.le_refl _))
  have HU9 := Lib.hid hu9
  have HTH : Hid (w8.there w1.heap.size 0 21) := Lib.hid (there_row HBL.out (Nat.le_refl 21))
  have HON : Hid (∀ u ∈ ([.string ⟨#[119, 111, 114, 107]⟩, .bool false, .func (.func 128) #[] #[.pointer (some ⟨w2.heap.size, 0, none⟩)], .string ⟨#[115, 112, 97, 119, 110]⟩, .bool true, .func (.func 129) #[] #[.pointer (some ⟨w.heap.size, 0, none⟩)], .string ⟨#[121, 105, 101, 108, 100]⟩, .bool false, .func (.func 128) #[] #[.pointer (some ⟨w3.heap.size, 0, none⟩)], .string ⟨#[97, 99, 113, 117, 105, 114, 101]⟩, .bool true, .func (.func 128) #[] #[.pointer (some ⟨w4.heap.size, 0, none⟩)], .string ⟨#[114, 101, 108, 101, 97, 115, 101]⟩, .bool true, .func (.func 128) #[] #[.pointer (some ⟨w5.heap.size, 0, none⟩)], .string ⟨#[115, 121, 115]⟩, .bool false, .func (.func 128) #[] #[.pointer (some ⟨w6.heap.size, 0, none⟩)], .string ⟨#[115, 108, 101, 101, 112]⟩, .bool true, .func (.func 128) #[] #[.pointer (some ⟨w7.heap.size, 0, none⟩)]] : List Value), u.oneCell' = true) := Lib.hid (by simp [Value.oneCell'])
  clear hw9 hu9
  rename_i K hK
  refine hK _ _ ?_
  refine wpList_plain rfl fun K2 hK2 => ?_
  go_simp
  refine hK2 _ _ ?_
  refine wpList_plain rfl fun K3 hK3 => ?_
  go_simp
  refine hK3 _ _ ?_
  refine wpList_store_row rfl 133 _ _ rfl w1.heap.size [.string ⟨#[119, 111, 114, 107]⟩, .bool false, .func (.func 128) #[] #[.pointer (some ⟨w2.heap.size, 0, none⟩)], .string ⟨#[115, 112, 97, 119, 110]⟩, .bool true, .func (.func 129) #[] #[.pointer (some ⟨w.heap.size, 0, none⟩)], .string ⟨#[121, 105, 101, 108, 100]⟩, .bool false, .func (.func 128) #[] #[.pointer (some ⟨w3.heap.size, 0, none⟩)], .string ⟨#[97, 99, 113, 117, 105, 114, 101]⟩, .bool true, .func (.func 128) #[] #[.pointer (some ⟨w4.heap.size, 0, none⟩)], .string ⟨#[114, 101, 108, 101, 97, 115, 101]⟩, .bool true, .func (.func 128) #[] #[.pointer (some ⟨w5.heap.size, 0, none⟩)], .string ⟨#[115, 121, 115]⟩, .bool false, .func (.func 128) #[] #[.pointer (some ⟨w6.heap.size, 0, none⟩)], .string ⟨#[115, 108, 101, 101, 112]⟩, .bool true, .func (.func 128) #[] #[.pointer (some ⟨w7.heap.size, 0, none⟩)]] _ ?_ ?_ rfl HTH.out (by kernel_rfl) HON.out HW9.out ?_
  · go_simp
  · go_simp
  go_wp2
  refine bodyPost_ret (v := .agg #[.string ⟨#[119, 111, 114, 107]⟩, .bool false, .func (.func 128) #[] #[.pointer (some ⟨w2.heap.size, 0, none⟩)], .string ⟨#[115, 112, 97, 119, 110]⟩, .bool true, .func (.func 129) #[] #[.pointer (some ⟨w.heap.size, 0, none⟩)], .string ⟨#[121, 105, 101, 108, 100]⟩, .bool false, .func (.func 128) #[] #[.pointer (some ⟨w3.heap.size, 0, none⟩)], .string ⟨#[97, 99, 113, 117, 105, 114, 101]⟩, .bool true, .func (.func 128) #[] #[.pointer (some ⟨w4.heap.size, 0, none⟩)], .string ⟨#[114, 101, 108, 101, 97, 115, 101]⟩, .bool true, .func (.func 128) #[] #[.pointer (some ⟨w5.heap.size, 0, none⟩)], .string ⟨#[115, 121, 115]⟩, .bool false, .func (.func 128) #[] #[.pointer (some ⟨w6.heap.size, 0, none⟩)], .string ⟨#[115, 108, 101, 101, 112]⟩, .bool true, .func (.func 128) #[] #[.pointer (some ⟨w7.heap.size, 0, none⟩)]]) (results_cell_row rfl _ _ w1.heap.size _ _ _ _ rfl HB9.out Try.underlying133 rfl (by kernel_rfl)) rfl ?_
  refine ⟨_, rfl, ⟨rfl, fun d hd => ?_⟩, HX1.out.trans HX9.out⟩
  have hz1 : w.heap.size < w1.heap.size := blk_lt HN1.out
  have hz2 : w1.heap.size < w2.heap.size := blk_lt HB2.out
  have hz3 := HX3.out.size
  have hz4 := HX4.out.size
  have hz5 := HX5.out.size
  have hz6 := HX6.out.size
  have hz7 := HX7.out.size
  have hz8 := HX8.out.size
  obtain rfl | rfl | rfl | rfl | rfl | rfl | rfl : d = 0 ∨ d = 1 ∨ d = 2 ∨ d = 3 ∨ d = 4 ∨ d = 5 ∨ d = 6 := by omega
  · exact ⟨_, _, _, rfl, rfl, rfl, ⟨w2.heap.size, .inl ⟨rfl, HU9.out.blk (((((HX4.out.trans HX5.out).trans HX6.out).trans HX7.out).trans HX8.out).blk HC3.out) (by omega)⟩⟩⟩
  · exact ⟨_, _, _, rfl, rfl, rfl, ⟨w.heap.size, .inr ⟨rfl, HU9.out.blk ((HX2.out.trans HXL.out).blk (by rw [show Pg.most n ((1 : Nat) : Int) + 1 = n by simp [Pg.most]]; exact HN1.out)) (by omega)⟩⟩⟩
  · exact ⟨_, _, _, rfl, rfl, rfl, ⟨w3.heap.size, .inl ⟨rfl, HU9.out.blk ((((HX5.out.trans HX6.out).trans HX7.out).trans HX8.out).blk HC4.out) (by omega)⟩⟩⟩
  · exact ⟨_, _, _, rfl, rfl, rfl, ⟨w4.heap.size, .inl ⟨rfl, HU9.out.blk (((HX6.out.trans HX7.out).trans HX8.out).blk HC5.out) (by omega)⟩⟩⟩
  · exact ⟨_, _, _, rfl, rfl, rfl, ⟨w5.heap.size, .inl ⟨rfl, HU9.out.blk ((HX7.out.trans HX8.out).blk HC6.out) (by omega)⟩⟩⟩
  · exact ⟨_, _, _, rfl, rfl, rfl, ⟨w6.heap.size, .inl ⟨rfl, HU9.out.blk (HX8.out.blk HC7.out) (by omega)⟩⟩⟩
  · exact ⟨_, _, _, rfl, rfl, rfl, ⟨w7.heap.size, .inl ⟨rfl, HU9.out.blk (HC8.out) (by omega)⟩⟩⟩
theorem shapes_one {w : World} {cs : Array Value} {n : Int} (h : ShapesOk w cs n) : ∀ u ∈ cs.toList, u.oneCell' = true := fun u hu => by
  obtain ⟨i, hi⟩ := List.mem_iff_getElem?.1 hu
  have hlt : i < 21 := by have := (List.getElem?_eq_some_iff.1 hi).1; have h2 := h.1; simp at this; omega
  obtain ⟨nm, nb, cv, g0, g1, g2, b, hcv⟩ := h.2 (i / 3) (by omega)
  have hi' : cs[i]? = some u := by simpa using hi
  obtain hr | hr | hr : i % 3 = 0 ∨ i % 3 = 1 ∨ i % 3 = 2 := by omega
  · rw [show i / 3 * 3 = i by omega, hi'] at g0
    injection g0 with g0
    subst g0
    rfl
  · rw [show i / 3 * 3 + 1 = i by omega, hi'] at g1
    injection g1 with g1
    subst g1
    rfl
  · rw [show i / 3 * 3 + 2 = i by omega, hi'] at g2
    injection g2 with g2
    subst g2
    rcases hcv with hcv | hcv
    · rw [hcv.1]; rfl
    · rw [hcv.1]; rfl
set_option maxRecDepth 100000 in
set_option maxHeartbeats 8000000 in
theorem pmay_any (v : Value) (p : List (List (Int × Int))) (r : Bool) (hr : Pg.may p = r) (w : World) (h : NestAt 2 pairL w v p) (h1 : p.length ≤ 100000) (h2 : ∀ l ∈ p, l.length ≤ 100000) :
    Calls Try.prog 92 #[v] w fun e w' => e = .returned (.bool r) ∧ Ext w w' := by
  subst hr
  have H := Lib.hid h
  have H2 := Lib.hid h2
  obtain ⟨A, c, rfl⟩ := h.form2
  clear h h2
  by_cases a1 : p = []
  · have HT : Hid (Pg.may p = false) := Lib.hid (by subst a1; rfl)
    subst a1
    simp only [List.length_nil] at *
    go_enter Try.func92, Try.ntmps92
    go_wp2
    go_ret
    exact ⟨by rw [HT.out] <;> rfl, Ext.refl _⟩
  have hpos := List.length_pos_iff.2 a1
  have a0' : ((p.length : Int) == 0) = false := by simp; omega
  by_cases a2 : 8 < p.length
  · have HT : Hid (Pg.may p = false) := Lib.hid (by unfold Pg.may; rw [decide_eq_false (by omega)]; rfl)
    have a2' : (8 : Int) < (p.length : Int) := by omega
    clear hpos
    go_enter Try.func92, Try.ntmps92
    go_wp2
    go_ret
    exact ⟨by rw [HT.out] <;> rfl, Ext.refl _⟩
  have a1' : (1 : Int) ≤ (p.length : Int) := by omega
  have a2' : (p.length : Int) ≤ 8 := by omega
  have HST : Hid (∀ (j : Nat) l, p[j]? = some l → Pg.okC p.length l = false → Pg.may p = false) := Lib.hid fun j l hj hl => by
    unfold Pg.may; rw [all_no hj hl, Bool.and_false]
  have HOK : Hid ((∀ (j : Nat) l, p[j]? = some l → Pg.okC p.length l = true) → Pg.may p = true) := Lib.hid fun h => by
    unfold Pg.may; rw [all_yes h, decide_eq_true (by omega)]; rfl
  clear a2 hpos
  go_enter Try.func92, Try.ntmps92
  go_wp2_with fail
  refine (shapes_any p.length w ⟨by omega, by omega⟩).mono ?_
  rintro e ws ⟨cs, rfl, hsh, hxs⟩
  obtain ⟨wy, hwy⟩ : ∃ wy, ws.alloc (.cells #[.string ⟨#[]⟩, .bool false, .nilFunc, .string ⟨#[]⟩, .bool false, .nilFunc, .string ⟨#[]⟩, .bool false, .nilFunc, .string ⟨#[]⟩, .bool false, .nilFunc, .string ⟨#[]⟩, .bool false, .nilFunc, .string ⟨#[]⟩, .bool false, .nilFunc, .string ⟨#[]⟩, .bool false, .nilFunc] 133) = wy := ⟨_, rfl⟩
  have hyb : wy.heap[ws.heap.size]? = some (.cells #[.string ⟨#[]⟩, .bool false, .nilFunc, .string ⟨#[]⟩, .bool false, .nilFunc, .string ⟨#[]⟩, .bool false, .nilFunc, .string ⟨#[]⟩, .bool false, .nilFunc, .string ⟨#[]⟩, .bool false, .nilFunc, .string ⟨#[]⟩, .bool false, .nilFunc, .string ⟨#[]⟩, .bool false, .nilFunc] 133 (0, 0)) := by rw [← hwy]; exact blk_new ws _
  obtain ⟨wz, hwz⟩ : ∃ wz, wy.setCells ws.heap.size 0 cs.toList = wz := ⟨_, rfl⟩
  have hc21 : cs.toList.length = 21 := by simpa using hsh.1
  have hxy : Ext w wy := by rw [← hwy]; exact hxs.alloc _
  have HX0 : Hid (Ext w wz) := Lib.hid (by rw [← hwz]; exact hxy.upd (setCells_upd _ _ _ _) hxs.size)
  have HSB : Hid (wz.heap[ws.heap.size]? = some (.cells cs 133 (0, 0))) := Lib.hid (by
    rw [← hwz]
    have := setCells_at [.string ⟨#[]⟩, .bool false, .nilFunc, .string ⟨#[]⟩, .bool false, .nilFunc, .string ⟨#[]⟩, .bool false, .nilFunc, .string ⟨#[]⟩, .bool false, .nilFunc, .string ⟨#[]⟩, .bool false, .nilFunc, .string ⟨#[]⟩, .bool false, .nilFunc, .string ⟨#[]⟩, .bool false, .nilFunc] cs.toList (by rw [hc21]; rfl) hyb
    simpa using this)
  have HSH : Hid (ShapesOk wz cs p.length) := Lib.hid (by
    refine hsh.ext ?_
    rw [← hwz, ← hwy]
    exact ((Ext.refl ws).alloc _).upd (setCells_upd _ _ _ _) (Nat.le_refl _))
  have HTH : Hid (wy.there ws.heap.size 0 cs.toList.length) := Lib.hid (there_row hyb (by rw [hc21]; exact Nat.le_refl 21))
  have HIN0 : Hid ((Try.prog.info? 133).map (·.size) = some cs.toList.length) := Lib.hid (by rw [hc21]; kernel_rfl)
  have HONE := Lib.hid (shapes_one hsh)
  have HWY := Lib.hid hwy
  have HWZ := Lib.hid hwz
  clear hsh hxs hwz hwy hyb hc21 hxy
  rename_i K hK
  refine hK _ _ ?_
  refine wpList_plain rfl fun K2 hK2 => ?_
  go_simp
  rw [HWY.out]
  refine hK2 _ _ ?_
  refine wpList_store_row rfl 133 _ _ rfl ws.heap.size cs.toList (.agg cs) ?_ ?_ (by simp) HTH.out HIN0.out HONE.out HWZ.out ?_
  · go_simp
  · go_simp
  go_wp2_with fail
  go_loopw [21] (fun iv wr => ∃ k : Nat, k ≤ p.length ∧ iv = .int .i64 k ∧ (∀ (j : Nat) l, p[j]? = some l → j < k → Pg.okC p.length l = true) ∧ Ext wz wr) (fun iv _ => p.length - (intOf iv).toNat)
  case atStart => exact ⟨0, by omega, rfl, fun j l _ h => by omega, Ext.refl _⟩
  case round =>
    obtain ⟨k, hk, rfl, hall, hx⟩ := hrel
    have HALL := Lib.hid hall
    have HX := Lib.hid hx
    clear hall hx
    by_cases hlt : k < p.length
    · obtain ⟨l, hl⟩ : ∃ l, p[k]? = some l := ⟨_, List.getElem?_eq_getElem hlt⟩
      have hl2 := H2.out l (List.mem_of_getElem? hl)
      obtain ⟨b, o, B, d, rfl, hb, hcu, hrow⟩ := H.out.get hl
      have HCU := Lib.hid hcu
      have HB := Lib.hid hb
      have HR := Lib.hid hrow
      have HL := Lib.hid hl
      clear hl hb hcu hrow
      have c0 : wr.cell? ⟨b, o + k, none⟩ = some (.slice B l.length d) := (Below.cell (HX0.out.trans HX.out) HB.out).trans HCU.out
      by_cases b1 : 20 < l.length
      · have HT : Hid (Pg.may p = false) := Lib.hid (HST.out k l HL.out (by unfold Pg.okC; rw [decide_eq_false (by omega)]; rfl))
        have b1' : (20 : Int) < (l.length : Int) := by omega
        go_wp2
        go_ret
        rw [HT.out]
        exact ⟨rfl, HX0.out.trans HX.out⟩
      have b1' : (l.length : Int) ≤ 20 := by omega
      have HNI : Hid (∀ (j : Nat) x, l[j]? = some x → Pg.okI p.length x = false → Pg.may p = false) := Lib.hid fun j x hj hx => HST.out k l HL.out (by unfold Pg.okC; rw [all_no hj hx, Bool.and_false])
      have HYI : Hid ((∀ (j : Nat) x, l[j]? = some x → Pg.okI p.length x = true) → Pg.okC p.length l = true) := Lib.hid fun h => by unfold Pg.okC; rw [all_yes h, decide_eq_true (by omega)]; rfl
      obtain ⟨wo, rfl⟩ : ∃ wo, wo = wr := ⟨_, rfl⟩
      go_wp2_with fail
      clear c0
      go_loopw [30] (fun iv wr => ∃ j : Nat, j ≤ l.length ∧ iv = .int .i64 j ∧ (∀ (i : Nat) x, l[i]? = some x → i < j → Pg.okI p.length x = true) ∧ Ext wz wr) (fun iv _ => l.length - (intOf iv).toNat)
      case atStart => exact ⟨0, by omega, rfl, fun j l _ h => by omega, HX.out⟩
      case round =>
        clear HX
        obtain ⟨j, hj, rfl, hin, hx⟩ := hrel
        have HIN := Lib.hid hin
        have HX := Lib.hid hx
        clear hin hx
        by_cases hlt2 : j < l.length
        · obtain ⟨x, hx⟩ : ∃ x, l[j]? = some x := ⟨_, List.getElem?_eq_getElem hlt2⟩
          obtain ⟨b3, o3, rfl, hb3, e0, e1⟩ := frs2_get (HR.out.ext (HX0.out.trans HX.out)) hx
          have HXX := Lib.hid hx
          obtain ⟨d, a⟩ := x
          simp only at e0 e1
          obtain ⟨w3, hw3⟩ : ∃ w3, wr.alloc (.cells #[.int .i64 d, .int .i64 a] 68) = w3 := ⟨_, rfl⟩
          have HW3 := Lib.hid hw3
          have HX3 : Hid (Ext wz w3) := Lib.hid (by rw [← hw3]; exact HX.out.alloc _)
          have hq : w3.heap[wr.heap.size]? = some (.cells #[.int .i64 d, .int .i64 a] 68 (0, 0)) := by rw [← hw3]; exact blk_new wr _
          have q0 := blk_cell hq 0 _ rfl
          have q1 := blk_cell hq 1 _ rfl
          clear hx hb3 hq hw3
          have HQI : Hid (w3.heap[wr.heap.size]? = some (.cells #[.int .i64 d, .int .i64 a] 68 (0, 0))) := Lib.hid (by rw [← HW3.out]; exact blk_new wr _)
          by_cases t1 : d < 0
          · have HNO : Hid (Pg.may p = false) := Lib.hid (HNI.out j _ HXX.out (by unfold Pg.okI; rw [decide_eq_false (by simp only; omega)]))
            go_upto_region 12 with fail
            rw [HW3.out]
            go_quiet (fail)
            go_wp2
            go_ret
            exact ⟨by rw [HNO.out] <;> rfl, HX0.out.trans (HX3.out.drewN _)⟩
          by_cases t2 : 7 ≤ d
          · have HNO : Hid (Pg.may p = false) := Lib.hid (HNI.out j _ HXX.out (by unfold Pg.okI; rw [decide_eq_false (by simp only; omega)]))
            go_upto_region 12 with fail
            rw [HW3.out]
            go_quiet (fail)
            go_wp2
            go_ret
            exact ⟨by rw [HNO.out] <;> rfl, HX0.out.trans (HX3.out.drewN _)⟩
          obtain ⟨dd, rfl⟩ : ∃ dd : Nat, d = dd := ⟨d.toNat, by omega⟩
          obtain ⟨nm, nb, cv, g0, g1, g2, hcv⟩ := HSH.out.2 dd (by omega)
          have HCV := Lib.hid hcv
          have HSC : Hid (∀ v, Ext wz v → v.cell? ⟨ws.heap.size, dd * 3, none⟩ = some (.string nm) ∧ v.cell? ⟨ws.heap.size, dd * 3 + 1, none⟩ = some (.bool nb) ∧ v.cell? ⟨ws.heap.size, dd * 3 + 2, none⟩ = some cv) := Lib.hid fun v hv => ⟨blk_cell (hv.blk HSB.out) _ _ g0, blk_cell (hv.blk HSB.out) _ _ g1, blk_cell (hv.blk HSB.out) _ _ g2⟩
          obtain ⟨r, hr⟩ : ∃ r, decide (0 ≤ a ∧ a ≤ Pg.most p.length dd) = r := ⟨_, rfl⟩
          have HR0 := Lib.hid hr
          have HMB : Hid (-10 ≤ Pg.most p.length dd ∧ Pg.most p.length dd ≤ 1000000) := Lib.hid (by
            unfold Pg.most
            split
            · omega
            · split
              · omega
              · split <;> omega)
          have HOKI : Hid (Pg.okI p.length ((dd : Int), a) = r) := Lib.hid (by
            unfold Pg.okI
            rw [← hr]
            congr 1
            simp only [eq_iff_iff]
            omega)
          have i0 : (0 : Int) ≤ (dd : Int) := by omega
          have i1 : (dd : Int) < 7 := by omega
          have j0 : ((dd : Int) < 0) = False := by first | (simp; done) | (simp; omega)
          have j1 : decide ((7 : Int) ≤ (dd : Int)) = false := by first | (simp; done) | (simp; omega)
          clear t1 t2 g0 g1 g2 hcv hr q0 q1
          go_upto_region 12 with fail
          rw [HW3.out]
          refine region_rgx ([(15, (fun u => u = .bool r : Value → Prop), (fun _ _ => True : (Nat → GV) → World → Prop))]) (w3) (by kernel_rfl) (by kernel_rfl) ?_ ?_ ?_
          · exact List.forall_mem_cons.2 ⟨⟨⟨_, rfl⟩, fun _ _ _ _ _ => trivial, fun _ _ _ _ _ => trivial⟩, List.forall_mem_nil _⟩
          · first | assumption | exact Ext.refl _
          refine rg_pure (v := ?_) rfl (by kernel_rfl) (by kernel_rfl) (fun w hS hN => ?_) ?_
          rotate_left 1
          · clear hN
            go_simp
            try simp only [j0, j1]
            refine givesP_mk ?_
            with_reducible rfl
          refine rg_pure (v := ?_) rfl (by kernel_rfl) (by kernel_rfl) (fun w hS hN => ?_) ?_
          rotate_left 1
          · have q0 := blk_cell (hS.blk HQI.out) 0 _ rfl
            clear hN
            go_simp
            try simp only [j0, j1]
            refine givesP_mk ?_
            with_reducible rfl
          refine rg_pure (v := ?_) rfl (by kernel_rfl) (by kernel_rfl) (fun w hS hN => ?_) ?_
          rotate_left 1
          · clear hN
            go_simp
            try simp only [j0, j1]
            refine givesP_mk ?_
            with_reducible rfl
          refine rg_pure (v := ?_) rfl (by kernel_rfl) (by kernel_rfl) (fun w hS hN => ?_) ?_
          rotate_left 1
          · clear hN
            go_simp
            try simp only [j0, j1]
            refine givesP_mk ?_
            with_reducible rfl
          refine rg_pure (v := ?_) rfl (by kernel_rfl) (by kernel_rfl) (fun w hS hN => ?_) ?_
          rotate_left 1
          · clear hN
            go_simp
            try simp only [j0, j1]
            refine givesP_mk ?_
            with_reducible rfl
          refine rg_pure (v := ?_) rfl (by kernel_rfl) (by kernel_rfl) (fun w hS hN => ?_) ?_
          rotate_left 1
          · have q0 := blk_cell (hS.blk HQI.out) 0 _ rfl
            clear hN
            go_simp
            try simp only [j0, j1]
            refine givesP_mk ?_
            with_reducible rfl
          refine rg_pure (v := ?_) rfl (by kernel_rfl) (by kernel_rfl) (fun w hS hN => ?_) ?_
          rotate_left 1
          · clear hN
            go_simp
            try simp only [j0, j1]
            refine givesP_mk ?_
            with_reducible rfl
          refine rg_pure (v := ?_) rfl (by kernel_rfl) (by kernel_rfl) (fun w hS hN => ?_) ?_
          rotate_left 1
          · clear hN
            go_simp
            try simp only [j0, j1]
            refine givesP_mk ?_
            with_reducible rfl
          refine rg_pure (v := ?_) rfl (by kernel_rfl) (by kernel_rfl) (fun w hS hN => ?_) ?_
          rotate_left 1
          · clear hN
            go_simp
            try simp only [j0, j1]
            refine givesP_mk ?_
            with_reducible rfl
          refine rg_pure (v := ?_) rfl (by kernel_rfl) (by kernel_rfl) (fun w hS hN => ?_) ?_
          rotate_left 1
          · clear hN
            go_simp
            try simp only [j0, j1]
            refine givesP_mk ?_
            with_reducible rfl
          refine rg_pure (v := ?_) rfl (by kernel_rfl) (by kernel_rfl) (fun w hS hN => ?_) ?_
          rotate_left 1
          · have q0 := blk_cell (hS.blk HQI.out) 0 _ rfl
            clear hN
            go_simp
            try simp only [j0, j1]
            refine givesP_mk ?_
            with_reducible rfl
          refine rg_pure (v := ?_) rfl (by kernel_rfl) (by kernel_rfl) (fun w hS hN => ?_) ?_
          rotate_left 1
          · clear hN
            go_simp
            try simp only [j0, j1]
            refine givesP_mk ?_
            with_reducible rfl
          refine rg_pure (v := ?_) rfl (by kernel_rfl) (by kernel_rfl) (fun w hS hN => ?_) ?_
          rotate_left 1
          · obtain ⟨x0, x1, x2⟩ := HSC.out w (HX3.out.trans hS)
            clear hN
            go_simp
            try simp only [j0, j1]
            refine givesP_mk ?_
            with_reducible rfl
          refine rg_pure (v := ?_) rfl (by kernel_rfl) (by kernel_rfl) (fun w hS hN => ?_) ?_
          rotate_left 1
          · clear hN
            go_simp
            try simp only [j0, j1]
            refine givesP_mk ?_
            with_reducible rfl
          refine rg_pure (v := ?_) rfl (by kernel_rfl) (by kernel_rfl) (fun w hS hN => ?_) ?_
          rotate_left 1
          · have q1 := blk_cell (hS.blk HQI.out) 1 _ rfl
            clear hN
            go_simp
            try simp only [j0, j1]
            refine givesP_mk ?_
            with_reducible rfl
          refine rg_mem (fun u => u = .bool r : Value → Prop) (fun _ _ => True : (Nat → GV) → World → Prop) (fun _ => Ext) rfl rfl rfl rfl (by kernel_rfl) (by kernel_rfl) (fun w hS hN R hR => ?_) ?_
          · have HR := Lib.hid hR
            clear hR
            (try clear hN)
            go_simp
            refine givesM_call ((shmay_any nm nb cv (Pg.most p.length dd) a w (HCV.out.ext (HX3.out.trans hS)) HMB.out r HR0.out).mono ?_)
            rintro e w' ⟨rfl, hx⟩
            exact ⟨_, rfl, HR.out _ _ rfl trivial hx⟩
          rintro u15 s15 t15 rfl
          refine rg_pure (v := ?_) rfl (by kernel_rfl) (by kernel_rfl) (fun w hS hN => ?_) ?_
          rotate_left 1
          · clear hN
            go_simp
            try simp only [j0, j1]
            refine givesP_mk ?_
            with_reducible rfl
          refine rg_pure (v := ?_) rfl (by kernel_rfl) (by kernel_rfl) (fun w hS hN => ?_) ?_
          rotate_left 1
          · clear hN
            go_simp
            try simp only [j0, j1]
            refine givesP_mk ?_
            with_reducible rfl
          refine rg_done rfl (Nat.le_of_ble_eq_true (by kernel_rfl)) ?_
          intro w8 hS hT
          have HX8 := Lib.hid (HX3.out.trans hS)
          clear hT hS
          go_simp
          cases r with
          | false =>
            have HNO : Hid (Pg.may p = false) := Lib.hid (HNI.out j _ HXX.out HOKI.out)
            go_wp2
            go_ret
            exact ⟨by rw [HNO.out] <;> rfl, HX0.out.trans HX8.out⟩
          | true =>
            go_wp2
            go_roundw
            case rel =>
              refine ⟨j + 1, by omega, by go_num, fun i y hi hij => ?_, HX8.out⟩
              by_cases hij2 : i < j
              · exact HIN.out i y hi hij2
              · obtain rfl : i = j := by omega
                rw [HXX.out] at hi
                injection hi with hi
                rw [← hi]
                exact HOKI.out
            case measure => simp [intOf]; omega
        · obtain rfl : j = l.length := by omega
          have HKC : Hid (Pg.okC p.length l = true) := Lib.hid (HYI.out fun i x hi => HIN.out i x hi (List.getElem?_eq_some_iff.1 hi).1)
          go_wp2
          go_roundw
          case rel =>
            refine ⟨k + 1, by omega, by go_num, fun i y hi hij => ?_, HX.out⟩
            by_cases hij2 : i < k
            · exact HALL.out i y hi hij2
            · obtain rfl : i = k := by omega
              rw [HL.out] at hi
              injection hi with hi
              rw [← hi]
              exact HKC.out
          case measure => simp [intOf]; omega
    · obtain rfl : k = p.length := by omega
      have HY : Hid (Pg.may p = true) := Lib.hid (HOK.out fun j l hj => HALL.out j l hj (List.getElem?_eq_some_iff.1 hj).1)
      go_wp2
      go_ret
      rw [HY.out]
      exact ⟨rfl, HX0.out.trans HX.out⟩
theorem whole_eq (s : St) : s.whole = (Pg.may s.prog && wiB s.gs.length 1 1000 && decide (s.ps.length = 8) && decide (s.ms.length ≤ 1000) && wiB s.procs 1 8 && St.low s.clock && decide (Sl.May s.timers)) := by
  unfold St.whole
  rw [Bool.eq_iff_iff]
  simp only [Bool.and_eq_true, decide_eq_true_eq, wiB_iff]
  constructor
  · rintro ⟨⟨⟨a, b1, b2, b3, b4, b5, b6⟩, c⟩, d⟩
    exact ⟨⟨⟨⟨⟨⟨a, by omega, by omega⟩, b3⟩, b6⟩, b4, b5⟩, c⟩, d⟩
  · rintro ⟨⟨⟨⟨⟨⟨a, b1, b2⟩, b3⟩, b6⟩, b4, b5⟩, c⟩, d⟩
    exact ⟨⟨⟨a, by omega, by omega, b3, b4, b5, b6⟩, c⟩, d⟩
def St.okAt (s : St) (j : Nat) : Prop := ∀ c l, s.cnts[j]? = some c → s.wts[j]? = some l → St.okCnt c l = true
theorem St.counts_no {s : St} {j : Nat} {c : Int} {l : List Int} (hc : s.cnts[j]? = some c) (hl : s.wts[j]? = some l) (h : St.okCnt c l = false) : s.counts = false := by
  have hj : j < 4 := by have := (List.getElem?_eq_some_iff.1 hc).1; simpa [St.cnts] using this
  unfold St.counts
  obtain rfl | rfl | rfl | rfl : j = 0 ∨ j = 1 ∨ j = 2 ∨ j = 3 := by omega
  · simp only [St.cnts, St.wts, List.getElem?_cons_zero, Option.some.injEq] at hc hl
    subst hc hl
    rw [h]; simp
  · simp only [St.cnts, St.wts, List.getElem?_cons_zero, List.getElem?_cons_succ, Option.some.injEq] at hc hl
    subst hc hl
    rw [h]; simp
  · simp only [St.cnts, St.wts, List.getElem?_cons_zero, List.getElem?_cons_succ, Option.some.injEq] at hc hl
    subst hc hl
    rw [h]; simp
  · simp only [St.cnts, St.wts, List.getElem?_cons_zero, List.getElem?_cons_succ, Option.some.injEq] at hc hl
    subst hc hl
    rw [h]; simp
theorem St.counts_yes {s : St} (h : ∀ j, j < 4 → s.okAt j) : s.counts = true := by
  unfold St.counts
  rw [h 0 (by omega) _ _ rfl rfl, h 1 (by omega) _ _ rfl rfl, h 2 (by omega) _ _ rfl rfl, h 3 (by omega) _ _ rfl rfl]
  rfl
set_option maxRecDepth 100000 in
set_option maxHeartbeats 16000000 in
theorem smayWhole_any (h : StH) (s : St) (r : Bool) (hr : (s.whole && s.counts) = r) (w : World) (hk : StOk w h s) (hf : StFew s) : Calls Try.prog 43 #[stV h s] w fun e w' => e = .returned (.bool r) ∧ Ext w w' := by
  subst hr
  have f1 := hf.ms
  have f2 := hf.ps
  have f3 := hf.gs
  have f4 := hf.prog.1
  have f5 := hf.timers
  have F2 := Lib.hid hf.w
  have HPM := Lib.hid hf.prog
  have HTN := Lib.hid hf.tnum
  have HK := Lib.hid hk
  obtain ⟨w1, hw1⟩ : ∃ w1, w.alloc (.cells #[.slice h.pa s.prog.length h.pc, .slice h.ga s.gs.length h.gc, .slice h.qa s.ps.length h.qc, .slice h.ma s.ms.length h.mc, .slice h.la s.glob.length h.lc, .int .i64 s.c0, .int .i64 s.c1, .int .i64 s.c2, .int .i64 s.c3, .slice h.a0 s.w0.length h.k0, .slice h.a1 s.w1.length h.k1, .slice h.a2 s.w2.length h.k2, .slice h.a3 s.w3.length h.k3, .slice h.ta s.timers.length h.tc, .int .i64 s.clock, .int .i64 s.procs] 32) = w1 := ⟨_, rfl⟩
  have HX1 : Hid (Ext w w1) := Lib.hid (by rw [← hw1]; exact (Ext.refl w).alloc _)
  have HB1 : Hid (w1.heap[w.heap.size]? = some (.cells (stC h s) 32 (0, 0))) := Lib.hid (by rw [← hw1]; exact blk_new w _)
  have HK1 := Lib.hid (hk.ext HX1.out)
  have HW1 := Lib.hid hw1
  clear hw1 hk
  clear hf
  have HWE := Lib.hid (whole_eq s)
  obtain ⟨bp, hbp⟩ : ∃ bp, Pg.may s.prog = bp := ⟨_, rfl⟩
  have HBP := Lib.hid hbp
  have HPC := Lib.hid (pmay_any _ s.prog bp hbp w1 HK1.out.prog HPM.out.1 HPM.out.2)
  rw [hbp] at HWE
  clear hbp
  have q0 := st0 HB1.out
  unfold stV
  go_enter Try.func43, Try.ntmps43
  go_upto_region 1 with fail
  rw [HW1.out]
  generalize Value.agg #[.slice h.pa s.prog.length h.pc, .slice h.ga s.gs.length h.gc, .slice h.qa s.ps.length h.qc, .slice h.ma s.ms.length h.mc, .slice h.la s.glob.length h.lc, .int .i64 s.c0, .int .i64 s.c1, .int .i64 s.c2, .int .i64 s.c3, .slice h.a0 s.w0.length h.k0, .slice h.a1 s.w1.length h.k1, .slice h.a2 s.w2.length h.k2, .slice h.a3 s.w3.length h.k3, .slice h.ta s.timers.length h.tc, .int .i64 s.clock, .int .i64 s.procs] = sv0
  go_wp2_with fail
  refine HPC.out.mono ?_
  rintro e w3 ⟨rfl, hx3⟩
  have HX3 := Lib.hid hx3
  clear hx3 q0
  have q1 := st1 (HX3.out.blk HB1.out)
  have q2 := st2 (HX3.out.blk HB1.out)
  have q3 := st3 (HX3.out.blk HB1.out)
  have q15 := st15 (HX3.out.blk HB1.out)
  have q14 := st14 (HX3.out.blk HB1.out)
  have q13 := st13 (HX3.out.blk HB1.out)
  cases bp with
  | false =>
    have HNO : Hid ((s.whole && s.counts) = false) := Lib.hid (by rw [HWE.out]; rfl)
    go_wp2
    (go_ret; exact ⟨by rw [HNO.out] <;> rfl, HX1.out.trans HX3.out⟩)
  | true =>
  cases bg : wiB s.gs.length 1 1000 with
  | false =>
    have HNO : Hid ((s.whole && s.counts) = false) := Lib.hid (by rw [HWE.out, bg]; rfl)
    go_wp2_with fail
    refine (swithin_any s.gs.length 1 1000 _).mono ?_
    rintro e w' ⟨rfl, rfl⟩
    go_wp2
    (go_ret; exact ⟨by rw [HNO.out] <;> rfl, HX1.out.trans HX3.out⟩)
  | true =>
  go_wp2_with fail
  refine (swithin_any s.gs.length 1 1000 _).mono ?_
  rintro e w' ⟨rfl, rfl⟩
  by_cases a2 : s.ps.length = 8
  · have a2' : ((s.ps.length : Int) != 8) = false := by simp; omega
    have A2 := Lib.hid a2
    clear a2
    by_cases a3 : s.ms.length ≤ 1000
    · have a3' : (s.ms.length : Int) ≤ 1000 := by omega
      have HWE2 : Hid (s.whole = (wiB s.procs 1 8 && St.low s.clock && decide (Sl.May s.timers))) := Lib.hid (by
        rw [HWE.out, bg, decide_eq_true A2.out, decide_eq_true a3]; rfl)
      clear a3
      cases b4 : wiB s.procs 1 8 with
      | false =>
        have HNO : Hid ((s.whole && s.counts) = false) := Lib.hid (by rw [HWE2.out, b4]; rfl)
        go_wp2_with fail
        refine (swithin_any s.procs 1 8 _).mono ?_
        rintro e w' ⟨rfl, rfl⟩
        go_wp2
        (go_ret; exact ⟨by rw [HNO.out] <;> rfl, HX1.out.trans HX3.out⟩)
      | true =>
      go_wp2_with fail
      refine (swithin_any s.procs 1 8 _).mono ?_
      rintro e w' ⟨rfl, rfl⟩
      cases b5 : St.low s.clock with
      | false =>
        have HNO : Hid ((s.whole && s.counts) = false) := Lib.hid (by rw [HWE2.out, b5, Bool.and_false]; rfl)
        go_wp2_with fail
        refine (smayNumber_any s.clock _).mono ?_
        rintro e w' ⟨rfl, rfl⟩
        go_wp2
        (go_ret; exact ⟨by rw [HNO.out] <;> rfl, HX1.out.trans HX3.out⟩)
      | true =>
      go_wp2_with fail
      refine (smayNumber_any s.clock _).mono ?_
      rintro e w' ⟨rfl, rfl⟩
      have HWE3 : Hid (s.whole = decide (Sl.May s.timers)) := Lib.hid (by rw [HWE2.out, b4, b5]; rfl)
      have HSM := Lib.hid (fun w (hx : Ext w1 w) => smay_any _ s.timers w (HK1.out.timers.ext hx) (by omega) HTN.out)
      obtain ⟨bt, hbt⟩ : ∃ bt, decide (Sl.May s.timers) = bt := ⟨_, rfl⟩
      rw [hbt] at HWE3 HSM
      clear hbt
      go_wp2_with fail
      refine (HSM.out _ HX3.out).mono ?_
      rintro e w4 ⟨rfl, hx4⟩
      have HX4 := Lib.hid (HX3.out.trans hx4)
      clear hx4 q1 q2 q3 q13 q14 q15
      cases bt with
      | false =>
        have HNO : Hid ((s.whole && s.counts) = false) := Lib.hid (by rw [HWE3.out]; rfl)
        go_wp2
        go_ret
        exact ⟨by rw [HNO.out] <;> rfl, HX1.out.trans HX4.out⟩
      | true =>
        have HCO : Hid ((s.whole && s.counts) = s.counts) := Lib.hid (by rw [HWE3.out, Bool.true_and])
        have q5 := st5 (HX4.out.blk HB1.out)
        have q6 := st6 (HX4.out.blk HB1.out)
        have q7 := st7 (HX4.out.blk HB1.out)
        have q8 := st8 (HX4.out.blk HB1.out)
        go_wp2_with fail
        clear q5 q6 q7 q8
        go_loopw [46] (fun iv wr => ∃ k : Nat, k ≤ 4 ∧ iv = .int .i64 k ∧ (∀ j, j < k → s.okAt j) ∧ Ext w1 wr) (fun iv _ => 4 - (intOf iv).toNat)
        case atStart => exact ⟨0, by omega, rfl, fun j h => by omega, HX4.out⟩
        case round =>
          clear HX4
          obtain ⟨k, hk, rfl, hall, hx⟩ := hrel
          have HALL := Lib.hid hall
          have HX4 := Lib.hid hx
          clear hall hx
          by_cases hlt : k < 4
          · obtain ⟨c, hc1, hc2⟩ := stC_cnt (h := h) (s := s) hlt
            obtain ⟨A0, d0, l, hcell, hI, hl⟩ := HK1.out.wait hlt
            have HNK : Hid (St.okCnt c l = false → s.counts = false) := Lib.hid (St.counts_no hc2 hl)
            have HYK : Hid (St.okCnt c l = true → s.okAt k) := Lib.hid fun h c' l' h1 h2 => by rw [hc2] at h1; rw [hl] at h2; injection h1 with h1; injection h2 with h2; subst h1 h2; exact h
            have q9 := blk_cell (HX4.out.blk HB1.out) (9 + k) _ hcell
            have hidx : ∀ w, (Instr.index 28 (.agg #[.int .i64 s.c0, .int .i64 s.c1, .int .i64 s.c2, .int .i64 s.c3]) (.int .i64 (k : Int))).run Try.prog w = .ok (.int .i64 c) w := fun w => by
              obtain rfl | rfl | rfl | rfl : k = 0 ∨ k = 1 ∨ k = 2 ∨ k = 3 := by omega
              · simp only [St.cnts, List.getElem?_cons_zero, Option.some.injEq] at hc2
                rw [← hc2]; kernel_rfl
              · simp only [St.cnts, List.getElem?_cons_zero, List.getElem?_cons_succ, Option.some.injEq] at hc2
                rw [← hc2]; kernel_rfl
              · simp only [St.cnts, List.getElem?_cons_zero, List.getElem?_cons_succ, Option.some.injEq] at hc2
                rw [← hc2]; kernel_rfl
              · simp only [St.cnts, List.getElem?_cons_zero, List.getElem?_cons_succ, Option.some.injEq] at hc2
                rw [← hc2]; kernel_rfl
            have hll := wts_few F2.out hl
            clear hc1 hc2 hl hI hcell
            go_wp2_with fail
            refine (swithin_any c 0 1000000 _).mono ?_
            rintro e w' ⟨rfl, rfl⟩
            cases bc : wiB c 0 1000000 with
            | false =>
              have HNO : Hid ((s.whole && s.counts) = false) := Lib.hid (by
                rw [HCO.out]
                refine HNK.out ?_
                unfold St.okCnt
                rw [decide_eq_false (fun h => by rw [wiB_iff.2 h] at bc; cases bc)]
                rfl)
              go_wp2
              go_ret
              exact ⟨by rw [HNO.out] <;> rfl, HX1.out.trans HX4.out⟩
            | true =>
              have HBC := Lib.hid (wiB_iff.1 bc)
              by_cases c0 : 0 < c
              · by_cases l0 : 0 < l.length
                · have HNO : Hid ((s.whole && s.counts) = false) := Lib.hid (by
                    rw [HCO.out]
                    refine HNK.out ?_
                    unfold St.okCnt
                    rw [decide_eq_true c0, decide_eq_true l0]
                    simp)
                  have l0' : (0 : Int) < (l.length : Int) := by omega
                  go_wp2
                  go_ret
                  exact ⟨by rw [HNO.out] <;> rfl, HX1.out.trans HX4.out⟩
                · have HOKK : Hid (s.okAt k) := Lib.hid (HYK.out (by
                    unfold St.okCnt
                    rw [decide_eq_true (show 0 ≤ c ∧ c ≤ 1000000 from HBC.out), decide_eq_false l0, Bool.and_false]; rfl))
                  obtain rfl : l = [] := by cases l with | nil => rfl | cons a b => simp at l0
                  simp only [List.length_nil] at *
                  go_wp2
                  go_roundw
                  case rel =>
                    refine ⟨k + 1, by omega, by go_num, fun j hj => ?_, HX4.out⟩
                    by_cases hjk : j < k
                    · exact HALL.out j hjk
                    · obtain rfl : j = k := by omega
                      exact HOKK.out
                  case measure => simp [intOf]; omega
              · have HOKK : Hid (s.okAt k) := Lib.hid (HYK.out (by
                  unfold St.okCnt
                  rw [decide_eq_true (show 0 ≤ c ∧ c ≤ 1000000 from HBC.out), decide_eq_false c0]; rfl))
                have c0' : decide (0 < c) = false := by simpa using c0
                clear c0
                go_wp2
                go_roundw
                case rel =>
                  refine ⟨k + 1, by omega, by go_num, fun j hj => ?_, HX4.out⟩
                  by_cases hjk : j < k
                  · exact HALL.out j hjk
                  · obtain rfl : j = k := by omega
                    exact HOKK.out
                case measure => simp [intOf]; omega
          · have HY : Hid ((s.whole && s.counts) = true) := Lib.hid (by rw [HCO.out]; exact St.counts_yes fun j hj => HALL.out j (by omega))
            go_wp2
            go_ret
            exact ⟨by rw [HY.out] <;> rfl, HX1.out.trans HX4.out⟩
    · have HNO : Hid ((s.whole && s.counts) = false) := Lib.hid (by rw [HWE.out, decide_eq_false a3]; simp)
      have a3' : (1000 : Int) < (s.ms.length : Int) := by omega
      go_wp2
      (go_ret; exact ⟨by rw [HNO.out] <;> rfl, HX1.out.trans HX3.out⟩)
  · have HNO : Hid ((s.whole && s.counts) = false) := Lib.hid (by rw [HWE.out, decide_eq_false a2]; simp)
    have a2' : ((s.ps.length : Int) != 8) = true := by simp; omega
    go_wp2
    (go_ret; exact ⟨by rw [HNO.out] <;> rfl, HX1.out.trans HX3.out⟩)
set_option maxRecDepth 100000 in
set_option maxHeartbeats 16000000 in
theorem sstmay_any (h : StH) (s : St) (r : Bool) (hr : s.may = r) (w : World) (hk : StOk w h s) (hf : StFew s) : Calls Try.prog 15 #[stV h s] w fun e w' => e = .returned (.bool r) ∧ Ext w w' := by
  subst hr
  have HF := Lib.hid hf
  have HK := Lib.hid hk
  obtain ⟨w1, hw1⟩ : ∃ w1, w.alloc (.cells #[.slice h.pa s.prog.length h.pc, .slice h.ga s.gs.length h.gc, .slice h.qa s.ps.length h.qc, .slice h.ma s.ms.length h.mc, .slice h.la s.glob.length h.lc, .int .i64 s.c0, .int .i64 s.c1, .int .i64 s.c2, .int .i64 s.c3, .slice h.a0 s.w0.length h.k0, .slice h.a1 s.w1.length h.k1, .slice h.a2 s.w2.length h.k2, .slice h.a3 s.w3.length h.k3, .slice h.ta s.timers.length h.tc, .int .i64 s.clock, .int .i64 s.procs] 32) = w1 := ⟨_, rfl⟩
  have HX1 : Hid (Ext w w1) := Lib.hid (by rw [← hw1]; exact (Ext.refl w).alloc _)
  have HB1 : Hid (w1.heap[w.heap.size]? = some (.cells (stC h s) 32 (0, 0))) := Lib.hid (by rw [← hw1]; exact blk_new w _)
  have HK1 := Lib.hid (hk.ext HX1.out)
  have HW1 := Lib.hid hw1
  clear hw1 hk
  clear hf
  have HE := Lib.hid s.may_eq
  have HLD := Lib.hid HB1.out
  unfold stV
  go_enter Try.func15, Try.ntmps15
  go_upto_region 1 with fail
  rw [HW1.out]
  generalize Value.agg #[.slice h.pa s.prog.length h.pc, .slice h.ga s.gs.length h.gc, .slice h.qa s.ps.length h.qc, .slice h.ma s.ms.length h.mc, .slice h.la s.glob.length h.lc, .int .i64 s.c0, .int .i64 s.c1, .int .i64 s.c2, .int .i64 s.c3, .slice h.a0 s.w0.length h.k0, .slice h.a1 s.w1.length h.k1, .slice h.a2 s.w2.length h.k2, .slice h.a3 s.w3.length h.k3, .slice h.ta s.timers.length h.tc, .int .i64 s.clock, .int .i64 s.procs] = sv0
  go_wp2_with (refine wpList_load_rowW rfl 32 _ rfl w.heap.size rfl (stL h s) (stV h s) rfl _ (range_row HLD.out) Try.underlying32 rfl (by kernel_rfl) ?_)
  refine (smayWhole_any h s _ rfl _ HK1.out HF.out).mono ?_
  rintro e w3 ⟨rfl, hx3⟩
  have HX3 := Lib.hid hx3
  clear HLD
  clear hx3
  cases b1 : (s.whole && s.counts) with
  | false =>
    have HNO : Hid (s.may = false) := Lib.hid (by rw [← HE.out, b1]; rfl)
    go_wp2
    (go_ret; exact ⟨by rw [HNO.out] <;> rfl, HX1.out.trans HX3.out⟩)
  | true =>
  have HLD := Lib.hid (HX3.out.blk HB1.out)
  go_wp2_with (refine wpList_load_rowW rfl 32 _ rfl w.heap.size rfl (stL h s) (stV h s) rfl _ (range_row HLD.out) Try.underlying32 rfl (by kernel_rfl) ?_)
  refine (smayGs_any h s _ rfl _ (HK1.out.ext HX3.out) HF.out).mono ?_
  rintro e w4 ⟨rfl, hx4⟩
  have HX4 := Lib.hid (HX3.out.trans hx4)
  clear HLD
  clear hx4 HX3
  have HX3 := Lib.hid HX4.out
  cases b2 : s.gs.all s.pGood with
  | false =>
    have HNO : Hid (s.may = false) := Lib.hid (by rw [← HE.out, b1, b2]; rfl)
    go_wp2
    (go_ret; exact ⟨by rw [HNO.out] <;> rfl, HX1.out.trans HX3.out⟩)
  | true =>
  have HLD := Lib.hid (HX3.out.blk HB1.out)
  go_wp2_with (refine wpList_load_rowW rfl 32 _ rfl w.heap.size rfl (stL h s) (stV h s) rfl _ (range_row HLD.out) Try.underlying32 rfl (by kernel_rfl) ?_)
  refine (smayPs_any h s _ rfl _ (HK1.out.ext HX3.out) HF.out).mono ?_
  rintro e w5 ⟨rfl, hx5⟩
  have HX5 := Lib.hid (HX3.out.trans hx5)
  clear HLD
  clear hx5 HX3 HX4
  have HX3 := Lib.hid HX5.out
  cases b3 : allIx s.holdP 0 s.ps with
  | false =>
    have HNO : Hid (s.may = false) := Lib.hid (by rw [← HE.out, b1, b2, b3]; rfl)
    go_wp2
    (go_ret; exact ⟨by rw [HNO.out] <;> rfl, HX1.out.trans HX3.out⟩)
  | true =>
  have HLD := Lib.hid (HX3.out.blk HB1.out)
  go_wp2_with (refine wpList_load_rowW rfl 32 _ rfl w.heap.size rfl (stL h s) (stV h s) rfl _ (range_row HLD.out) Try.underlying32 rfl (by kernel_rfl) ?_)
  refine (smayMs_any h s _ rfl _ (HK1.out.ext HX3.out) HF.out).mono ?_
  rintro e w6 ⟨rfl, hx6⟩
  have HX6 := Lib.hid (HX3.out.trans hx6)
  clear HLD
  clear hx6 HX3 HX5
  have HX3 := Lib.hid HX6.out
  cases b4 : allIx s.holdM 0 s.ms with
  | false =>
    have HNO : Hid (s.may = false) := Lib.hid (by rw [← HE.out, b1, b2, b3, b4]; rfl)
    go_wp2
    (go_ret; exact ⟨by rw [HNO.out] <;> rfl, HX1.out.trans HX3.out⟩)
  | true =>
  have HP : Hid (s.places = s.may) := Lib.hid (by rw [← HE.out, b1, b2, b3, b4]; rfl)
  have HLD := Lib.hid (HX3.out.blk HB1.out)
  go_wp2_with (refine wpList_load_rowW rfl 32 _ rfl w.heap.size rfl (stL h s) (stV h s) rfl _ (range_row HLD.out) Try.underlying32 rfl (by kernel_rfl) ?_)
  refine (smayPlaces_any h s _ HP.out _ (HK1.out.ext HX3.out) HF.out).mono ?_
  rintro e w7 ⟨rfl, hx7⟩
  have HX7 := Lib.hid (HX3.out.trans hx7)
  clear HLD
  clear hx7
  go_wp2
  go_ret
  exact ⟨rfl, HX1.out.trans HX7.out⟩
set_option maxRecDepth 100000 in
set_option maxHeartbeats 1000000 in
theorem sindex_any (v : Value) (l : List Int) (n : Int) (w : World) (h : IntsAt w v l) (hl : l.length ≤ 100000000) : Calls Try.prog 130 #[v, .int .i64 n] w fun e w' => ∃ i : Int, e = .returned (.int .i64 i) ∧ decide (0 ≤ i) = decide (n ∈ l) ∧ w' = w := by
  have H := Lib.hid h
  obtain ⟨A, c, rfl, -⟩ := h
  have hl' : (l.length : Int) ≤ 100000000 := by omega
  go_enter Try.func130, Try.ntmps130
  go_wp2
  go_loop [8] (fun i => ∃ k : Nat, k ≤ l.length ∧ i = .int .i64 k ∧ ∀ (j : Nat) x, l[j]? = some x → j < k → x ≠ n) (fun i => l.length - (intOf i).toNat)
  case atStart => exact ⟨0, Nat.zero_le _, rfl, fun j x _ h => by omega⟩
  case round =>
    obtain ⟨k, hk, rfl, hall⟩ := hrel
    have HA := Lib.hid hall
    clear hall
    by_cases hlt : k < l.length
    · obtain ⟨x, hx⟩ : ∃ x, l[k]? = some x := ⟨_, List.getElem?_eq_getElem hlt⟩
      have HX := Lib.hid hx
      obtain ⟨b, o, rfl, hb, hc⟩ := ints_get H.out hx
      clear hx hb
      by_cases h1 : n = x
      · have HN : Hid (n ∈ l) := Lib.hid (by rw [h1]; exact List.mem_of_getElem? HX.out)
        have h1' : (n == x) = true := by simpa using h1
        clear h1
        go_wp2
        go_ret
        exact ⟨k, rfl, iff_of_true (by omega) HN.out, rfl⟩
      · have h1' : (n == x) = false := by simpa using h1
        have HN := Lib.hid h1
        clear h1
        go_wp2
        go_round
        case rel =>
          refine ⟨k + 1, by omega, by go_num, fun j y hy hj => ?_⟩
          by_cases hjk : j < k
          · exact HA.out j y hy hjk
          · obtain rfl : j = k := by omega
            have := HX.out
            rw [hy] at this
            injection this with this
            rw [this]
            exact fun e => HN.out e.symm
        case measure => simp [intOf]; omega
    · obtain rfl : k = l.length := by omega
      have HY : Hid (n ∉ l) := Lib.hid fun hm => by
        obtain ⟨j, hj⟩ := List.mem_iff_getElem?.1 hm
        exact HA.out j n hj (List.getElem?_eq_some_iff.1 hj).1 rfl
      go_wp2
      go_ret
      exact ⟨-1, rfl, iff_of_false (by omega) HY.out, rfl⟩
set_option maxHeartbeats 1000000 in
theorem scontains_any (v : Value) (l : List Int) (n : Int) (r : Bool) (hr : decide (n ∈ l) = r) (w : World) (h : IntsAt w v l) (hl : l.length ≤ 100000000) : Calls Try.prog 123 #[v, .int .i64 n] w fun e w' => e = .returned (.bool r) ∧ w' = w := by
  have HS := Lib.hid (sindex_any v l n w h hl)
  obtain ⟨A, c, rfl, -⟩ := h
  go_enter Try.func123, Try.ntmps123
  go_wp2_with fail
  refine HS.out.mono ?_
  rintro e w' ⟨i, rfl, hi, rfl⟩
  rw [hr] at hi
  go_wp2
  go_ret
  exact ⟨by rw [← hi] <;> rfl, rfl⟩
def St.queue (s : St) (p : Int) : List Int := if 1 ≤ p ∧ p ≤ s.procs ∧ s.may = true then St.queueOf (s.ps.getD (p - 1).toNat St.nilP) else []
theorem St.queue_no {s : St} {p : Int} (h : ¬ (1 ≤ p ∧ p ≤ s.procs ∧ s.may = true)) : s.queue p = [] := if_neg h
theorem St.may_procs {s : St} (h : s.may = true) : s.ps.length = 8 ∧ 1 ≤ s.procs ∧ s.procs ≤ 8 := by
  unfold St.may St.whole at h
  simp only [Bool.and_eq_true, decide_eq_true_eq] at h
  obtain ⟨⟨⟨⟨⟨⟨⟨⟨-, h⟩, -⟩, -⟩, -⟩, -⟩, -⟩, -⟩, -⟩ := h
  exact ⟨h.2.2.1, h.2.2.2.1, h.2.2.2.2.1⟩
theorem St.queue_yes {s : St} {j : Nat} {p : Pr} (h1 : (j : Int) + 1 ≤ s.procs) (h2 : s.may = true) (hp : s.ps[j]? = some p) : s.queue ((j : Int) + 1) = St.queueOf p := by
  unfold St.queue
  rw [if_pos ⟨by omega, h1, h2⟩, show ((j : Int) + 1 - 1).toNat = j by omega, List.getD, hp]
  rfl
def plV (q : Int × Int) : Value := .agg #[.int .i64 q.1, .int .i64 q.2]
def placeAt (n : Int) : List Pr → Nat → Int × Int
  | [], _ => (3, 0)
  | p :: ps, i => if p.next = n then (1, (i : Int) + 1) else if n ∈ p.ring.list then (2, (i : Int) + 1) else placeAt n ps (i + 1)
def waitAt (n : Int) : List (List Int) → Nat → Int × Int
  | [], _ => (6, 0)
  | l :: ls, i => if n ∈ l then (5, (i : Int)) else waitAt n ls (i + 1)
theorem drop_next {α : Type} {l : List α} {k : Nat} {x : α} (h : l[k]? = some x) : l.drop k = x :: l.drop (k + 1) := by
  obtain ⟨h1, h2⟩ := List.getElem?_eq_some_iff.1 h
  rw [List.drop_eq_getElem_cons h1, h2]
theorem place_set {w : World} {B : Nat} {x y u v : Value} {T : TypeId} (h : w.heap[B]? = some (.cells #[u, v] T (0, 0))) : ((w.setCell ⟨B, 0, none⟩ x).setCell ⟨B, 1, none⟩ y).heap[B]? = some (.cells #[x, y] T (0, 0)) := blk_set (blk_set h 0 _) 1 _
theorem place_cells {w : World} {B : Nat} {u v : Value} {T : TypeId} (h : w.heap[B]? = some (.cells #[u, v] T (0, 0))) : (w.cell? ⟨B, 0, none⟩ = some u ∧ w.cell? ⟨B, 1, none⟩ = some v) ∧ w.frozen? ⟨B, 0, none⟩ = false ∧ w.frozen? ⟨B, 1, none⟩ = false :=
  ⟨⟨blk_cell h 0 _ rfl, blk_cell h 1 _ rfl⟩, frozen_of_row _ _ 0 _ _ h, frozen_of_row _ _ 1 _ _ h⟩
theorem Ext.set2 {a w : World} {B : Nat} (h : Ext a w) (hB : a.heap.size ≤ B) (x y : Value) : Ext a ((w.setCell ⟨B, 0, none⟩ x).setCell ⟨B, 1, none⟩ y) := (h.setCell (p := ⟨B, 0, none⟩) hB x).setCell (p := ⟨B, 1, none⟩) hB y
set_option maxRecDepth 100000 in
set_option maxHeartbeats 4000000 in
theorem squeued_any (h : StH) (s : St) (n : Int) (q : Int × Int) (hq : placeAt n s.ps 0 = q) (w : World) (hk : StOk w h s) (hf : StFew s) : Calls Try.prog 94 #[stV h s, .int .i64 n] w fun e w' => e = .returned (plV q) ∧ Ext w w' := by
  have f1 := hf.ps
  have HK := Lib.hid hk
  obtain ⟨w1, hw1⟩ : ∃ w1, w.alloc (.cells #[.slice h.pa s.prog.length h.pc, .slice h.ga s.gs.length h.gc, .slice h.qa s.ps.length h.qc, .slice h.ma s.ms.length h.mc, .slice h.la s.glob.length h.lc, .int .i64 s.c0, .int .i64 s.c1, .int .i64 s.c2, .int .i64 s.c3, .slice h.a0 s.w0.length h.k0, .slice h.a1 s.w1.length h.k1, .slice h.a2 s.w2.length h.k2, .slice h.a3 s.w3.length h.k3, .slice h.ta s.timers.length h.tc, .int .i64 s.clock, .int .i64 s.procs] 32) = w1 := ⟨_, rfl⟩
  have HX1 : Hid (Ext w w1) := Lib.hid (by rw [← hw1]; exact (Ext.refl w).alloc _)
  have HB1 : Hid (w1.heap[w.heap.size]? = some (.cells (stC h s) 32 (0, 0))) := Lib.hid (by rw [← hw1]; exact blk_new w _)
  have HK1 := Lib.hid (hk.ext HX1.out)
  have HW1 := Lib.hid hw1
  clear hw1 hk
  clear hf
  obtain ⟨B, hB⟩ : ∃ B, w1.heap.size = B := ⟨_, rfl⟩
  have HB := Lib.hid hB
  obtain ⟨w2, hw2⟩ : ∃ w2, w1.alloc (.cells #[.int .i64 0, .int .i64 0] 52) = w2 := ⟨_, rfl⟩
  have HW2 := Lib.hid hw2
  have HX2 : Hid (Ext w1 w2) := Lib.hid (by rw [← hw2]; exact (Ext.refl w1).alloc _)
  have HP2 : Hid (w2.heap[B]? = some (.cells #[.int .i64 0, .int .i64 0] 52 (0, 0))) := Lib.hid (by rw [← hw2, ← hB]; exact blk_new w1 _)
  have HBW : Hid (w.heap.size ≤ B) := Lib.hid (by rw [← hB]; exact HX1.out.size)
  clear hB hw2
  have HQ0 := Lib.hid hq
  clear hq
  have q2 := st2 (HX2.out.blk HB1.out)
  unfold stV
  go_enter Try.func94, Try.ntmps94
  go_upto_region 1 with (first | rw [HW1.out] | rw [HW2.out])
  rw [HB.out]
  generalize Value.agg #[.slice h.pa s.prog.length h.pc, .slice h.ga s.gs.length h.gc, .slice h.qa s.ps.length h.qc, .slice h.ma s.ms.length h.mc, .slice h.la s.glob.length h.lc, .int .i64 s.c0, .int .i64 s.c1, .int .i64 s.c2, .int .i64 s.c3, .slice h.a0 s.w0.length h.k0, .slice h.a1 s.w1.length h.k1, .slice h.a2 s.w2.length h.k2, .slice h.a3 s.w3.length h.k3, .slice h.ta s.timers.length h.tc, .int .i64 s.clock, .int .i64 s.procs] = sv0
  go_wp2_with fail
  clear q2
  obtain ⟨qa, hqa⟩ : ∃ qa, h.qa = qa := ⟨_, rfl⟩
  have HQA := Lib.hid hqa
  rw [hqa]
  clear hqa
  go_loopw [10] (fun iv wr => ∃ k : Nat, k ≤ s.ps.length ∧ iv = .int .i64 k ∧ placeAt n (s.ps.drop k) k = q ∧ Ext w2 wr) (fun iv _ => s.ps.length - (intOf iv).toNat)
  case atStart => exact ⟨0, by omega, rfl, HQ0.out, Ext.refl _⟩
  case round =>
    obtain ⟨k, hk, rfl, hpl, hx⟩ := hrel
    have HX := Lib.hid hx
    have HPL := Lib.hid hpl
    clear hx hpl
    by_cases hlt : k < s.ps.length
    · obtain ⟨p, hp⟩ : ∃ p, s.ps[k]? = some p := ⟨_, List.getElem?_eq_getElem hlt⟩
      obtain ⟨m, nx, r, sq⟩ := p
      obtain ⟨b0, b1, b2, b3, b4, b5, b6, b7, hd, nn, rfl⟩ := Ri.open8 (HK.out.buf _ (List.mem_of_getElem? hp))
      obtain ⟨b, o, hA, hb, hc⟩ := ps_get (HK1.out.ext (HX2.out.trans HX.out)).ps hp
      rw [HQA.out] at hA
      subst hA
      obtain ⟨⟨p0, p1, p2, p3, p4, p5, p6⟩, p7, p8, p9, p10, p11, p12⟩ := hc
      obtain ⟨l, hl⟩ : ∃ l, Ri.list ⟨[b0, b1, b2, b3, b4, b5, b6, b7], hd, nn⟩ = l := ⟨_, rfl⟩
      have HL := Lib.hid hl
      have hl8 : Hid (l.length ≤ 8) := Lib.hid (by rw [← hl]; exact Ri.list_len _)
      have HD : Hid (placeAt n (s.ps.drop k) k = if nx = n then (1, (k : Int) + 1) else if n ∈ l then (2, (k : Int) + 1) else placeAt n (s.ps.drop (k + 1)) (k + 1)) := Lib.hid (by rw [drop_next hp, placeAt, ← hl])
      obtain ⟨w4, hw4⟩ : ∃ w4, wr.alloc (.cells #[.int .i64 m, .int .i64 nx, .int .i64 b0, .int .i64 b1, .int .i64 b2, .int .i64 b3, .int .i64 b4, .int .i64 b5, .int .i64 b6, .int .i64 b7, .int .i64 hd, .int .i64 nn, .int .i64 sq] 40) = w4 := ⟨_, rfl⟩
      have HW4 := Lib.hid hw4
      have HX4 : Hid (Ext wr w4) := Lib.hid (by rw [← hw4]; exact (Ext.refl wr).alloc _)
      have HB4 : Hid (w4.heap[wr.heap.size]? = some (.cells #[.int .i64 m, .int .i64 nx, .int .i64 b0, .int .i64 b1, .int .i64 b2, .int .i64 b3, .int .i64 b4, .int .i64 b5, .int .i64 b6, .int .i64 b7, .int .i64 hd, .int .i64 nn, .int .i64 sq] 40 (0, 0))) := Lib.hid (by rw [← hw4]; exact blk_new wr _)
      clear hp hb hl hw4
      go_upto_region 4 with fail
      rw [HW4.out]
      clear p0 p1 p2 p3 p4 p5 p6 p7 p8 p9 p10 p11 p12
      by_cases h1 : nx = n
      · have HQ : Hid ((1, (k : Int) + 1) = q) := Lib.hid (by rw [← HPL.out, HD.out, if_pos h1])
        have h1' : (nx == n) = true := by simpa using h1
        have z1 := blk_cell HB4.out 1 _ rfl
        have HPR := Lib.hid ((HX.out.trans HX4.out).blk HP2.out)
        have HXR := Lib.hid (HX2.out.trans (HX.out.trans HX4.out))
        obtain ⟨⟨r0, r1⟩, y0, y1⟩ := place_cells HPR.out
        clear h1
        go_wp2
        refine bodyPost_ret (v := .agg #[.int .i64 _, .int .i64 _]) (results_cell_row rfl _ _ B _ _ _ _ rfl (place_set HPR.out) Try.underlying52 rfl (by kernel_rfl)) rfl ⟨by rw [← HQ.out] <;> rfl, (HX1.out.trans HXR.out).set2 HBW.out _ _⟩
      · have h1' : (nx == n) = false := by simpa using h1
        have HD2 : Hid (placeAt n (s.ps.drop k) k = if n ∈ l then (2, (k : Int) + 1) else placeAt n (s.ps.drop (k + 1)) (k + 1)) := Lib.hid (by rw [HD.out, if_neg h1])
        clear h1
        obtain ⟨⟨p0, p1, p2, p3, p4, p5, p6⟩, p7, p8, p9, p10, p11, p12⟩ := cells13 HB4.out
        go_wp2_with fail
        refine (rlist_k b0 b1 b2 b3 b4 b5 b6 b7 hd nn l HL.out _).mono ?_
        rintro e w5 ⟨v5, rfl, hi5, hx5⟩
        obtain ⟨A5, c5, rfl⟩ := hi5.form
        clear p0 p1 p2 p3 p4 p5 p6 p7 p8 p9 p10 p11 p12
        have HX5 := Lib.hid (HX.out.trans (HX4.out.trans hx5))
        have HCN := Lib.hid (scontains_any _ l n _ rfl _ hi5 (by have := hl8.out; omega))
        clear hi5 hx5
        go_wp2_with fail
        refine HCN.out.mono ?_
        rintro e w' ⟨rfl, rfl⟩
        by_cases hm : n ∈ l
        · have HQ : Hid ((2, (k : Int) + 1) = q) := Lib.hid (by rw [← HPL.out, HD2.out, if_pos hm])
          rw [decide_eq_true hm]
          have HPR := Lib.hid (HX5.out.blk HP2.out)
          have HXR := Lib.hid (HX2.out.trans HX5.out)
          obtain ⟨⟨r0, r1⟩, y0, y1⟩ := place_cells HPR.out
          clear hm
          go_wp2
          refine bodyPost_ret (v := .agg #[.int .i64 _, .int .i64 _]) (results_cell_row rfl _ _ B _ _ _ _ rfl (place_set HPR.out) Try.underlying52 rfl (by kernel_rfl)) rfl ⟨by rw [← HQ.out] <;> rfl, (HX1.out.trans HXR.out).set2 HBW.out _ _⟩
        · have HN : Hid (placeAt n (s.ps.drop (k + 1)) (k + 1) = q) := Lib.hid (by rw [← HPL.out, HD2.out, if_neg hm])
          rw [decide_eq_false hm]
          clear hm
          go_wp2
          go_roundw
          case rel => exact ⟨k + 1, by omega, by go_num, HN.out, HX5.out⟩
          case measure => simp [intOf]; omega
    · obtain rfl : k = s.ps.length := by omega
      have HQ : Hid ((3, 0) = q) := Lib.hid (by rw [← HPL.out, List.drop_length]; rfl)
      have HPR := Lib.hid (HX.out.blk HP2.out)
      have HXR := Lib.hid (HX2.out.trans HX.out)
      obtain ⟨⟨r0, r1⟩, y0, y1⟩ := place_cells HPR.out
      go_wp2
      refine bodyPost_ret (v := .agg #[.int .i64 _, .int .i64 _]) (results_cell_row rfl _ _ B _ _ _ _ rfl (place_set HPR.out) Try.underlying52 rfl (by kernel_rfl)) rfl ⟨by rw [← HQ.out] <;> rfl, (HX1.out.trans HXR.out).set2 HBW.out _ _⟩
set_option maxRecDepth 100000 in
set_option maxHeartbeats 4000000 in
theorem ratP_any (h : StH) (s : St) (n : Int) (q : Int × Int) (hq : placeAt n s.ps 0 = q) (w : World) (hk : StOk w h s) (hf : StFew s) : Calls Try.prog 82 #[stV h s, .int .i64 n] w fun e w' => e = .returned (plV q) ∧ Ext w w' := by
  have f1 := hf.ps
  have HK := Lib.hid hk
  obtain ⟨w1, hw1⟩ : ∃ w1, w.alloc (.cells #[.slice h.pa s.prog.length h.pc, .slice h.ga s.gs.length h.gc, .slice h.qa s.ps.length h.qc, .slice h.ma s.ms.length h.mc, .slice h.la s.glob.length h.lc, .int .i64 s.c0, .int .i64 s.c1, .int .i64 s.c2, .int .i64 s.c3, .slice h.a0 s.w0.length h.k0, .slice h.a1 s.w1.length h.k1, .slice h.a2 s.w2.length h.k2, .slice h.a3 s.w3.length h.k3, .slice h.ta s.timers.length h.tc, .int .i64 s.clock, .int .i64 s.procs] 32) = w1 := ⟨_, rfl⟩
  have HX1 : Hid (Ext w w1) := Lib.hid (by rw [← hw1]; exact (Ext.refl w).alloc _)
  have HB1 : Hid (w1.heap[w.heap.size]? = some (.cells (stC h s) 32 (0, 0))) := Lib.hid (by rw [← hw1]; exact blk_new w _)
  have HK1 := Lib.hid (hk.ext HX1.out)
  have HW1 := Lib.hid hw1
  clear hw1 hk
  clear hf
  obtain ⟨B, hB⟩ : ∃ B, w1.heap.size = B := ⟨_, rfl⟩
  have HB := Lib.hid hB
  obtain ⟨w2, hw2⟩ : ∃ w2, w1.alloc (.cells #[.int .i64 0, .int .i64 0] 52) = w2 := ⟨_, rfl⟩
  have HW2 := Lib.hid hw2
  have HX2 : Hid (Ext w1 w2) := Lib.hid (by rw [← hw2]; exact (Ext.refl w1).alloc _)
  have HP2 : Hid (w2.heap[B]? = some (.cells #[.int .i64 0, .int .i64 0] 52 (0, 0))) := Lib.hid (by rw [← hw2, ← hB]; exact blk_new w1 _)
  have HBW : Hid (w.heap.size ≤ B) := Lib.hid (by rw [← hB]; exact HX1.out.size)
  clear hB hw2
  have HQ0 := Lib.hid hq
  clear hq
  unfold stV
  go_enter Try.func82, Try.ntmps82
  go_upto_region 1 with (first | rw [HW1.out] | rw [HW2.out])
  rw [HB.out]
  generalize Value.agg #[.slice h.pa s.prog.length h.pc, .slice h.ga s.gs.length h.gc, .slice h.qa s.ps.length h.qc, .slice h.ma s.ms.length h.mc, .slice h.la s.glob.length h.lc, .int .i64 s.c0, .int .i64 s.c1, .int .i64 s.c2, .int .i64 s.c3, .slice h.a0 s.w0.length h.k0, .slice h.a1 s.w1.length h.k1, .slice h.a2 s.w2.length h.k2, .slice h.a3 s.w3.length h.k3, .slice h.ta s.timers.length h.tc, .int .i64 s.clock, .int .i64 s.procs] = sv0
  go_wp2_with fail
  go_loopw [5] (fun iv wr => ∃ k : Nat, k ≤ s.ps.length ∧ iv = .int .i64 k ∧ placeAt n (s.ps.drop k) k = q ∧ Ext w2 wr) (fun iv _ => s.ps.length - (intOf iv).toNat)
  case atStart => exact ⟨0, by omega, rfl, HQ0.out, Ext.refl _⟩
  case round =>
    obtain ⟨k, hk, rfl, hpl, hx⟩ := hrel
    have HX := Lib.hid hx
    have HPL := Lib.hid hpl
    clear hx hpl
    have q2 := st2 ((HX2.out.trans HX.out).blk HB1.out)
    by_cases hlt : k < s.ps.length
    · obtain ⟨p, hp⟩ : ∃ p, s.ps[k]? = some p := ⟨_, List.getElem?_eq_getElem hlt⟩
      obtain ⟨m, nx, r, sq⟩ := p
      obtain ⟨b0, b1, b2, b3, b4, b5, b6, b7, hd, nn, rfl⟩ := Ri.open8 (HK.out.buf _ (List.mem_of_getElem? hp))
      obtain ⟨b, o, hA, hb, hc⟩ := ps_get (HK1.out.ext (HX2.out.trans HX.out)).ps hp
      rw [hA] at q2
      obtain ⟨⟨p0, p1, p2, p3, p4, p5, p6⟩, p7, p8, p9, p10, p11, p12⟩ := hc
      obtain ⟨l, hl⟩ : ∃ l, Ri.list ⟨[b0, b1, b2, b3, b4, b5, b6, b7], hd, nn⟩ = l := ⟨_, rfl⟩
      have HL := Lib.hid hl
      have hl8 : Hid (l.length ≤ 8) := Lib.hid (by rw [← hl]; exact Ri.list_len _)
      have HD : Hid (placeAt n (s.ps.drop k) k = if nx = n then (1, (k : Int) + 1) else if n ∈ l then (2, (k : Int) + 1) else placeAt n (s.ps.drop (k + 1)) (k + 1)) := Lib.hid (by rw [drop_next hp, placeAt, ← hl])
      clear hp hb hl hA
      by_cases h1 : nx = n
      · have HQ : Hid ((1, (k : Int) + 1) = q) := Lib.hid (by rw [← HPL.out, HD.out, if_pos h1])
        have h1' : (nx == n) = true := by simpa using h1
        have HPR := Lib.hid (HX.out.blk HP2.out)
        have HXR := Lib.hid (HX2.out.trans HX.out)
        obtain ⟨⟨r0, r1⟩, y0, y1⟩ := place_cells HPR.out
        clear h1
        go_wp2
        refine bodyPost_ret (v := .agg #[.int .i64 _, .int .i64 _]) (results_cell_row rfl _ _ B _ _ _ _ rfl (place_set HPR.out) Try.underlying52 rfl (by kernel_rfl)) rfl ⟨by rw [← HQ.out] <;> rfl, (HX1.out.trans HXR.out).set2 HBW.out _ _⟩
      · have h1' : (nx == n) = false := by simpa using h1
        have HD2 : Hid (placeAt n (s.ps.drop k) k = if n ∈ l then (2, (k : Int) + 1) else placeAt n (s.ps.drop (k + 1)) (k + 1)) := Lib.hid (by rw [HD.out, if_neg h1])
        clear h1
        go_wp2_with fail
        refine (rrlist_k b0 b1 b2 b3 b4 b5 b6 b7 hd nn l HL.out _).mono ?_
        rintro e w5 ⟨v5, rfl, ho5, hx5⟩
        obtain ⟨A5, c5, rfl⟩ := ho5.form
        clear p0 p1 p2 p3 p4 p5 p6 p7 p8 p9 p10 p11 p12
        have HX5 := Lib.hid (HX.out.trans hx5)
        have HCN := Lib.hid (rtimes_any _ l n _ ho5.at.2 (by have := hl8.out; omega))
        have HTL : Hid (St.times l n ≤ 8) := Lib.hid (Nat.le_trans (times_le l n) hl8.out)
        clear ho5 hx5 q2
        go_wp2_with fail
        refine HCN.out.mono ?_
        rintro e w' ⟨rfl, rfl⟩
        by_cases hm : n ∈ l
        · have HQ : Hid ((2, (k : Int) + 1) = q) := Lib.hid (by rw [← HPL.out, HD2.out, if_pos hm])
          have hmt : ((0 : Int) < (St.times l n : Int)) := by have := List.count_pos_iff.2 hm; unfold St.times; omega
          have HPR := Lib.hid (HX5.out.blk HP2.out)
          have HXR := Lib.hid (HX2.out.trans HX5.out)
          obtain ⟨⟨r0, r1⟩, y0, y1⟩ := place_cells HPR.out
          clear hm
          go_wp2
          refine bodyPost_ret (v := .agg #[.int .i64 _, .int .i64 _]) (results_cell_row rfl _ _ B _ _ _ _ rfl (place_set HPR.out) Try.underlying52 rfl (by kernel_rfl)) rfl ⟨by rw [← HQ.out] <;> rfl, (HX1.out.trans HXR.out).set2 HBW.out _ _⟩
        · have HN : Hid (placeAt n (s.ps.drop (k + 1)) (k + 1) = q) := Lib.hid (by rw [← HPL.out, HD2.out, if_neg hm])
          have hmt : St.times l n = 0 := by unfold St.times; exact List.count_eq_zero.2 hm
          rw [hmt]
          clear hm hmt
          go_wp2
          go_roundw
          case rel => exact ⟨k + 1, by omega, by go_num, HN.out, HX5.out⟩
          case measure => simp [intOf]; omega
    · obtain rfl : k = s.ps.length := by omega
      have HQ : Hid ((3, 0) = q) := Lib.hid (by rw [← HPL.out, List.drop_length]; rfl)
      have HPR := Lib.hid (HX.out.blk HP2.out)
      have HXR := Lib.hid (HX2.out.trans HX.out)
      obtain ⟨⟨r0, r1⟩, y0, y1⟩ := place_cells HPR.out
      go_wp2
      refine bodyPost_ret (v := .agg #[.int .i64 _, .int .i64 _]) (results_cell_row rfl _ _ B _ _ _ _ rfl (place_set HPR.out) Try.underlying52 rfl (by kernel_rfl)) rfl ⟨by rw [← HQ.out] <;> rfl, (HX1.out.trans HXR.out).set2 HBW.out _ _⟩
set_option maxRecDepth 100000 in
set_option maxHeartbeats 4000000 in
theorem swaiting_any (h : StH) (s : St) (n : Int) (q : Int × Int) (hq : waitAt n s.wts 0 = q) (w : World) (hk : StOk w h s) (hf : StFew s) : Calls Try.prog 95 #[stV h s, .int .i64 n] w fun e w' => e = .returned (plV q) ∧ Ext w w' := by
  have F2 := Lib.hid hf.w
  have HK := Lib.hid hk
  obtain ⟨w1, hw1⟩ : ∃ w1, w.alloc (.cells #[.slice h.pa s.prog.length h.pc, .slice h.ga s.gs.length h.gc, .slice h.qa s.ps.length h.qc, .slice h.ma s.ms.length h.mc, .slice h.la s.glob.length h.lc, .int .i64 s.c0, .int .i64 s.c1, .int .i64 s.c2, .int .i64 s.c3, .slice h.a0 s.w0.length h.k0, .slice h.a1 s.w1.length h.k1, .slice h.a2 s.w2.length h.k2, .slice h.a3 s.w3.length h.k3, .slice h.ta s.timers.length h.tc, .int .i64 s.clock, .int .i64 s.procs] 32) = w1 := ⟨_, rfl⟩
  have HX1 : Hid (Ext w w1) := Lib.hid (by rw [← hw1]; exact (Ext.refl w).alloc _)
  have HB1 : Hid (w1.heap[w.heap.size]? = some (.cells (stC h s) 32 (0, 0))) := Lib.hid (by rw [← hw1]; exact blk_new w _)
  have HK1 := Lib.hid (hk.ext HX1.out)
  have HW1 := Lib.hid hw1
  clear hw1 hk
  clear hf
  obtain ⟨B, hB⟩ : ∃ B, w1.heap.size = B := ⟨_, rfl⟩
  have HB := Lib.hid hB
  obtain ⟨w2, hw2⟩ : ∃ w2, w1.alloc (.cells #[.int .i64 0, .int .i64 0] 52) = w2 := ⟨_, rfl⟩
  have HW2 := Lib.hid hw2
  have HX2 : Hid (Ext w1 w2) := Lib.hid (by rw [← hw2]; exact (Ext.refl w1).alloc _)
  have HP2 : Hid (w2.heap[B]? = some (.cells #[.int .i64 0, .int .i64 0] 52 (0, 0))) := Lib.hid (by rw [← hw2, ← hB]; exact blk_new w1 _)
  have HBW : Hid (w.heap.size ≤ B) := Lib.hid (by rw [← hB]; exact HX1.out.size)
  clear hB hw2
  have HQ0 := Lib.hid hq
  clear hq
  have q9 := st9 (HX2.out.blk HB1.out)
  have q10 := st10 (HX2.out.blk HB1.out)
  have q11 := st11 (HX2.out.blk HB1.out)
  have q12 := st12 (HX2.out.blk HB1.out)
  unfold stV
  go_enter Try.func95, Try.ntmps95
  go_upto_region 1 with (first | rw [HW1.out] | rw [HW2.out])
  rw [HB.out]
  generalize Value.agg #[.slice h.pa s.prog.length h.pc, .slice h.ga s.gs.length h.gc, .slice h.qa s.ps.length h.qc, .slice h.ma s.ms.length h.mc, .slice h.la s.glob.length h.lc, .int .i64 s.c0, .int .i64 s.c1, .int .i64 s.c2, .int .i64 s.c3, .slice h.a0 s.w0.length h.k0, .slice h.a1 s.w1.length h.k1, .slice h.a2 s.w2.length h.k2, .slice h.a3 s.w3.length h.k3, .slice h.ta s.timers.length h.tc, .int .i64 s.clock, .int .i64 s.procs] = sv0
  go_wp2_with fail
  clear q9 q10 q11 q12
  go_loopw [9] (fun iv wr => ∃ k : Nat, k ≤ 4 ∧ iv = .int .i64 k ∧ waitAt n (s.wts.drop k) k = q ∧ wr = w2) (fun iv _ => 4 - (intOf iv).toNat)
  case atStart => exact ⟨0, by omega, rfl, HQ0.out, rfl⟩
  case round =>
    obtain ⟨k, hk, rfl, hpl, rfl⟩ := hrel
    have HPL := Lib.hid hpl
    clear hpl
    by_cases hlt : k < 4
    · obtain ⟨A0, d0, l, hcell, hI, hl⟩ := HK1.out.wait hlt
      have hidx : ∀ w, (Instr.index 29 (.agg #[.slice h.a0 s.w0.length h.k0, .slice h.a1 s.w1.length h.k1, .slice h.a2 s.w2.length h.k2, .slice h.a3 s.w3.length h.k3]) (.int .i64 (k : Int))).run Try.prog w = .ok (.slice A0 l.length d0) w := fun w => by
        obtain rfl | rfl | rfl | rfl : k = 0 ∨ k = 1 ∨ k = 2 ∨ k = 3 := by omega
        · have he : Value.slice h.a0 s.w0.length h.k0 = .slice A0 l.length d0 := Option.some.inj hcell
          refine Eq.trans (b := .ok (.slice h.a0 s.w0.length h.k0) w) ?_ (by rw [he])
          kernel_rfl
        · have he : Value.slice h.a1 s.w1.length h.k1 = .slice A0 l.length d0 := Option.some.inj hcell
          refine Eq.trans (b := .ok (.slice h.a1 s.w1.length h.k1) w) ?_ (by rw [he])
          kernel_rfl
        · have he : Value.slice h.a2 s.w2.length h.k2 = .slice A0 l.length d0 := Option.some.inj hcell
          refine Eq.trans (b := .ok (.slice h.a2 s.w2.length h.k2) w) ?_ (by rw [he])
          kernel_rfl
        · have he : Value.slice h.a3 s.w3.length h.k3 = .slice A0 l.length d0 := Option.some.inj hcell
          refine Eq.trans (b := .ok (.slice h.a3 s.w3.length h.k3) w) ?_ (by rw [he])
          kernel_rfl
      have HCN := Lib.hid (scontains_any _ l n _ rfl wr (hI.ext HX2.out) (by have := wts_few F2.out hl; omega))
      have HD : Hid (waitAt n (s.wts.drop k) k = if n ∈ l then (5, (k : Int)) else waitAt n (s.wts.drop (k + 1)) (k + 1)) := Lib.hid (by rw [drop_next hl, waitAt])
      clear hcell hI hl
      go_wp2_with fail
      refine HCN.out.mono ?_
      rintro e w' ⟨rfl, rfl⟩
      clear hidx
      by_cases hm : n ∈ l
      · have HQ : Hid ((5, (k : Int)) = q) := Lib.hid (by rw [← HPL.out, HD.out, if_pos hm])
        rw [decide_eq_true hm]
        have HPR := Lib.hid HP2.out
        have HXR := Lib.hid HX2.out
        obtain ⟨⟨r0, r1⟩, y0, y1⟩ := place_cells HPR.out
        clear hm
        go_wp2
        refine bodyPost_ret (v := .agg #[.int .i64 _, .int .i64 _]) (results_cell_row rfl _ _ B _ _ _ _ rfl (place_set HPR.out) Try.underlying52 rfl (by kernel_rfl)) rfl ⟨by rw [← HQ.out] <;> rfl, (HX1.out.trans HXR.out).set2 HBW.out _ _⟩
      · have HN : Hid (waitAt n (s.wts.drop (k + 1)) (k + 1) = q) := Lib.hid (by rw [← HPL.out, HD.out, if_neg hm])
        rw [decide_eq_false hm]
        clear hm
        go_wp2
        go_roundw
        case rel => exact ⟨k + 1, by omega, by go_num, HN.out, trivial⟩
        case measure => simp [intOf]; omega
    · have HQ : Hid ((6, 0) = q) := Lib.hid (by
        obtain rfl : k = 4 := by omega
        rw [← HPL.out]; rfl)
      have HPR := Lib.hid HP2.out
      have HXR := Lib.hid HX2.out
      obtain ⟨⟨r0, r1⟩, y0, y1⟩ := place_cells HPR.out
      go_wp2
      refine bodyPost_ret (v := .agg #[.int .i64 _, .int .i64 _]) (results_cell_row rfl _ _ B _ _ _ _ rfl (place_set HPR.out) Try.underlying52 rfl (by kernel_rfl)) rfl ⟨by rw [← HQ.out] <;> rfl, (HX1.out.trans HXR.out).set2 HBW.out _ _⟩
def HdrAt (w : World) (g : Nat) (hs : List (Option Addr × Nat × Nat)) : Prop := ∃ cs, w.heap[g]? = some (.cells cs 69 (0, 0)) ∧ ∀ (j : Nat) x, hs[j]? = some x → cs[j]? = some (.slice x.1 x.2.1 x.2.2)
theorem HdrAt.cell {w : World} {g : Nat} {hs : List (Option Addr × Nat × Nat)} (h : HdrAt w g hs) {j : Nat} {x : Option Addr × Nat × Nat} (hj : hs[j]? = some x) : w.cell? ⟨g, j, none⟩ = some (.slice x.1 x.2.1 x.2.2) := by
  obtain ⟨cs, hc, hh⟩ := h
  exact blk_cell hc j _ (hh j x hj)
theorem HdrAt.frozen {w : World} {g : Nat} {hs : List (Option Addr × Nat × Nat)} (h : HdrAt w g hs) (j : Nat) : w.frozen? ⟨g, j, none⟩ = false := by
  obtain ⟨cs, hc, hh⟩ := h
  exact frozen_of_row _ _ j _ _ hc
theorem HdrAt.ext {w w' : World} {g : Nat} {hs : List (Option Addr × Nat × Nat)} (h : HdrAt w g hs) (hx : Ext w w') : HdrAt w' g hs := by
  obtain ⟨cs, hc, hh⟩ := h
  exact ⟨cs, hx.blk hc, hh⟩
theorem HdrAt.set {w : World} {g k : Nat} {ns hs : List (Option Addr × Nat × Nat)} {y x : Option Addr × Nat × Nat} (h : HdrAt w g (ns ++ y :: hs)) (hk : k = ns.length) : HdrAt (w.setCell ⟨g, k, none⟩ (.slice x.1 x.2.1 x.2.2)) g (ns ++ x :: hs) := by
  subst hk
  obtain ⟨cs, hc, hh⟩ := h
  refine ⟨_, blk_set hc _ _, fun j z hj => ?_⟩
  by_cases he : j = ns.length
  · subst he
    have := hh ns.length y (by simp)
    rw [List.getElem?_append_right (Nat.le_refl _), Nat.sub_self] at hj
    simp only [List.getElem?_cons_zero, Option.some.injEq] at hj
    subst hj
    rw [Array.getElem?_setIfInBounds_self_of_lt (Array.getElem?_eq_some_iff.1 this).1]
  · rw [Array.getElem?_setIfInBounds_ne (Ne.symm he)]
    refine hh j z ?_
    rw [List.getElem?_append] at hj ⊢
    split at hj
    · rename_i hlt; rw [if_pos hlt]; exact hj
    · rename_i hlt
      rw [if_neg hlt]
      obtain ⟨i, hi⟩ : ∃ i, j - ns.length = i + 1 := ⟨j - ns.length - 1, by omega⟩
      rw [hi] at hj ⊢
      exact hj
theorem HdrAt.own {w : World} {B n c g : Nat} {hs : List (Option Addr × Nat × Nat)} (h : OwnRows 69 1 hdrL w B (.slice (some ⟨g, 0, none⟩) n c) hs) : HdrAt w g hs := by
  rcases h.2 with ⟨h0, _⟩ | ⟨g', cap, cur, hv, hb, hg, hnc, hcm, hcs, htake⟩
  · cases h0
  · simp only [Value.slice.injEq, Option.some.injEq, Addr.mk.injEq] at hv
    obtain ⟨⟨rfl, -, -⟩, -, -⟩ := hv
    refine ⟨cur, hg, fun j x hj => ?_⟩
    have h1 := flatMap_get (f := hdrL) (m := 1) hdrL_len hs j x hj 0 _ rfl
    rw [← htake, Nat.mul_one, Nat.add_zero, List.getElem?_take] at h1
    split at h1
    · rw [Nat.mul_one] at h1; rw [← Array.getElem?_toList]; exact h1
    · cases h1
theorem NestAt.hdrs {α : Type} {m : Nat} {f : α → List Value} {w : World} {v : Value} {xss : List (List α)} (h : NestAt m f w v xss) : ∃ hs : List (Option Addr × Nat × Nat), hs.length = xss.length ∧ RowsAt 1 hdrL w v hs ∧ ∀ (i : Nat) x xs, hs[i]? = some x → xss[i]? = some xs → RowsAt m f w (.slice x.1 x.2.1 x.2.2) xs := by
  obtain ⟨vs, h1, h2, h3⟩ := h
  have hf : ∀ v ∈ vs, ∃ x : Option Addr × Nat × Nat, v = .slice x.1 x.2.1 x.2.2 := fun v hv => by
    obtain ⟨i, hi⟩ := List.mem_iff_getElem?.1 hv
    have hlt := (List.getElem?_eq_some_iff.1 hi).1
    obtain ⟨A, c, hvv, _⟩ := (h3 i v _ hi (List.getElem?_eq_getElem (by omega))).form
    exact ⟨(A, _, c), hvv⟩
  let g : Value → Option Addr × Nat × Nat := fun v => match v with | .slice A n c => (A, n, c) | _ => (none, 0, 0)
  have hg : ∀ v ∈ vs, v = .slice (g v).1 (g v).2.1 (g v).2.2 := fun v hv => by obtain ⟨x, rfl⟩ := hf v hv; rfl
  refine ⟨vs.map g, by simp [h1], ?_, fun i x xs hx hxs => ?_⟩
  · obtain ⟨A, c, rfl, hc, hA⟩ := h2
    refine ⟨A, c, by simp, by simpa using hc, fun h0 => ?_⟩
    obtain ⟨b, o, hb, hlt, hcell⟩ := hA (by simpa using h0)
    refine ⟨b, o, hb, hlt, fun j x hj i u hu => ?_⟩
    rw [List.getElem?_map, Option.map_eq_some_iff] at hj
    obtain ⟨v, hv, rfl⟩ := hj
    have := hcell j v hv 0 v rfl
    match i with
    | 0 => simp [hdrL] at hu; subst hu; rw [this, ← hg v (List.mem_of_getElem? hv)]
    | i + 1 => simp [hdrL] at hu
  · rw [List.getElem?_map, Option.map_eq_some_iff] at hx
    obtain ⟨v, hv, rfl⟩ := hx
    rw [← hg v (List.mem_of_getElem? hv)]
    exact h3 i v xs hv hxs
set_option maxRecDepth 100000 in
set_option maxHeartbeats 4000000 in
theorem scloneProg_any (v : Value) (p : List (List (Int × Int))) (w : World) (h : NestAt 2 pairL w v p) (hp : p.length ≤ 100000) (hpl : ∀ l ∈ p, l.length ≤ 100000) : Calls Try.prog 93 #[v] w fun e w' => ∃ A c, e = .returned (.slice A p.length c) ∧ NestIn w.heap.size w'.heap.size 2 pairL w' (.slice A p.length c) p ∧ Ext w w' := by
  obtain ⟨hs, hl, hr, hin⟩ := h.hdrs
  have HIN := Lib.hid hin
  have HPL := Lib.hid hpl
  have HL := Lib.hid hl
  have HCL := Lib.hid (cloneH_any v hs w hr (by omega))
  clear h hl hr hin hpl
  go_enter Try.func93, Try.ntmps93
  go_wp2_with fail
  refine HCL.out.mono ?_
  rintro e w1 ⟨u, rfl, ho, hx⟩
  obtain ⟨A, c, rfl, hc⟩ := (OwnRows.rows hdrL_len ho).form
  have HO := Lib.hid ho
  have HX := Lib.hid hx
  have HCC : Hid (p.length ≤ c) := Lib.hid (by rw [← HL.out]; exact hc)
  rw [HL.out] at HO ⊢
  clear ho hx hc
  by_cases hp0 : p = []
  · subst hp0
    have HN : Hid (NestIn w.heap.size w1.heap.size 2 pairL w1 (.slice A 0 c) []) := Lib.hid ⟨[], rfl, RowsIn.nil _ _ _, fun i u xs h => by simp at h⟩
    simp only [List.length_nil] at *
    clear HCC HCL HL HO
    go_wp2_with fail
    go_loop [10] (fun iv => iv = .int .i64 0) (fun _ => 0)
    case atStart => rfl
    case round =>
      subst hrel
      go_wp2
      go_ret
      exact ⟨A, c, rfl, HN.out, HX.out⟩
  have hpos : 0 < p.length := List.length_pos_iff.2 hp0
  obtain ⟨g, rfl⟩ : ∃ g, A = some ⟨g, 0, none⟩ := by
    rcases HO.out.2 with ⟨h0, hz⟩ | ⟨g, cap, cur, hv, _⟩
    · exact absurd hz (by have := HL.out; omega)
    · simp only [Value.slice.injEq] at hv
      exact ⟨g, hv.1⟩
  have hgl := OwnRows.lt HO.out g rfl
  have HG := Lib.hid hgl
  have HH := Lib.hid (HdrAt.own HO.out)
  clear hgl HO
  go_wp2_with fail
  go_loopw [10] (fun iv wr => ∃ k : Nat, k ≤ p.length ∧ iv = .int .i64 k ∧ ∃ ns : List (Option Addr × Nat × Nat), ns.length = k ∧ HdrAt wr g (ns ++ hs.drop k) ∧ (∀ (i : Nat) x l, ns[i]? = some x → p[i]? = some l → RowsIn w1.heap.size wr.heap.size 2 pairL wr (.slice x.1 x.2.1 x.2.2) l) ∧ w1.heap.size ≤ wr.heap.size ∧ Ext w wr) (fun iv _ => p.length - (intOf iv).toNat)
  case atStart => exact ⟨0, by omega, rfl, [], rfl, HH.out, fun i x l h => by simp at h, Nat.le_refl _, HX.out⟩
  case round =>
    clear HH HX
    obtain ⟨k, hk, rfl, ns, hns, hhd, hrows, hsz, hx⟩ := hrel
    have HNS := Lib.hid hns
    have HHD := Lib.hid hhd
    have HRW := Lib.hid hrows
    have HSZ := Lib.hid hsz
    have HX := Lib.hid hx
    clear hns hhd hrows hsz hx
    by_cases hlt : k < p.length
    · obtain ⟨l, hpl⟩ : ∃ l, p[k]? = some l := ⟨_, List.getElem?_eq_getElem hlt⟩
      obtain ⟨x, hxs⟩ : ∃ x, hs[k]? = some x := ⟨_, List.getElem?_eq_getElem (by have := HL.out; omega)⟩
      have hrow := HIN.out k x l hxs hpl
      obtain ⟨B, n, d⟩ := x
      obtain rfl : n = l.length := (RowsAt.len hrow).1
      have HD : Hid (HdrAt wr g (ns ++ (B, l.length, d) :: hs.drop (k + 1))) := Lib.hid (by have := HHD.out; rwa [drop_next hxs] at this)
      have kc : wr.cell? ⟨g, k, none⟩ = some (.slice B l.length d) := HD.out.cell (x := (B, l.length, d)) (by rw [← HNS.out]; simp)
      have HCI := Lib.hid (cloneI_any _ l wr (hrow.ext HX.out) (by have := HPL.out l (List.mem_of_getElem? hpl); omega))
      have HPK := Lib.hid hpl
      clear hpl hxs hrow
      go_wp2_with fail
      refine HCI.out.mono ?_
      rintro e w3 ⟨u, rfl, ho, hx3⟩
      obtain ⟨A', c', rfl, hc'⟩ := (OwnRows.rows pairL_len ho).form
      have HD3 := Lib.hid (HD.out.ext hx3)
      have kc3 : w3.cell? ⟨g, k, none⟩ = some (.slice B l.length d) := HD3.out.cell (x := (B, l.length, d)) (by rw [← HNS.out]; simp)
      have kf3 := HD3.out.frozen k
      have hbut : But (fun i => i = g) w3 (w3.setCell ⟨g, k, none⟩ (.slice A' l.length c')) := But.upd ((Upd.refl g w3).set k _) rfl
      have HN1 : Hid (HdrAt (w3.setCell ⟨g, k, none⟩ (.slice A' l.length c')) g ((ns ++ [(A', l.length, c')]) ++ hs.drop (k + 1))) := Lib.hid (by
        have := HD3.out.set (x := (A', l.length, c')) HNS.out.symm
        rwa [List.append_assoc])
      have hg1 := HG.out
      have hz1 := HSZ.out
      have HN2 : Hid (∀ (i : Nat) x l', (ns ++ [(A', l.length, c')])[i]? = some x → p[i]? = some l' → RowsIn w1.heap.size (w3.setCell ⟨g, k, none⟩ (.slice A' l.length c')).heap.size 2 pairL (w3.setCell ⟨g, k, none⟩ (.slice A' l.length c')) (.slice x.1 x.2.1 x.2.2) l') := Lib.hid fun i x l' hi hl' => by
        rw [List.getElem?_append] at hi
        split at hi
        · have := HRW.out i x l' hi hl'
          exact ((this.ext hx3).but hbut (fun b h1 _ h2 => by omega)).mono (Nat.le_refl _) (Nat.le_trans hx3.size hbut.size)
        · rename_i hge
          have hi0 : i = ns.length := by
            have := (List.getElem?_eq_some_iff.1 hi).1
            simp at this; omega
          subst hi0
          simp only [Nat.sub_self, List.getElem?_cons_zero, Option.some.injEq] at hi
          subst hi
          have hll : l' = l := by have := HPK.out; rw [← HNS.out, hl'] at this; exact Option.some.inj this
          subst hll
          exact ((OwnRows.rowsIn pairL_len ho).but hbut (fun b h1 _ h2 => by omega)).mono hz1 hbut.size
      have HN3 : Hid (w1.heap.size ≤ (w3.setCell ⟨g, k, none⟩ (.slice A' l.length c')).heap.size) := Lib.hid (Nat.le_trans hz1 (Nat.le_trans hx3.size hbut.size))
      have HN4 : Hid (Ext w (w3.setCell ⟨g, k, none⟩ (.slice A' l.length c'))) := Lib.hid ((HX.out.trans hx3).setCell (p := ⟨g, k, none⟩) hg1.1 _)
      have HN5 : Hid ((ns ++ [(A', l.length, c')]).length = k + 1) := Lib.hid (by rw [List.length_append, HNS.out]; rfl)
      clear ho hx3 hc' hbut hg1 hz1 kc
      go_wp2
      go_roundw
      case rel => exact ⟨k + 1, by omega, by go_num, ns ++ [(A', l.length, c')], HN5.out, HN1.out, HN2.out, HN3.out, HN4.out⟩
      case measure => simp [intOf]; omega
    · obtain rfl : k = p.length := by omega
      have HNE : Hid (NestIn w.heap.size wr.heap.size 2 pairL wr (.slice (some ⟨g, 0, none⟩) p.length c) p) := Lib.hid (by
        have hg1 := HG.out
        have hsz := HSZ.out
        have hxw := HX.out.size
        refine ⟨ns.map fun x => .slice x.1 x.2.1 x.2.2, by rw [List.length_map]; exact HNS.out, ⟨some ⟨g, 0, none⟩, c, by rw [List.length_map, HNS.out], by rw [List.length_map, HNS.out]; exact HCC.out, fun _ => ⟨g, 0, rfl, hg1.1, by omega, by omega, fun j x hj i u hu => ?_⟩⟩, fun i u xs hu hxs => ?_⟩
        · rw [List.getElem?_map, Option.map_eq_some_iff] at hj
          obtain ⟨y, hy, rfl⟩ := hj
          match i with
          | 0 =>
            simp [oneL] at hu; subst hu
            rw [Nat.mul_one, Nat.add_zero, Nat.zero_add]
            exact HHD.out.cell (by rw [List.getElem?_append_left (List.getElem?_eq_some_iff.1 hy).1]; exact hy)
          | i + 1 => simp [oneL] at hu
        · rw [List.getElem?_map, Option.map_eq_some_iff] at hu
          obtain ⟨y, hy, rfl⟩ := hu
          exact (HRW.out i y xs hy hxs).mono (by omega) (Nat.le_refl _))
      go_wp2
      go_ret
      exact ⟨_, c, rfl, HNE.out, HX.out⟩
end Go.Proofs.Ytogcfndhcphpaaa
