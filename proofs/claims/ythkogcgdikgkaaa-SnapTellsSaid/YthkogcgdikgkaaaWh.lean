/-
  The document's answer for layer 2's reader, as contracts.
-/
import Derived.Test.YthkogcgdikgkaaaWg
set_option linter.unusedVariables false
set_option linter.unusedSimpArgs false
namespace Go.Proofs.Ythkogcgdikgkaaa
open Go.RowKit

/-- The document's reader lies in block g. -/
def RR (w : World) (g : Nat) (s : ByteArray) (a e f : Int) : Prop := w.heap[g]? = some (.cells #[.string s, .int .i64 a, .int .i64 e, .int .i64 f] 51 (0, 0))
def Wi.frm (a e : Int) : Int := if e = 0 then 0 else a
def RQ (w : World) (g : Nat) (s : ByteArray) (a e : Int) : Prop := RR w g s a e (Wi.frm a e)
section
variable {w w' : World} {g : Nat} {s : ByteArray} {a e f : Int}
theorem RR.lt (h : RR w g s a e f) : g < w.heap.size := (Array.getElem?_eq_some_iff.1 h).1
theorem RR.c0 (h : RR w g s a e f) : w.cell? ⟨g, 0, none⟩ = some (.string s) := cell_of_row w g 0 _ _ (0, 0) h
theorem RR.c1 (h : RR w g s a e f) : w.cell? ⟨g, 1, none⟩ = some (.int .i64 a) := cell_of_row w g 1 _ _ (0, 0) h
theorem RR.c2 (h : RR w g s a e f) : w.cell? ⟨g, 2, none⟩ = some (.int .i64 e) := cell_of_row w g 2 _ _ (0, 0) h
theorem RR.c3 (h : RR w g s a e f) : w.cell? ⟨g, 3, none⟩ = some (.int .i64 f) := cell_of_row w g 3 _ _ (0, 0) h
theorem RR.fz (h : RR w g s a e f) (i : Nat) : w.frozen? ⟨g, i, none⟩ = false := frozen_of_row w g i _ _ h
theorem RR.set1 (h : RR w g s a e f) (b : Int) : RR (w.setCell ⟨g, 1, none⟩ (.int .i64 b)) g s b e f := heap_setCell_same w g 1 _ _ _ h
theorem RR.set2 (h : RR w g s a e f) (b : Int) : RR (w.setCell ⟨g, 2, none⟩ (.int .i64 b)) g s a b f := heap_setCell_same w g 2 _ _ _ h
theorem RR.set3 (h : RR w g s a e f) (b : Int) : RR (w.setCell ⟨g, 3, none⟩ (.int .i64 b)) g s a e b := heap_setCell_same w g 3 _ _ _ h
theorem RR.drewN (h : RR w g s a e f) (n : Nat) : RR (w.drewN n) g s a e f := h
theorem RQ.ext (h : RQ w g s a e) (hx : Ext w w') : RQ w' g s a e := (hx.block g (RR.lt h)).trans h
theorem RQ.drewN (h : RQ w g s a e) (n : Nat) : RQ (w.drewN n) g s a e := h
theorem RQ.upd {k : Nat} (h : RQ w g s a e) (hu : Upd k w w') (hne : g ≠ k) : RQ w' g s a e := (hu.block g (RR.lt h) (by simpa using hne)).trans h
theorem RD.upd {k : Nat} (h : RD w g s a e) (hu : Upd k w w') (hne : g ≠ k) : RD w' g s a e := (hu.block g h.lt (by simpa using hne)).trans h
end

set_option maxRecDepth 100000 in
set_option maxHeartbeats 1000000 in
theorem fail_any (g : Nat) (s : ByteArray) (a e f c fr : Int) (w : World) (h : RR w g s a e f) :
    Calls Try.prog 36 #[.pointer (some ⟨g, 0, none⟩), .int .i64 c, .int .i64 fr] w fun r w' => r = .returned (.tuple #[]) ∧ RR w' g s fr c fr ∧ Upd g w w' := by
  have c1 := h.c1
  have c2 := h.c2
  have c3 := h.c3
  have f1 := h.fz 1
  have f2 := h.fz 2
  have f3 := h.fz 3
  have d3 := (h.set2 c).c3
  have g3 := (h.set2 c).fz 3
  have d1 := ((h.set2 c).set3 fr).c1
  have g1 := ((h.set2 c).set3 fr).fz 1
  have HR := Lib.hid h; clear h
  go_enter Try.func36, Try.ntmps36
  go_wp2
  go_end0
  exact ⟨rfl, ((HR.out.set2 c).set3 fr).set1 fr, (((Upd.refl _ _).set _ _).set _ _).set _ _⟩

set_option maxRecDepth 100000 in
set_option maxHeartbeats 1000000 in
theorem qnum_any (g : Nat) (s : ByteArray) (a e : Int) (w : World) (h : RQ w g s a e) (hs : s.size ≤ maxLen) :
    Calls Try.prog 23 #[.pointer (some ⟨g, 0, none⟩)] w fun r w' =>
      r = .returned (.int .i64 (Wi.num s a e).1) ∧ RQ w' g s (Wi.num s a e).2.1 (Wi.num s a e).2.2 ∧ Upd g w w' := by
  have c0 := h.c0
  have c1 := h.c1
  have c2 := h.c2
  have f1 := h.fz 1
  have HR := Lib.hid h; clear h
  unfold Wi.num
  by_cases he : e = 0
  · subst he
    rw [if_pos rfl]
    by_cases hz : Va.tz s a = 0
    · rw [if_pos hz]
      have hzb : (Va.tz s a == 0) = true := by simpa using hz
      have HZ := Lib.hid hz; clear hz
      go_enter Try.func23, Try.ntmps23
      go_wp2
      clear c0 c1 c2
      refine region_all (fun v => Ext w v) (by kernel_rfl) (Ext.drew (Ext.refl _)) ?_
      have K0 : ∀ v, Ext w v → v.cell? ⟨g, 0, none⟩ = some (.string s) := fun v hv => RR.c0 (HR.out.ext hv)
      have K1 : ∀ v, Ext w v → v.cell? ⟨g, 1, none⟩ = some (.int .i64 a) := fun v hv => RR.c1 (HR.out.ext hv)
      refine all_take (i := 0) (v := ?_) rfl (by kernel_rfl) (by kernel_rfl) (by kernel_rfl) (fun _ _ _ h => h) (Tame.yes (by kernel_rfl) fun w hS => ?_) ?_
      rotate_left 1
      · skip
        go_simp
        refine gives_mk ?_ hS
        with_reducible rfl
      refine all_take (i := 1) (v := ?_) rfl (by kernel_rfl) (by kernel_rfl) (by kernel_rfl) (fun _ _ _ h => h) (Tame.yes (by kernel_rfl) fun w hS => ?_) ?_
      rotate_left 1
      · skip
        go_simp
        refine gives_mk ?_ hS
        with_reducible rfl
      refine all_take (i := 2) (v := ?_) rfl (by kernel_rfl) (by kernel_rfl) (by kernel_rfl) (fun _ _ _ h => h) (Tame.yes (by kernel_rfl) fun w hS => ?_) ?_
      rotate_left 1
      · skip
        go_simp
        refine gives_mk ?_ hS
        with_reducible rfl
      refine all_take (i := 3) (v := ?_) rfl (by kernel_rfl) (by kernel_rfl) (by kernel_rfl) (fun _ _ _ h => h) (Tame.yes (by kernel_rfl) fun w hS => ?_) ?_
      rotate_left 1
      · skip
        go_simp
        refine gives_mk ?_ hS
        with_reducible rfl
      refine all_take (i := 4) (v := ?_) rfl (by kernel_rfl) (by kernel_rfl) (by kernel_rfl) (fun _ _ _ h => h) (Tame.yes (by kernel_rfl) fun w hS => ?_) ?_
      rotate_left 1
      · skip
        go_simp
        refine gives_mk ?_ hS
        with_reducible rfl
      refine all_take (i := 5) (v := ?_) rfl (by kernel_rfl) (by kernel_rfl) (by kernel_rfl) (fun _ _ _ h => h) (Tame.yes (by kernel_rfl) fun w hS => ?_) ?_
      rotate_left 1
      · skip
        go_simp
        refine gives_mk ?_ hS
        with_reducible rfl
      refine all_take (i := 6) (v := ?_) rfl (by kernel_rfl) (by kernel_rfl) (by kernel_rfl) (fun _ _ _ h => h) (Tame.yes (by kernel_rfl) fun w hS => ?_) ?_
      rotate_left 1
      · skip
        go_simp
        refine gives_mk ?_ hS
        with_reducible rfl
      refine all_take (i := 7) (v := ?_) rfl (by kernel_rfl) (by kernel_rfl) (by kernel_rfl) (fun _ _ _ h => h) (Tame.yes (by kernel_rfl) fun w hS => ?_) ?_
      rotate_left 1
      · skip
        go_simp
        refine gives_mk ?_ hS
        with_reducible rfl
      clear K0 K1
      refine all_take (i := 8) (v := .tuple #[.int .i64 (Va.tx s a), .int .i64 (Va.ty s a), .int .i64 (Va.tz s a)]) rfl (by kernel_rfl) (by kernel_rfl) (by kernel_rfl) (fun _ _ _ h => h) (Tame.yes (by kernel_rfl) fun w hS => ?_) ?_
      · go_simp
        refine gives_call ((rtake_all s a _ hs).mono ?_)
        exact fun r w2 ⟨he, hx⟩ => ⟨he, hS.trans hx⟩
      refine all_take (i := 9) (v := ?_) rfl (by kernel_rfl) (by kernel_rfl) (by kernel_rfl) (fun _ _ _ h => h) (Tame.yes (by kernel_rfl) fun w hS => ?_) ?_
      rotate_left 1
      · skip
        go_simp
        refine gives_mk ?_ hS
        with_reducible rfl
      refine all_take (i := 10) (v := ?_) rfl (by kernel_rfl) (by kernel_rfl) (by kernel_rfl) (fun _ _ _ h => h) (Tame.yes (by kernel_rfl) fun w hS => ?_) ?_
      rotate_left 1
      · skip
        go_simp
        refine gives_mk ?_ hS
        with_reducible rfl
      refine all_take (i := 11) (v := ?_) rfl (by kernel_rfl) (by kernel_rfl) (by kernel_rfl) (fun _ _ _ h => h) (Tame.yes (by kernel_rfl) fun w hS => ?_) ?_
      rotate_left 1
      · skip
        go_simp
        refine gives_mk ?_ hS
        with_reducible rfl
      refine all_take (i := 12) (v := ?_) rfl (by kernel_rfl) (by kernel_rfl) (by kernel_rfl) (fun _ _ _ h => h) (Tame.yes (by kernel_rfl) fun w hS => ?_) ?_
      rotate_left 1
      · skip
        go_simp
        refine gives_mk ?_ hS
        with_reducible rfl
      refine all_take (i := 13) (v := ?_) rfl (by kernel_rfl) (by kernel_rfl) (by kernel_rfl) (fun _ _ _ h => h) (Tame.yes (by kernel_rfl) fun w hS => ?_) ?_
      rotate_left 1
      · skip
        go_simp
        refine gives_mk ?_ hS
        with_reducible rfl
      refine all_take (i := 14) (v := ?_) rfl (by kernel_rfl) (by kernel_rfl) (by kernel_rfl) (fun _ _ _ h => h) (Tame.yes (by kernel_rfl) fun w hS => ?_) ?_
      rotate_left 1
      · skip
        go_simp
        refine gives_mk ?_ hS
        with_reducible rfl
      refine all_take (i := 15) (v := ?_) rfl (by kernel_rfl) (by kernel_rfl) (by kernel_rfl) (fun _ _ _ h => h) (Tame.yes (by kernel_rfl) fun w hS => ?_) ?_
      rotate_left 1
      · skip
        go_simp
        refine gives_mk ?_ hS
        with_reducible rfl
      refine all_done ?_ ?_ _
      · kernel_rfl
      intro w2 hw2
      have k1 := RR.c1 (HR.out.ext hw2)
      have g1 := RR.fz (HR.out.ext hw2) 1
      clear f1
      go_simp
      go_wp2
      go_ret
      exact ⟨rfl, RR.set1 (HR.out.ext hw2) _, (Upd.ext hw2).set _ _⟩
    · rw [if_neg hz]
      have hzb : (Va.tz s a != 0) = true := by simpa using hz
      have HZ := Lib.hid hz; clear hz
      go_enter Try.func23, Try.ntmps23
      go_wp2
      clear c0 c1 c2
      refine region_all (fun v => Ext w v) (by kernel_rfl) (Ext.drew (Ext.refl _)) ?_
      have K0 : ∀ v, Ext w v → v.cell? ⟨g, 0, none⟩ = some (.string s) := fun v hv => RR.c0 (HR.out.ext hv)
      have K1 : ∀ v, Ext w v → v.cell? ⟨g, 1, none⟩ = some (.int .i64 a) := fun v hv => RR.c1 (HR.out.ext hv)
      refine all_take (i := 0) (v := ?_) rfl (by kernel_rfl) (by kernel_rfl) (by kernel_rfl) (fun _ _ _ h => h) (Tame.yes (by kernel_rfl) fun w hS => ?_) ?_
      rotate_left 1
      · skip
        go_simp
        refine gives_mk ?_ hS
        with_reducible rfl
      refine all_take (i := 1) (v := ?_) rfl (by kernel_rfl) (by kernel_rfl) (by kernel_rfl) (fun _ _ _ h => h) (Tame.yes (by kernel_rfl) fun w hS => ?_) ?_
      rotate_left 1
      · skip
        go_simp
        refine gives_mk ?_ hS
        with_reducible rfl
      refine all_take (i := 2) (v := ?_) rfl (by kernel_rfl) (by kernel_rfl) (by kernel_rfl) (fun _ _ _ h => h) (Tame.yes (by kernel_rfl) fun w hS => ?_) ?_
      rotate_left 1
      · skip
        go_simp
        refine gives_mk ?_ hS
        with_reducible rfl
      refine all_take (i := 3) (v := ?_) rfl (by kernel_rfl) (by kernel_rfl) (by kernel_rfl) (fun _ _ _ h => h) (Tame.yes (by kernel_rfl) fun w hS => ?_) ?_
      rotate_left 1
      · skip
        go_simp
        refine gives_mk ?_ hS
        with_reducible rfl
      refine all_take (i := 4) (v := ?_) rfl (by kernel_rfl) (by kernel_rfl) (by kernel_rfl) (fun _ _ _ h => h) (Tame.yes (by kernel_rfl) fun w hS => ?_) ?_
      rotate_left 1
      · skip
        go_simp
        refine gives_mk ?_ hS
        with_reducible rfl
      refine all_take (i := 5) (v := ?_) rfl (by kernel_rfl) (by kernel_rfl) (by kernel_rfl) (fun _ _ _ h => h) (Tame.yes (by kernel_rfl) fun w hS => ?_) ?_
      rotate_left 1
      · skip
        go_simp
        refine gives_mk ?_ hS
        with_reducible rfl
      refine all_take (i := 6) (v := ?_) rfl (by kernel_rfl) (by kernel_rfl) (by kernel_rfl) (fun _ _ _ h => h) (Tame.yes (by kernel_rfl) fun w hS => ?_) ?_
      rotate_left 1
      · skip
        go_simp
        refine gives_mk ?_ hS
        with_reducible rfl
      refine all_take (i := 7) (v := ?_) rfl (by kernel_rfl) (by kernel_rfl) (by kernel_rfl) (fun _ _ _ h => h) (Tame.yes (by kernel_rfl) fun w hS => ?_) ?_
      rotate_left 1
      · skip
        go_simp
        refine gives_mk ?_ hS
        with_reducible rfl
      clear K0 K1
      refine all_take (i := 8) (v := .tuple #[.int .i64 (Va.tx s a), .int .i64 (Va.ty s a), .int .i64 (Va.tz s a)]) rfl (by kernel_rfl) (by kernel_rfl) (by kernel_rfl) (fun _ _ _ h => h) (Tame.yes (by kernel_rfl) fun w hS => ?_) ?_
      · go_simp
        refine gives_call ((rtake_all s a _ hs).mono ?_)
        exact fun r w2 ⟨he, hx⟩ => ⟨he, hS.trans hx⟩
      refine all_take (i := 9) (v := ?_) rfl (by kernel_rfl) (by kernel_rfl) (by kernel_rfl) (fun _ _ _ h => h) (Tame.yes (by kernel_rfl) fun w hS => ?_) ?_
      rotate_left 1
      · skip
        go_simp
        refine gives_mk ?_ hS
        with_reducible rfl
      refine all_take (i := 10) (v := ?_) rfl (by kernel_rfl) (by kernel_rfl) (by kernel_rfl) (fun _ _ _ h => h) (Tame.yes (by kernel_rfl) fun w hS => ?_) ?_
      rotate_left 1
      · skip
        go_simp
        refine gives_mk ?_ hS
        with_reducible rfl
      refine all_take (i := 11) (v := ?_) rfl (by kernel_rfl) (by kernel_rfl) (by kernel_rfl) (fun _ _ _ h => h) (Tame.yes (by kernel_rfl) fun w hS => ?_) ?_
      rotate_left 1
      · skip
        go_simp
        refine gives_mk ?_ hS
        with_reducible rfl
      refine all_take (i := 12) (v := ?_) rfl (by kernel_rfl) (by kernel_rfl) (by kernel_rfl) (fun _ _ _ h => h) (Tame.yes (by kernel_rfl) fun w hS => ?_) ?_
      rotate_left 1
      · skip
        go_simp
        refine gives_mk ?_ hS
        with_reducible rfl
      refine all_take (i := 13) (v := ?_) rfl (by kernel_rfl) (by kernel_rfl) (by kernel_rfl) (fun _ _ _ h => h) (Tame.yes (by kernel_rfl) fun w hS => ?_) ?_
      rotate_left 1
      · skip
        go_simp
        refine gives_mk ?_ hS
        with_reducible rfl
      refine all_take (i := 14) (v := ?_) rfl (by kernel_rfl) (by kernel_rfl) (by kernel_rfl) (fun _ _ _ h => h) (Tame.yes (by kernel_rfl) fun w hS => ?_) ?_
      rotate_left 1
      · skip
        go_simp
        refine gives_mk ?_ hS
        with_reducible rfl
      refine all_take (i := 15) (v := ?_) rfl (by kernel_rfl) (by kernel_rfl) (by kernel_rfl) (fun _ _ _ h => h) (Tame.yes (by kernel_rfl) fun w hS => ?_) ?_
      rotate_left 1
      · skip
        go_simp
        refine gives_mk ?_ hS
        with_reducible rfl
      refine all_done ?_ ?_ _
      · kernel_rfl
      intro w2 hw2
      have k1 := RR.c1 (HR.out.ext hw2)
      clear f1
      go_simp
      go_wp2_with (go_at_call 36; refine (fail_any g s a 0 _ _ _ _ (HR.out.ext hw2)).mono ?_; rintro r w3 ⟨rfl, hr, hu⟩)
      go_ret
      refine ⟨rfl, ?_, (Upd.ext hw2).trans hu⟩
      unfold RQ Wi.frm
      rw [if_neg HZ.out]
      exact hr
  · rw [if_neg he]
    have hb : (e != 0) = true := by simpa using he
    have HE := Lib.hid he; clear he
    go_enter Try.func23, Try.ntmps23
    go_wp2
    go_ret
    exact ⟨rfl, HR.out, Upd.refl _ _⟩

theorem Wi.frm0 (a : Int) : Wi.frm a 0 = 0 := rfl
theorem Wi.frm1 {a e : Int} (h : ¬ e = 0) : Wi.frm a e = a := by unfold Wi.frm; rw [if_neg h]

theorem Va.ty_more (s : ByteArray) (a : Int) (hz : Va.tz s a = 0) : a < Va.ty s a := by
  unfold Va.tz at hz
  unfold Va.ty
  by_cases h : a < 0 ∨ (s.size : Int) < a
  · rw [if_pos h] at hz; omega
  · rw [if_neg h] at hz
    rw [if_neg h]
    rcases ht : Va.take (s.data.toList.drop a.toNat) with ⟨n, k, c⟩
    rw [ht] at hz
    have hc : c = 0 := by simpa using hz
    subst hc
    obtain ⟨r, h1, h2, h3⟩ := Va.take_ok ht
    have := Va.put_len_pos n
    simp only [if_pos]
    omega

/-- Whether the reader is at the end, without an error. -/
def Wi.fin (s : ByteArray) (a e : Int) : Bool := e == 0 && a == (s.size : Int)
theorem done_any (g : Nat) (s : ByteArray) (a e : Int) (w : World) (h : RD w g s a e) :
    Calls Try.prog 22 #[.pointer (some ⟨g, 0, none⟩)] w fun r w' => r = .returned (.bool (Wi.fin s a e)) ∧ ∃ n, w' = w.drewN n := by
  unfold Wi.fin
  by_cases he : e = 0
  · subst he
    exact done_ok g s a w h
  · rw [show (e == 0) = false by simpa using he]
    exact done_no g s a e w h he
theorem Wi.take_nil_err (s : ByteArray) (a e : Int) (h : ¬ e = 0) (n : Int) : Wi.take s a e n = (⟨#[]⟩, a, e) := by unfold Wi.take; rw [if_neg h]
theorem Wi.take_range (s : ByteArray) (a e n : Int) (h0 : 0 ≤ a) (h1 : a ≤ s.size) : 0 ≤ (Wi.take s a e n).2.1 ∧ (Wi.take s a e n).2.1 ≤ s.size := by
  unfold Wi.take Wi.piece
  split
  · split
    · exact ⟨h0, h1⟩
    · split
      · exact ⟨h0, h1⟩
      · simp only; omega
  · exact ⟨h0, h1⟩
theorem Wi.byte_range (s : ByteArray) (a e : Int) (h0 : 0 ≤ a) (h1 : a ≤ s.size) : 0 ≤ (Wi.byte s a e).2.1 ∧ (Wi.byte s a e).2.1 ≤ s.size := Wi.take_range s a e 1 h0 h1
theorem Wi.num_range (s : ByteArray) (a e : Int) (h0 : 0 ≤ a) (h1 : a ≤ s.size) : 0 ≤ (Wi.num s a e).2.1 ∧ (Wi.num s a e).2.1 ≤ s.size := by
  unfold Wi.num
  split
  · split
    · rename_i hz
      have := Va.t_range s a hz
      exact ⟨this.2.2.1, this.2.2.2⟩
    · exact ⟨h0, h1⟩
  · exact ⟨h0, h1⟩
theorem Wi.text_range (s : ByteArray) (a e : Int) (h0 : 0 ≤ a) (h1 : a ≤ s.size) : 0 ≤ (Wi.text s a e).2.1 ∧ (Wi.text s a e).2.1 ≤ s.size := by
  unfold Wi.text
  split
  · split
    · rename_i hz
      have := Va.t_range s a hz
      unfold Wi.piece
      split
      · exact ⟨h0, h1⟩
      · split
        · exact ⟨h0, h1⟩
        · simp only; omega
    · exact ⟨h0, h1⟩
  · exact ⟨h0, h1⟩

end Go.Proofs.Ythkogcgdikgkaaa
