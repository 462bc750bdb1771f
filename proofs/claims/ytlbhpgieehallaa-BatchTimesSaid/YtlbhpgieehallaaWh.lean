/-
  The document's answer for layer 2's reader, as contracts.
-/
import Derived.Test.YtlbhpgieehallaaWg
set_option linter.unusedVariables false
set_option linter.unusedSimpArgs false
namespace Go.Proofs.Ytlbhpgieehallaa
open Go.RowKit

/-- The document's reader lies in block g. -/
def RR (w : World) (g : Nat) (s : ByteArray) (a e f : Int) : Prop := w.heap[g]? = some (.cells #[.string s, .int .i64 a, .int .i64 e, .int .i64 f] 56 (0, 0))
def Wi.frm (a e : Int) : Int := if e = 0 then 0 else a
def RQ (w : World) (g : Nat) (s : ByteArray) (a e : Int) : Prop := RR w g s a e (Wi.frm a e)
section
variable {w w' : World} {g : Nat} {s : ByteArray} {a e f : Int}
theorem RR.lt (h : RR w g s a e f) : g < w.heap.size := (Array.getElem?_eq_some_iff.1 h).1
theorem RR.c0 (h : RR w g s a e f) : w.cell? ⟨g, 0, none⟩ = some (.string s) := cell_of_row w g 0 _ _ (0, 0) h
theorem RR.c1 (h : RR w g s a e f) : w.cell? ⟨g, 1, none⟩ = some (.int .i64 a) := cell_of_row w g 1 _ _ (0, 0) h
theorem RR.c2 (h : RR w g s a e f) : w.cell? ⟨g, 2, none⟩ = some (.int .i64 e) := cell_of_row w g 2 _ _ (0, 0) h
theorem RR.c3 (h : RR w g s a e f) : w.cell? ⟨g, 3, none⟩ = some (.int .i64 f) := cell_of_row w g 3 _ _ (0, 0) h
theorem RR.fz (h : RR w g s a e f) (i : Nat) : w.frozen? ⟨g, i, none⟩ = false := frozen_of_row w g i _ _ h
theorem RR.set1 (h : RR w g s a e f) (b : Int) : RR (w.setCell ⟨g, 1, none⟩ (.int .i64 b)) g s b e f := heap_setCell_same w g 1 _ _ _ h
theorem RR.set2 (h : RR w g s a e f) (b : Int) : RR (w.setCell ⟨g, 2, none⟩ (.int .i64 b)) g s a b f := heap_setCell_same w g 2 _ _ _ h
theorem RR.set3 (h : RR w g s a e f) (b : Int) : RR (w.setCell ⟨g, 3, none⟩ (.int .i64 b)) g s a e b := heap_setCell_same w g 3 _ _ _ h
theorem RR.drewN (h : RR w g s a e f) (n : Nat) : RR (w.drewN n) g s a e f := h
theorem RQ.ext (h : RQ w g s a e) (hx : Ext w w') : RQ w' g s a e := (hx.block g (RR.lt h)).trans h
theorem RQ.drewN (h : RQ w g s a e) (n : Nat) : RQ (w.drewN n) g s a e := h
theorem RQ.upd {k : Nat} (h : RQ w g s a e) (hu : Upd k w w') (hne : g ≠ k) : RQ w' g s a e := (hu.block g (RR.lt h) (by simpa using hne)).trans h
theorem RD.upd {k : Nat} (h : RD w g s a e) (hu : Upd k w w') (hne : g ≠ k) : RD w' g s a e := (hu.block g h.lt (by simpa using hne)).trans h
end

set_option maxRecDepth 100000 in
set_option maxHeartbeats 1000000 in
theorem fail_any (g : Nat) (s : ByteArray) (a e f c fr : Int) (w : World) (h : RR w g s a e f) :
    Calls Try.prog 47 #[.pointer (some ⟨g, 0, none⟩), .int .i64 c, .int .i64 fr] w fun r w' => r = .returned (.tuple #[]) ∧ RR w' g s fr c fr ∧ Upd g w w' := by
  have c1 := h.c1
  have c2 := h.c2
  have c3 := h.c3
  have f1 := h.fz 1
  have f2 := h.fz 2
  have f3 := h.fz 3
  have d3 := (h.set2 c).c3
  have g3 := (h.set2 c).fz 3
  have d1 := ((h.set2 c).set3 fr).c1
  have g1 := ((h.set2 c).set3 fr).fz 1
  have HR := Lib.hid h; clear h
  go_enter Try.func47, Try.ntmps47
  go_wp2
  go_end0
  exact ⟨rfl, ((HR.out.set2 c).set3 fr).set1 fr, (((Upd.refl _ _).set _ _).set _ _).set _ _⟩

set_option maxRecDepth 100000 in
set_option maxHeartbeats 1000000 in
theorem qnum_any (g : Nat) (s : ByteArray) (a e : Int) (w : World) (h : RQ w g s a e) (hs : s.size ≤ maxLen) :
    Calls Try.prog 28 #[.pointer (some ⟨g, 0, none⟩)] w fun r w' =>
      r = .returned (.int .i64 (Wi.num s a e).1) ∧ RQ w' g s (Wi.num s a e).2.1 (Wi.num s a e).2.2 ∧ Upd g w w' := by
  have c0 := h.c0
  have c1 := h.c1
  have c2 := h.c2
  have f1 := h.fz 1
  have HR := Lib.hid h; clear h
  unfold Wi.num
  by_cases he : e = 0
  · subst he
    rw [if_pos rfl]
    by_cases hz : Va.tz s a = 0
    · rw [if_pos hz]
      have hzb : (Va.tz s a == 0) = true := by simpa using hz
      have HZ := Lib.hid hz; clear hz
      go_enter Try.func28, Try.ntmps28
      go_wp2
      clear c0 c1 c2
      refine region_all (fun v => Ext w v) (by kernel_rfl) (Ext.drew (Ext.refl _)) ?_
      have K0 : ∀ v, Ext w v → v.cell? ⟨g, 0, none⟩ = some (.string s) := fun v hv => RR.c0 (HR.out.ext hv)
      have K1 : ∀ v, Ext w v → v.cell? ⟨g, 1, none⟩ = some (.int .i64 a) := fun v hv => RR.c1 (HR.out.ext hv)
      refine all_take (i := 0) (v := ?_) rfl (by kernel_rfl) (by kernel_rfl) (by kernel_rfl) (fun _ _ _ h => h) (Tame.yes (by kernel_rfl) fun w hS => ?_) ?_
      rotate_left 1
      · skip
        go_simp
        refine gives_mk ?_ hS
        with_reducible rfl
      refine all_take (i := 1) (v := ?_) rfl (by kernel_rfl) (by kernel_rfl) (by kernel_rfl) (fun _ _ _ h => h) (Tame.yes (by kernel_rfl) fun w hS => ?_) ?_
      rotate_left 1
      · skip
        go_simp
        refine gives_mk ?_ hS
        with_reducible rfl
      refine all_take (i := 2) (v := ?_) rfl (by kernel_rfl) (by kernel_rfl) (by kernel_rfl) (fun _ _ _ h => h) (Tame.yes (by kernel_rfl) fun w hS => ?_) ?_
      rotate_left 1
      · skip
        go_simp
        refine gives_mk ?_ hS
        with_reducible rfl
      refine all_take (i := 3) (v := ?_) rfl (by kernel_rfl) (by kernel_rfl) (by kernel_rfl) (fun _ _ _ h => h) (Tame.yes (by kernel_rfl) fun w hS => ?_) ?_
      rotate_left 1
      · skip
        go_simp
        refine gives_mk ?_ hS
        with_reducible rfl
      refine all_take (i := 4) (v := ?_) rfl (by kernel_rfl) (by kernel_rfl) (by kernel_rfl) (fun _ _ _ h => h) (Tame.yes (by kernel_rfl) fun w hS => ?_) ?_
      rotate_left 1
      · skip
        go_simp
        refine gives_mk ?_ hS
        with_reducible rfl
      refine all_take (i := 5) (v := ?_) rfl (by kernel_rfl) (by kernel_rfl) (by kernel_rfl) (fun _ _ _ h => h) (Tame.yes (by kernel_rfl) fun w hS => ?_) ?_
      rotate_left 1
      · skip
        go_simp
        refine gives_mk ?_ hS
        with_reducible rfl
      refine all_take (i := 6) (v := ?_) rfl (by kernel_rfl) (by kernel_rfl) (by kernel_rfl) (fun _ _ _ h => h) (Tame.yes (by kernel_rfl) fun w hS => ?_) ?_
      rotate_left 1
      · skip
        go_simp
        refine gives_mk ?_ hS
        with_reducible rfl
      refine all_take (i := 7) (v := ?_) rfl (by kernel_rfl) (by kernel_rfl) (by kernel_rfl) (fun _ _ _ h => h) (Tame.yes (by kernel_rfl) fun w hS => ?_) ?_
      rotate_left 1
      · skip
        go_simp
        refine gives_mk ?_ hS
        with_reducible rfl
      clear K0 K1
      refine all_take (i := 8) (v := .tuple #[.int .i64 (Va.tx s a), .int .i64 (Va.ty s a), .int .i64 (Va.tz s a)]) rfl (by kernel_rfl) (by kernel_rfl) (by kernel_rfl) (fun _ _ _ h => h) (Tame.yes (by kernel_rfl) fun w hS => ?_) ?_
      · go_simp
        refine gives_call ((rtake_all s a _ hs).mono ?_)
        exact fun r w2 ⟨he, hx⟩ => ⟨he, hS.trans hx⟩
      refine all_take (i := 9) (v := ?_) rfl (by kernel_rfl) (by kernel_rfl) (by kernel_rfl) (fun _ _ _ h => h) (Tame.yes (by kernel_rfl) fun w hS => ?_) ?_
      rotate_left 1
      · skip
        go_simp
        refine gives_mk ?_ hS
        with_reducible rfl
      refine all_take (i := 10) (v := ?_) rfl (by kernel_rfl) (by kernel_rfl) (by kernel_rfl) (fun _ _ _ h => h) (Tame.yes (by kernel_rfl) fun w hS => ?_) ?_
      rotate_left 1
      · skip
        go_simp
        refine gives_mk ?_ hS
        with_reducible rfl
      refine all_take (i := 11) (v := ?_) rfl (by kernel_rfl) (by kernel_rfl) (by kernel_rfl) (fun _ _ _ h => h) (Tame.yes (by kernel_rfl) fun w hS => ?_) ?_
      rotate_left 1
      · skip
        go_simp
        refine gives_mk ?_ hS
        with_reducible rfl
      refine all_take (i := 12) (v := ?_) rfl (by kernel_rfl) (by kernel_rfl) (by kernel_rfl) (fun _ _ _ h => h) (Tame.yes (by kernel_rfl) fun w hS => ?_) ?_
      rotate_left 1
      · skip
        go_simp
        refine gives_mk ?_ hS
        with_reducible rfl
      refine all_take (i := 13) (v := ?_) rfl (by kernel_rfl) (by kernel_rfl) (by kernel_rfl) (fun _ _ _ h => h) (Tame.yes (by kernel_rfl) fun w hS => ?_) ?_
      rotate_left 1
      · skip
        go_simp
        refine gives_mk ?_ hS
        with_reducible rfl
      refine all_take (i := 14) (v := ?_) rfl (by kernel_rfl) (by kernel_rfl) (by kernel_rfl) (fun _ _ _ h => h) (Tame.yes (by kernel_rfl) fun w hS => ?_) ?_
      rotate_left 1
      · skip
        go_simp
        refine gives_mk ?_ hS
        with_reducible rfl
      refine all_take (i := 15) (v := ?_) rfl (by kernel_rfl) (by kernel_rfl) (by kernel_rfl) (fun _ _ _ h => h) (Tame.yes (by kernel_rfl) fun w hS => ?_) ?_
      rotate_left 1
      · skip
        go_simp
        refine gives_mk ?_ hS
        with_reducible rfl
      refine all_done ?_ ?_ _
      · kernel_rfl
      intro w2 hw2
      have k1 := RR.c1 (HR.out.ext hw2)
      have g1 := RR.fz (HR.out.ext hw2) 1
      clear f1
      go_simp
      go_wp2
      go_ret
      exact ⟨rfl, RR.set1 (HR.out.ext hw2) _, (Upd.ext hw2).set _ _⟩
    · rw [if_neg hz]
      have hzb : (Va.tz s a != 0) = true := by simpa using hz
      have HZ := Lib.hid hz; clear hz
      go_enter Try.func28, Try.ntmps28
      go_wp2
      clear c0 c1 c2
      refine region_all (fun v => Ext w v) (by kernel_rfl) (Ext.drew (Ext.refl _)) ?_
      have K0 : ∀ v, Ext w v → v.cell? ⟨g, 0, none⟩ = some (.string s) := fun v hv => RR.c0 (HR.out.ext hv)
      have K1 : ∀ v, Ext w v → v.cell? ⟨g, 1, none⟩ = some (.int .i64 a) := fun v hv => RR.c1 (HR.out.ext hv)
      refine all_take (i := 0) (v := ?_) rfl (by kernel_rfl) (by kernel_rfl) (by kernel_rfl) (fun _ _ _ h => h) (Tame.yes (by kernel_rfl) fun w hS => ?_) ?_
      rotate_left 1
      · skip
        go_simp
        refine gives_mk ?_ hS
        with_reducible rfl
      refine all_take (i := 1) (v := ?_) rfl (by kernel_rfl) (by kernel_rfl) (by kernel_rfl) (fun _ _ _ h => h) (Tame.yes (by kernel_rfl) fun w hS => ?_) ?_
      rotate_left 1
      · skip
        go_simp
        refine gives_mk ?_ hS
        with_reducible rfl
      refine all_take (i := 2) (v := ?_) rfl (by kernel_rfl) (by kernel_rfl) (by kernel_rfl) (fun _ _ _ h => h) (Tame.yes (by kernel_rfl) fun w hS => ?_) ?_
      rotate_left 1
      · skip
        go_simp
        refine gives_mk ?_ hS
        with_reducible rfl
      refine all_take (i := 3) (v := ?_) rfl (by kernel_rfl) (by kernel_rfl) (by kernel_rfl) (fun _ _ _ h => h) (Tame.yes (by kernel_rfl) fun w hS => ?_) ?_
      rotate_left 1
      · skip
        go_simp
        refine gives_mk ?_ hS
        with_reducible rfl
      refine all_take (i := 4) (v := ?_) rfl (by kernel_rfl) (by kernel_rfl) (by kernel_rfl) (fun _ _ _ h => h) (Tame.yes (by kernel_rfl) fun w hS => ?_) ?_
      rotate_left 1
      · skip
        go_simp
        refine gives_mk ?_ hS
        with_reducible rfl
      refine all_take (i := 5) (v := ?_) rfl (by kernel_rfl) (by kernel_rfl) (by kernel_rfl) (fun _ _ _ h => h) (Tame.yes (by kernel_rfl) fun w hS => ?_) ?_
      rotate_left 1
      · skip
        go_simp
        refine gives_mk ?_ hS
        with_reducible rfl
      refine all_take (i := 6) (v := ?_) rfl (by kernel_rfl) (by kernel_rfl) (by kernel_rfl) (fun _ _ _ h => h) (Tame.yes (by kernel_rfl) fun w hS => ?_) ?_
      rotate_left 1
      · skip
        go_simp
        refine gives_mk ?_ hS
        with_reducible rfl
      refine all_take (i := 7) (v := ?_) rfl (by kernel_rfl) (by kernel_rfl) (by kernel_rfl) (fun _ _ _ h => h) (Tame.yes (by kernel_rfl) fun w hS => ?_) ?_
      rotate_left 1
      · skip
        go_simp
        refine gives_mk ?_ hS
        with_reducible rfl
      clear K0 K1
      refine all_take (i := 8) (v := .tuple #[.int .i64 (Va.tx s a), .int .i64 (Va.ty s a), .int .i64 (Va.tz s a)]) rfl (by kernel_rfl) (by kernel_rfl) (by kernel_rfl) (fun _ _ _ h => h) (Tame.yes (by kernel_rfl) fun w hS => ?_) ?_
      · go_simp
        refine gives_call ((rtake_all s a _ hs).mono ?_)
        exact fun r w2 ⟨he, hx⟩ => ⟨he, hS.trans hx⟩
      refine all_take (i := 9) (v := ?_) rfl (by kernel_rfl) (by kernel_rfl) (by kernel_rfl) (fun _ _ _ h => h) (Tame.yes (by kernel_rfl) fun w hS => ?_) ?_
      rotate_left 1
      · skip
        go_simp
        refine gives_mk ?_ hS
        with_reducible rfl
      refine all_take (i := 10) (v := ?_) rfl (by kernel_rfl) (by kernel_rfl) (by kernel_rfl) (fun _ _ _ h => h) (Tame.yes (by kernel_rfl) fun w hS => ?_) ?_
      rotate_left 1
      · skip
        go_simp
        refine gives_mk ?_ hS
        with_reducible rfl
      refine all_take (i := 11) (v := ?_) rfl (by kernel_rfl) (by kernel_rfl) (by kernel_rfl) (fun _ _ _ h => h) (Tame.yes (by kernel_rfl) fun w hS => ?_) ?_
      rotate_left 1
      · skip
        go_simp
        refine gives_mk ?_ hS
        with_reducible rfl
      refine all_take (i := 12) (v := ?_) rfl (by kernel_rfl) (by kernel_rfl) (by kernel_rfl) (fun _ _ _ h => h) (Tame.yes (by kernel_rfl) fun w hS => ?_) ?_
      rotate_left 1
      · skip
        go_simp
        refine gives_mk ?_ hS
        with_reducible rfl
      refine all_take (i := 13) (v := ?_) rfl (by kernel_rfl) (by kernel_rfl) (by kernel_rfl) (fun _ _ _ h => h) (Tame.yes (by kernel_rfl) fun w hS => ?_) ?_
      rotate_left 1
      · skip
        go_simp
        refine gives_mk ?_ hS
        with_reducible rfl
      refine all_take (i := 14) (v := ?_) rfl (by kernel_rfl) (by kernel_rfl) (by kernel_rfl) (fun _ _ _ h => h) (Tame.yes (by kernel_rfl) fun w hS => ?_) ?_
      rotate_left 1
      · skip
        go_simp
        refine gives_mk ?_ hS
        with_reducible rfl
      refine all_take (i := 15) (v := ?_) rfl (by kernel_rfl) (by kernel_rfl) (by kernel_rfl) (fun _ _ _ h => h) (Tame.yes (by kernel_rfl) fun w hS => ?_) ?_
      rotate_left 1
      · skip
        go_simp
        refine gives_mk ?_ hS
        with_reducible rfl
      refine all_done ?_ ?_ _
      · kernel_rfl
      intro w2 hw2
      have k1 := RR.c1 (HR.out.ext hw2)
      clear f1
      go_simp
      go_wp2_with (go_at_call 47; refine (fail_any g s a 0 _ _ _ _ (HR.out.ext hw2)).mono ?_; rintro r w3 ⟨rfl, hr, hu⟩)
      go_ret
      refine ⟨rfl, ?_, (Upd.ext hw2).trans hu⟩
      unfold RQ Wi.frm
      rw [if_neg HZ.out]
      exact hr
  · rw [if_neg he]
    have hb : (e != 0) = true := by simpa using he
    have HE := Lib.hid he; clear he
    go_enter Try.func28, Try.ntmps28
    go_wp2
    go_ret
    exact ⟨rfl, HR.out, Upd.refl _ _⟩

theorem Wi.frm0 (a : Int) : Wi.frm a 0 = 0 := rfl
theorem Wi.frm1 {a e : Int} (h : ¬ e = 0) : Wi.frm a e = a := by unfold Wi.frm; rw [if_neg h]

set_option maxRecDepth 100000 in
set_option maxHeartbeats 1000000 in
theorem qtake_any (g : Nat) (s : ByteArray) (a e n : Int) (w : World) (h : RQ w g s a e) (hs : s.size ≤ maxLen) (h0 : 0 ≤ a) (h1 : a ≤ s.size) (hn : -9223372036854775808 ≤ n ∧ n ≤ 9223372036854775807) :
    Calls Try.prog 48 #[.pointer (some ⟨g, 0, none⟩), .int .i64 n] w fun r w' =>
      r = .returned (.string (Wi.take s a e n).1) ∧ RQ w' g s (Wi.take s a e n).2.1 (Wi.take s a e n).2.2 ∧ Upd g w w' := by
  unfold maxLen at hs
  have c0 := h.c0
  have c1 := h.c1
  have c2 := h.c2
  have f1 := h.fz 1
  have HR := Lib.hid h; clear h
  unfold Wi.take
  by_cases he : e = 0
  · subst he
    rw [if_pos rfl]
    unfold Wi.piece
    by_cases hn0 : n < 0
    · rw [if_pos hn0]
      go_enter Try.func48, Try.ntmps48
      go_wp2_with (go_at_call 47; refine (fail_any g s a 0 _ _ _ _ HR.out).mono ?_; rintro r w3 ⟨rfl, hr, hu⟩)
      go_ret
      exact ⟨rfl, by unfold RQ; rw [Wi.frm1 (by omega)]; exact hr, hu⟩
    · rw [if_neg hn0]
      by_cases hl : (s.size : Int) - a < n
      · rw [if_pos hl]
        go_enter Try.func48, Try.ntmps48
        go_wp2
        go_quiet (fail)
        go_wp2_with (go_at_call 47; refine (fail_any g s a 0 _ _ _ _ (HR.out.drewN _)).mono ?_; rintro r w3 ⟨rfl, hr, hu⟩)
        go_ret
        exact ⟨rfl, by unfold RQ; rw [Wi.frm1 (by omega)]; exact hr, Upd.trans ((Upd.refl _ _).drewN _) hu⟩
      · rw [if_neg hl]
        have d0 : ∀ k, ((w.drewN k).setCell ⟨g, 1, none⟩ (.int .i64 (a + n))).cell? ⟨g, 0, none⟩ = some (.string s) := fun k => RR.c0 (RR.set1 (HR.out.drewN k) (a + n))
        have d1 : ∀ k, ((w.drewN k).setCell ⟨g, 1, none⟩ (.int .i64 (a + n))).cell? ⟨g, 1, none⟩ = some (.int .i64 (a + n)) := fun k => RR.c1 (RR.set1 (HR.out.drewN k) (a + n))
        have hw1 : IntKind.i64.wrap (a + n) = a + n := IntWalk.i64_in _ (by omega)
        have hw2 : IntKind.i64.wrap (a + n - n) = a := by rw [show a + n - n = a by omega]; exact IntWalk.i64_in _ (by omega)
        go_enter Try.func48, Try.ntmps48
        go_wp2
        go_quiet (fail)
        go_wp2
        go_quiet (fail)
        go_wp2
        go_ret
        exact ⟨rfl, RR.set1 HR.out _, (((Upd.refl _ _).drewN _).set _ _).drewN _⟩
  · rw [if_neg he]
    have hb : (e != 0) = true := by simpa using he
    have HE := Lib.hid he; clear he
    go_enter Try.func48, Try.ntmps48
    go_wp2
    go_ret
    exact ⟨rfl, HR.out, Upd.refl _ _⟩

theorem Va.ty_more (s : ByteArray) (a : Int) (hz : Va.tz s a = 0) : a < Va.ty s a := by
  unfold Va.tz at hz
  unfold Va.ty
  by_cases h : a < 0 ∨ (s.size : Int) < a
  · rw [if_pos h] at hz; omega
  · rw [if_neg h] at hz
    rw [if_neg h]
    rcases ht : Va.take (s.data.toList.drop a.toNat) with ⟨n, k, c⟩
    rw [ht] at hz
    have hc : c = 0 := by simpa using hz
    subst hc
    obtain ⟨r, h1, h2, h3⟩ := Va.take_ok ht
    have := Va.put_len_pos n
    simp only [if_pos]
    omega

/-- Whether the reader is at the end, without an error. -/
def Wi.fin (s : ByteArray) (a e : Int) : Bool := e == 0 && a == (s.size : Int)
theorem Wi.take_nil_err (s : ByteArray) (a e : Int) (h : ¬ e = 0) (n : Int) : Wi.take s a e n = (⟨#[]⟩, a, e) := by unfold Wi.take; rw [if_neg h]
set_option maxRecDepth 100000 in
set_option maxHeartbeats 1000000 in
theorem qtext_any (g : Nat) (s : ByteArray) (a e : Int) (w : World) (h : RQ w g s a e) (hs : s.size ≤ maxLen) (h0 : 0 ≤ a) (h1 : a ≤ s.size) :
    Calls Try.prog 29 #[.pointer (some ⟨g, 0, none⟩)] w fun r w' =>
      r = .returned (.string (Wi.text s a e).1) ∧ RQ w' g s (Wi.text s a e).2.1 (Wi.text s a e).2.2 ∧ Upd g w w' := by
  have c1 := h.c1
  have HN := Lib.hid (qnum_any g s a e w h hs)
  clear h
  unfold Wi.text
  by_cases he : e = 0
  · subst he
    rw [if_pos rfl]
    by_cases hz : Va.tz s a = 0
    · rw [if_pos hz]
      obtain ⟨r1, r2, r3, r4⟩ := Va.t_range s a hz
      have hm := Va.ty_more s a hz
      have hq : Wi.num s a 0 = (Va.tx s a, Va.ty s a, 0) := by unfold Wi.num; rw [if_pos rfl, if_pos hz]
      rw [hq] at HN
      clear hq hz
      have HS := Lib.hid hs
      generalize Va.tx s a = n at *
      generalize Va.ty s a = t at *
      unfold Wi.piece
      rw [if_neg (by omega)]
      by_cases hl : (s.size : Int) - t < n
      · rw [if_pos hl]
        have hq : Wi.take s t 0 n = (⟨#[]⟩, t, 10) := by unfold Wi.take Wi.piece; rw [if_pos rfl, if_neg (by omega), if_pos hl]
        have HT : ∀ W, RQ W g s t 0 → Calls Try.prog 48 #[.pointer (some ⟨g, 0, none⟩), .int .i64 n] W fun r w' => r = .returned (.string ⟨#[]⟩) ∧ RQ w' g s t 10 ∧ Upd g W w' := fun W hW => by
          have := qtake_any g s t 0 n W hW HS.out r3 r4 (by omega); rw [hq] at this; exact this
        have HT' := Lib.hid HT
        clear HT hq
        go_enter Try.func29, Try.ntmps29
        go_wp2_with fail
        refine (HN.out).mono ?_
        rintro r w1 ⟨rfl, hr1, hu1⟩
        go_wp2_with fail
        refine (HT'.out _ hr1).mono ?_
        rintro r w2 ⟨rfl, hr2, hu2⟩
        have k2 := hr2.c2
        have k3 := hr2.c3
        rw [Wi.frm1 (by omega)] at k3
        have HR2 := Lib.hid hr2
        clear c1 hr2
        go_wp2_with (go_at_call 47; refine (fail_any g s t 10 _ _ _ _ HR2.out).mono ?_; rintro r w3 ⟨rfl, hr, hu⟩)
        go_ret
        exact ⟨rfl, by unfold RQ; rw [Wi.frm1 (by omega)]; exact hr, (hu1.trans hu2).trans hu⟩
      · rw [if_neg hl]
        have hq : Wi.take s t 0 n = (s.extract t.toNat (t + n).toNat, t + n, 0) := by unfold Wi.take Wi.piece; rw [if_pos rfl, if_neg (by omega), if_neg hl]
        have HT : ∀ W, RQ W g s t 0 → Calls Try.prog 48 #[.pointer (some ⟨g, 0, none⟩), .int .i64 n] W fun r w' => r = .returned (.string (s.extract t.toNat (t + n).toNat)) ∧ RQ w' g s (t + n) 0 ∧ Upd g W w' := fun W hW => by
          have := qtake_any g s t 0 n W hW HS.out r3 r4 (by omega); rw [hq] at this; exact this
        have HT' := Lib.hid HT
        clear HT hq
        go_enter Try.func29, Try.ntmps29
        go_wp2_with fail
        refine (HN.out).mono ?_
        rintro r w1 ⟨rfl, hr1, hu1⟩
        go_wp2_with fail
        refine (HT'.out _ hr1).mono ?_
        rintro r w2 ⟨rfl, hr2, hu2⟩
        have k2 := hr2.c2
        have HR2 := Lib.hid hr2
        clear c1 hr2
        go_wp2
        go_ret
        exact ⟨rfl, HR2.out, hu1.trans hu2⟩
    · rw [if_neg hz]
      have hq : Wi.num s a 0 = (0, a, Va.tz s a) := by unfold Wi.num; rw [if_pos rfl, if_neg hz]
      rw [hq] at HN
      have hb : (Va.tz s a != 0) = true := by simpa using hz
      have HZ := Lib.hid hz
      have HS := Lib.hid hs
      clear hq hz
      generalize Va.tz s a = c at *
      have HT : ∀ W, RQ W g s a c → Calls Try.prog 48 #[.pointer (some ⟨g, 0, none⟩), .int .i64 0] W fun r w' => r = .returned (.string ⟨#[]⟩) ∧ RQ w' g s a c ∧ Upd g W w' := fun W hW => by
        have := qtake_any g s a c 0 W hW HS.out h0 h1 (by omega); rw [Wi.take_nil_err _ _ _ HZ.out] at this; exact this
      have HT' := Lib.hid HT
      clear HT
      go_enter Try.func29, Try.ntmps29
      go_wp2_with fail
      refine (HN.out).mono ?_
      rintro r w1 ⟨rfl, hr1, hu1⟩
      go_wp2_with fail
      refine (HT'.out _ hr1).mono ?_
      rintro r w2 ⟨rfl, hr2, hu2⟩
      have k2 := hr2.c2
      have k3 := hr2.c3
      rw [Wi.frm1 HZ.out] at k3
      have HR2 := Lib.hid hr2
      clear c1 hr2
      go_wp2
      go_ret
      exact ⟨rfl, HR2.out, hu1.trans hu2⟩
  · rw [if_neg he]
    have hq : Wi.num s a e = (0, a, e) := Wi.num_err _ _ _ he
    rw [hq] at HN
    have hb : (e != 0) = true := by simpa using he
    have HZ := Lib.hid he
    have HS := Lib.hid hs
    clear hq he
    have HT : ∀ W, RQ W g s a e → Calls Try.prog 48 #[.pointer (some ⟨g, 0, none⟩), .int .i64 0] W fun r w' => r = .returned (.string ⟨#[]⟩) ∧ RQ w' g s a e ∧ Upd g W w' := fun W hW => by
      have := qtake_any g s a e 0 W hW HS.out h0 h1 (by omega); rw [Wi.take_nil_err _ _ _ HZ.out] at this; exact this
    have HT' := Lib.hid HT
    clear HT
    go_enter Try.func29, Try.ntmps29
    go_wp2_with fail
    refine (HN.out).mono ?_
    rintro r w1 ⟨rfl, hr1, hu1⟩
    go_wp2_with fail
    refine (HT'.out _ hr1).mono ?_
    rintro r w2 ⟨rfl, hr2, hu2⟩
    have k2 := hr2.c2
    have k3 := hr2.c3
    rw [Wi.frm1 HZ.out] at k3
    have HR2 := Lib.hid hr2
    clear c1 hr2
    go_wp2
    go_ret
    exact ⟨rfl, HR2.out, hu1.trans hu2⟩

theorem Wi.take_range (s : ByteArray) (a e n : Int) (h0 : 0 ≤ a) (h1 : a ≤ s.size) : 0 ≤ (Wi.take s a e n).2.1 ∧ (Wi.take s a e n).2.1 ≤ s.size := by
  unfold Wi.take Wi.piece
  split
  · split
    · exact ⟨h0, h1⟩
    · split
      · exact ⟨h0, h1⟩
      · simp only; omega
  · exact ⟨h0, h1⟩
theorem Wi.byte_range (s : ByteArray) (a e : Int) (h0 : 0 ≤ a) (h1 : a ≤ s.size) : 0 ≤ (Wi.byte s a e).2.1 ∧ (Wi.byte s a e).2.1 ≤ s.size := Wi.take_range s a e 1 h0 h1
theorem Wi.num_range (s : ByteArray) (a e : Int) (h0 : 0 ≤ a) (h1 : a ≤ s.size) : 0 ≤ (Wi.num s a e).2.1 ∧ (Wi.num s a e).2.1 ≤ s.size := by
  unfold Wi.num
  split
  · split
    · rename_i hz
      have := Va.t_range s a hz
      exact ⟨this.2.2.1, this.2.2.2⟩
    · exact ⟨h0, h1⟩
  · exact ⟨h0, h1⟩
theorem Wi.text_range (s : ByteArray) (a e : Int) (h0 : 0 ≤ a) (h1 : a ≤ s.size) : 0 ≤ (Wi.text s a e).2.1 ∧ (Wi.text s a e).2.1 ≤ s.size := by
  unfold Wi.text
  split
  · split
    · rename_i hz
      have := Va.t_range s a hz
      unfold Wi.piece
      split
      · exact ⟨h0, h1⟩
      · split
        · exact ⟨h0, h1⟩
        · simp only; omega
    · exact ⟨h0, h1⟩
  · exact ⟨h0, h1⟩

end Go.Proofs.Ytlbhpgieehallaa
