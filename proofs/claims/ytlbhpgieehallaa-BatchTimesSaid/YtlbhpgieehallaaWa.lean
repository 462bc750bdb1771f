/-
  Contracts of package wire's reader: what each call answers, and where the reader stands behind it.
-/
import Derived.Test.YtlbhpgieehallaaVk
import Derived.Test.YtlbhpgieehallaaRg
import Derived.Deep.QuietTactic
import Derived.BigQuiet
set_option linter.unusedVariables false
set_option linter.unusedSimpArgs false
namespace Go.Proofs.Ytlbhpgieehallaa
open Go.RowKit

/-- A reader lies in block g: its text, its place, its error. -/
def RD (w : World) (g : Nat) (s : ByteArray) (a e : Int) : Prop := w.heap[g]? = some (.cells #[.string s, .int .i64 a, .int .i64 e] 67 (0, 0))
section
variable {w w' : World} {g : Nat} {s : ByteArray} {a e : Int}
theorem RD.lt (h : RD w g s a e) : g < w.heap.size := (Array.getElem?_eq_some_iff.1 h).1
theorem RD.c0 (h : RD w g s a e) : w.cell? ⟨g, 0, none⟩ = some (.string s) := cell_of_row w g 0 _ _ (0, 0) h
theorem RD.c1 (h : RD w g s a e) : w.cell? ⟨g, 1, none⟩ = some (.int .i64 a) := cell_of_row w g 1 _ _ (0, 0) h
theorem RD.c2 (h : RD w g s a e) : w.cell? ⟨g, 2, none⟩ = some (.int .i64 e) := cell_of_row w g 2 _ _ (0, 0) h
theorem RD.fz (h : RD w g s a e) (i : Nat) : w.frozen? ⟨g, i, none⟩ = false := frozen_of_row w g i _ _ h
theorem RD.set1 (h : RD w g s a e) (b : Int) : RD (w.setCell ⟨g, 1, none⟩ (.int .i64 b)) g s b e := heap_setCell_same w g 1 _ _ _ h
theorem RD.set2 (h : RD w g s a e) (b : Int) : RD (w.setCell ⟨g, 2, none⟩ (.int .i64 b)) g s a b := heap_setCell_same w g 2 _ _ _ h
theorem RD.ext (h : RD w g s a e) (hx : Ext w w') : RD w' g s a e := (hx.block g h.lt).trans h
theorem RD.drew (h : RD w g s a e) : RD w.drew g s a e := h
/-- Only block g may have changed. -/
def Upd (g : Nat) (w w' : World) : Prop := w.grownBy w' (some g)
theorem Upd.refl (g : Nat) (w : World) : Upd g w w := World.grownBy.refl w _
theorem Upd.trans {g : Nat} {a b c : World} (h : Upd g a b) (k : Upd g b c) : Upd g a c :=
  ⟨k.os.trans h.os, k.tape.trans h.tape, k.output.trans h.output, Nat.le_trans h.size k.size, fun i hi hne => (k.block i (Nat.lt_of_lt_of_le hi h.size) hne).trans (h.block i hi hne)⟩
theorem Upd.drew {g : Nat} {a b : World} (h : Upd g a b) : Upd g a b.drew := ⟨h.os, h.tape, h.output, h.size, h.block⟩
theorem Upd.drewN {g : Nat} {a b : World} (h : Upd g a b) (n : Nat) : Upd g a (b.drewN n) := ⟨h.os, h.tape, h.output, h.size, h.block⟩
theorem RD.drewN (h : RD w g s a e) (n : Nat) : RD (w.drewN n) g s a e := h
theorem Upd.ext {g : Nat} {a b : World} (h : Ext a b) : Upd g a b := ⟨h.os, h.tape, h.output, h.size, fun i hi _ => h.block i hi⟩
theorem Upd.set {g : Nat} {a b : World} (h : Upd g a b) (i : Nat) (u : Value) : Upd g a (b.setCell ⟨g, i, none⟩ u) :=
  h.trans ⟨rfl, rfl, rfl, by simp [World.setCell], fun k _ hne => Below.heap_setCell _ _ _ _ (by rintro rfl; exact hne rfl)⟩
theorem Ext.upd {g : Nat} {a b c : World} (h : Ext a b) (k : Upd g b c) (hg : a.heap.size ≤ g) : Ext a c :=
  Below.grown h k h.size (by intro k hk; injection hk with hk; omega)
end

theorem ended_no (g : Nat) (s : ByteArray) (a : Int) (w : World) (h : RD w g s a 0) :
    Calls Try.prog 43 #[.pointer (some ⟨g, 0, none⟩)] w fun r w' => r = .returned (.bool false) ∧ w = w' := by
  have c2 := h.c2
  clear h
  go_enter Try.func43, Try.ntmps43
  go_wp2
  go_ret
  exact ⟨rfl, rfl⟩
theorem ended_yes (g : Nat) (s : ByteArray) (a e : Int) (w : World) (h : RD w g s a e) (he : ¬ e = 0) :
    Calls Try.prog 43 #[.pointer (some ⟨g, 0, none⟩)] w fun r w' => r = .returned (.bool true) ∧ w = w' := by
  have c2 := h.c2
  clear h
  have hb : (e != 0) = true := by simpa using he
  go_enter Try.func43, Try.ntmps43
  go_wp2
  go_ret
  exact ⟨rfl, rfl⟩
theorem ended_nil (w : World) : Calls Try.prog 43 #[.pointer none] w fun r w' => r = .returned (.bool true) ∧ w = w' := by
  go_enter Try.func43, Try.ntmps43
  go_wp2
  go_ret
  exact ⟨rfl, rfl⟩

theorem new_any (s : ByteArray) (w : World) : Calls Try.prog 22 #[.string s] w fun r w' => r = .returned (.pointer (some ⟨w.heap.size, 0, none⟩)) ∧ RD w' w.heap.size s 0 0 ∧ Ext w w' := by
  go_enter Try.func22, Try.ntmps22
  go_wp2
  go_ret
  exact ⟨rfl, heap_alloc_new _ _, Ext.alloc (Ext.refl _) _⟩

/-- A piece of the text, or why not: what is answered, the place, the error. -/
def Wi.piece (s : ByteArray) (a fr n : Int) : ByteArray × Int × Int :=
  if n < 0 then (⟨#[]⟩, a, 1) else if (s.size : Int) - fr < n then (⟨#[]⟩, a, 10) else (s.extract fr.toNat (fr + n).toNat, fr + n, 0)
def Wi.take (s : ByteArray) (a e n : Int) : ByteArray × Int × Int := if e = 0 then Wi.piece s a a n else (⟨#[]⟩, a, e)
def Wi.num (s : ByteArray) (a e : Int) : Int × Int × Int := if e = 0 then if Va.tz s a = 0 then (Va.tx s a, Va.ty s a, 0) else (0, a, Va.tz s a) else (0, a, e)
def Wi.text (s : ByteArray) (a e : Int) : ByteArray × Int × Int := if e = 0 then if Va.tz s a = 0 then Wi.piece s a (Va.ty s a) (Va.tx s a) else (⟨#[]⟩, a, Va.tz s a) else (⟨#[]⟩, a, e)

set_option maxRecDepth 100000 in
set_option maxHeartbeats 1000000 in
theorem piece_any (g : Nat) (s : ByteArray) (a fr n : Int) (w : World) (h : RD w g s a 0) (hs : s.size ≤ maxLen) (h0 : 0 ≤ fr) (h1 : fr ≤ s.size) (hn : -9223372036854775808 ≤ n ∧ n ≤ 9223372036854775807) :
    Calls Try.prog 44 #[.pointer (some ⟨g, 0, none⟩), .int .i64 fr, .int .i64 n] w fun r w' =>
      r = .returned (.string (Wi.piece s a fr n).1) ∧ RD w' g s (Wi.piece s a fr n).2.1 (Wi.piece s a fr n).2.2 ∧ Upd g w w' := by
  unfold maxLen at hs
  have c0 := h.c0
  have c1 := h.c1
  have c2 := h.c2
  have f1 := h.fz 1
  have f2 := h.fz 2
  have HR := Lib.hid h; clear h
  unfold Wi.piece
  by_cases hn0 : n < 0
  · rw [if_pos hn0]
    go_enter Try.func44, Try.ntmps44
    go_wp2
    go_ret
    exact ⟨rfl, HR.out.set2 1, (Upd.refl _ _).set _ _⟩
  · rw [if_neg hn0]
    by_cases hl : (s.size : Int) - fr < n
    · rw [if_pos hl]
      go_enter Try.func44, Try.ntmps44
      go_wp2
      go_ret
      exact ⟨rfl, HR.out.set2 10, (Upd.refl _ _).set _ _⟩
    · rw [if_neg hl]
      go_enter Try.func44, Try.ntmps44
      go_wp2
      have d0 : (w.setCell ⟨g, 1, none⟩ (.int .i64 (fr + n))).cell? ⟨g, 0, none⟩ = some (.string s) := (HR.out.set1 (fr + n)).c0
      have d1 : (w.setCell ⟨g, 1, none⟩ (.int .i64 (fr + n))).cell? ⟨g, 1, none⟩ = some (.int .i64 (fr + n)) := (HR.out.set1 (fr + n)).c1
      go_quiet (fail)
      go_wp2
      go_ret
      exact ⟨rfl, HR.out.set1 _, ((Upd.refl _ _).set _ _).drewN _⟩

theorem quiet_l {P : Program} {f : FuncId} {args : Array Value} {w : World} {n : Nat} {v : Value} (h : Calls P f args (w.drewN n) fun e w' => e = .returned v ∧ w.drewN n = w') :
    Calls P f args (w.drewN n) fun e w'' => e = .returned v ∧ ∃ m, w'' = w.drewN m :=
  h.mono fun _ _ ⟨he, hw⟩ => ⟨he, n, hw.symm⟩

set_option maxRecDepth 100000 in
set_option maxHeartbeats 1000000 in
theorem num_any (g : Nat) (s : ByteArray) (a e : Int) (w : World) (h : RD w g s a e) (hs : s.size ≤ maxLen) :
    Calls Try.prog 25 #[.pointer (some ⟨g, 0, none⟩)] w fun r w' =>
      r = .returned (.int .i64 (Wi.num s a e).1) ∧ RD w' g s (Wi.num s a e).2.1 (Wi.num s a e).2.2 ∧ Upd g w w' := by
  have c0 := h.c0
  have c1 := h.c1
  have c2 := h.c2
  have f1 := h.fz 1
  have f2 := h.fz 2
  have HR := Lib.hid h; clear h
  unfold Wi.num
  by_cases he : e = 0
  · subst he
    rw [if_pos rfl]
    by_cases hz : Va.tz s a = 0
    · rw [if_pos hz]
      have hzb : (Va.tz s a == 0) = true := by simpa using hz
      have HZ := Lib.hid hz; clear hz
      go_enter Try.func25, Try.ntmps25
      go_wp2_with (go_at_call 43; refine (ended_no g s a _ HR.out).mono ?_; rintro r w1 ⟨rfl, rfl⟩)
      go_quiet ((go_at_call 45; exact quiet_l (take_all s a _ hs)))
      go_wp2
      go_ret
      exact ⟨rfl, HR.out.set1 _, ((Upd.refl _ _).drewN _).set _ _⟩
    · rw [if_neg hz]
      have hzb : (Va.tz s a == 0) = false := by simpa using hz
      have HZ := Lib.hid hz; clear hz
      go_enter Try.func25, Try.ntmps25
      go_wp2_with (go_at_call 43; refine (ended_no g s a _ HR.out).mono ?_; rintro r w1 ⟨rfl, rfl⟩)
      go_quiet ((go_at_call 45; exact quiet_l (take_all s a _ hs)))
      go_wp2
      go_ret
      exact ⟨rfl, HR.out.set2 _, ((Upd.refl _ _).drewN _).set _ _⟩
  · rw [if_neg he]
    have HE := Lib.hid he; clear he
    go_enter Try.func25, Try.ntmps25
    go_wp2_with (go_at_call 43; refine (ended_yes g s a e _ HR.out HE.out).mono ?_; rintro r w1 ⟨rfl, rfl⟩)
    go_ret
    exact ⟨rfl, HR.out, Upd.refl _ _⟩

set_option maxRecDepth 100000 in
set_option maxHeartbeats 1000000 in
theorem rtake_any (g : Nat) (s : ByteArray) (a e n : Int) (w : World) (h : RD w g s a e) (hs : s.size ≤ maxLen) (h0 : 0 ≤ a) (h1 : a ≤ s.size) (hn : -9223372036854775808 ≤ n ∧ n ≤ 9223372036854775807) :
    Calls Try.prog 23 #[.pointer (some ⟨g, 0, none⟩), .int .i64 n] w fun r w' =>
      r = .returned (.string (Wi.take s a e n).1) ∧ RD w' g s (Wi.take s a e n).2.1 (Wi.take s a e n).2.2 ∧ Upd g w w' := by
  have c1 := h.c1
  have HR := Lib.hid h; clear h
  unfold Wi.take
  by_cases he : e = 0
  · subst he
    rw [if_pos rfl]
    go_enter Try.func23, Try.ntmps23
    go_wp2_with (first | (go_at_call 43; refine (ended_no g s a _ HR.out).mono ?_; rintro r w1 ⟨rfl, rfl⟩) | (go_at_call 44; refine (piece_any g s a a n _ HR.out hs h0 h1 hn).mono ?_; rintro r w1 ⟨rfl, hr, hu⟩))
    go_ret
    exact ⟨rfl, hr, hu⟩
  · rw [if_neg he]
    have HE := Lib.hid he; clear he
    go_enter Try.func23, Try.ntmps23
    go_wp2_with (go_at_call 43; refine (ended_yes g s a e _ HR.out HE.out).mono ?_; rintro r w1 ⟨rfl, rfl⟩)
    go_ret
    exact ⟨rfl, HR.out, Upd.refl _ _⟩

/-- What stands in a text's first byte. -/
def Wi.first (t : ByteArray) : Int := if h : 0 < t.size then (t[0].toNat : Int) else 0
def Wi.byte (s : ByteArray) (a e : Int) : Int × Int × Int := (Wi.first (Wi.take s a e 1).1, (Wi.take s a e 1).2)

theorem Va.t_range (s : ByteArray) (a : Int) (hz : Va.tz s a = 0) : 0 ≤ Va.tx s a ∧ Va.tx s a < 4611686018427387904 ∧ 0 ≤ Va.ty s a ∧ Va.ty s a ≤ s.size := by
  unfold Va.tz at hz
  unfold Va.tx Va.ty
  by_cases h : a < 0 ∨ (s.size : Int) < a
  · rw [if_pos h] at hz; omega
  · rw [if_neg h] at hz
    rw [if_neg h, if_neg h]
    rcases ht : Va.take (s.data.toList.drop a.toNat) with ⟨n, k, c⟩
    rw [ht] at hz
    have hc : c = 0 := by simpa using hz
    subst hc
    obtain ⟨r, h1, h2, h3⟩ := Va.take_ok ht
    have hl := congrArg List.length h1
    rw [List.length_append, List.length_drop] at hl
    have hsz : s.data.toList.length = s.size := by simp
    have := Va.most_int h3
    simp only [if_pos]
    omega

set_option maxRecDepth 100000 in
set_option maxHeartbeats 1000000 in
theorem text_any (g : Nat) (s : ByteArray) (a e : Int) (w : World) (h : RD w g s a e) (hs : s.size ≤ maxLen) :
    Calls Try.prog 26 #[.pointer (some ⟨g, 0, none⟩)] w fun r w' =>
      r = .returned (.string (Wi.text s a e).1) ∧ RD w' g s (Wi.text s a e).2.1 (Wi.text s a e).2.2 ∧ Upd g w w' := by
  have c0 := h.c0
  have c1 := h.c1
  have c2 := h.c2
  have f1 := h.fz 1
  have f2 := h.fz 2
  have HR := Lib.hid h; clear h
  unfold Wi.text
  by_cases he : e = 0
  · subst he
    rw [if_pos rfl]
    by_cases hz : Va.tz s a = 0
    · rw [if_pos hz]
      have hzb : (Va.tz s a == 0) = true := by simpa using hz
      obtain ⟨r1, r2, r3, r4⟩ := Va.t_range s a hz
      have HZ := Lib.hid hz; clear hz
      have HX := Lib.hid (show -9223372036854775808 ≤ Va.tx s a ∧ Va.tx s a ≤ 9223372036854775807 by omega)
      have HY := Lib.hid r3
      have HW := Lib.hid r4
      clear r1 r2 r3 r4
      go_enter Try.func26, Try.ntmps26
      go_wp2_with (go_at_call 43; refine (ended_no g s a _ HR.out).mono ?_; rintro r w1 ⟨rfl, rfl⟩)
      go_quiet ((go_at_call 45; exact quiet_l (take_all s a _ hs)))
      go_wp2_with (go_at_call 44; refine (piece_any g s a _ _ _ (HR.out.drewN _) hs HY.out HW.out HX.out).mono ?_; rintro r w1 ⟨rfl, hr, hu⟩)
      go_ret
      exact ⟨rfl, hr, Upd.trans ((Upd.refl _ _).drewN _) hu⟩
    · rw [if_neg hz]
      have hzb : (Va.tz s a == 0) = false := by simpa using hz
      have HZ := Lib.hid hz; clear hz
      go_enter Try.func26, Try.ntmps26
      go_wp2_with (go_at_call 43; refine (ended_no g s a _ HR.out).mono ?_; rintro r w1 ⟨rfl, rfl⟩)
      go_quiet ((go_at_call 45; exact quiet_l (take_all s a _ hs)))
      go_wp2
      go_ret
      exact ⟨rfl, HR.out.set2 _, ((Upd.refl _ _).drewN _).set _ _⟩
  · rw [if_neg he]
    have HE := Lib.hid he; clear he
    go_enter Try.func26, Try.ntmps26
    go_wp2_with (go_at_call 43; refine (ended_yes g s a e _ HR.out HE.out).mono ?_; rintro r w1 ⟨rfl, rfl⟩)
    go_ret
    exact ⟨rfl, HR.out, Upd.refl _ _⟩

set_option maxRecDepth 100000 in
set_option maxHeartbeats 1000000 in
theorem byte_any (g : Nat) (s : ByteArray) (a e : Int) (w : World) (h : RD w g s a e) (hs : s.size ≤ maxLen) (h0 : 0 ≤ a) (h1 : a ≤ s.size) :
    Calls Try.prog 49 #[.pointer (some ⟨g, 0, none⟩)] w fun r w' =>
      r = .returned (.int .i64 (Wi.byte s a e).1) ∧ RD w' g s (Wi.byte s a e).2.1 (Wi.byte s a e).2.2 ∧ Upd g w w' := by
  unfold Wi.byte Wi.first
  have HC := Lib.hid (rtake_any g s a e 1 w h hs h0 h1 (by omega))
  clear h
  generalize Wi.take s a e 1 = t at *
  obtain ⟨t, a', e'⟩ := t
  simp only at *
  by_cases hz : 0 < t.size
  · rw [dif_pos hz]
    have hb : (t[0].toNat : Int) ≤ 255 := by have := t[0].toNat_lt; omega
    have hne : t.toList.isEmpty = false := by
      rw [ByteArray.toList_eq]
      cases hl : t.data.toList with
      | nil => have h2 : t.size = t.data.toList.length := by simp
               rw [hl, List.length_nil] at h2; omega
      | cons x y => rfl
    have hnn : ¬ t.toList = [] := by intro h; rw [h] at hne; simp at hne
    go_enter Try.func49, Try.ntmps49
    go_wp2_with (go_at_call 23; refine (HC.out).mono ?_; rintro r w1 ⟨rfl, hr, hu⟩)
    go_ret
    exact ⟨rfl, hr, hu⟩
  · rw [dif_neg hz]
    have hnn : t.toList = [] := by
      rw [ByteArray.toList_eq]
      cases hl : t.data.toList with
      | nil => rfl
      | cons x y => have h2 : t.size = t.data.toList.length := by simp
                    rw [hl, List.length_cons] at h2; omega
    go_enter Try.func49, Try.ntmps49
    go_wp2_with (go_at_call 23; refine (HC.out).mono ?_; rintro r w1 ⟨rfl, hr, hu⟩)
    go_ret
    exact ⟨rfl, hr, hu⟩

theorem at_any (g : Nat) (s : ByteArray) (a e : Int) (w : World) (h : RD w g s a e) :
    Calls Try.prog 27 #[.pointer (some ⟨g, 0, none⟩)] w fun r w' => r = .returned (.int .i64 a) ∧ w = w' := by
  have c1 := h.c1
  clear h
  go_enter Try.func27, Try.ntmps27
  go_wp2
  go_ret
  exact ⟨rfl, rfl⟩

set_option maxRecDepth 100000 in
set_option maxHeartbeats 1000000 in
theorem err_ok (g : Nat) (s : ByteArray) (a : Int) (w : World) (h : RD w g s a 0) :
    Calls Try.prog 24 #[.pointer (some ⟨g, 0, none⟩)] w fun r w' => r = .returned (.tuple #[.int .i64 0, .int .i64 0]) ∧ w = w' := by
  have c2 := h.c2
  clear h
  go_enter Try.func24, Try.ntmps24
  go_wp2
  go_ret2
  exact ⟨rfl, rfl⟩
set_option maxRecDepth 100000 in
set_option maxHeartbeats 1000000 in
theorem err_no (g : Nat) (s : ByteArray) (a e : Int) (w : World) (h : RD w g s a e) (he : ¬ e = 0) :
    Calls Try.prog 24 #[.pointer (some ⟨g, 0, none⟩)] w fun r w' => r = .returned (.tuple #[.int .i64 e, .int .i64 a]) ∧ ∃ n, w' = w.drewN n := by
  have c1 := h.c1
  have c2 := h.c2
  have hb : (e == 0) = false := by simpa using he
  clear h he
  go_enter Try.func24, Try.ntmps24
  go_wp2
  go_quiet (fail)
  go_wp2
  go_ret2
  exact ⟨rfl, _, rfl⟩
theorem err_nil (w : World) : Calls Try.prog 24 #[.pointer none] w fun r w' => r = .returned (.tuple #[.int .i64 1, .int .i64 0]) ∧ w = w' := by
  go_enter Try.func24, Try.ntmps24
  go_wp2
  go_ret2
  exact ⟨rfl, rfl⟩
theorem num_nil (w : World) : Calls Try.prog 25 #[.pointer none] w fun r w' => r = .returned (.int .i64 0) ∧ w = w' := by
  go_enter Try.func25, Try.ntmps25
  go_wp2_with (go_at_call 43; refine (ended_nil _).mono ?_; rintro r w1 ⟨rfl, rfl⟩)
  go_ret
  exact ⟨rfl, rfl⟩

end Go.Proofs.Ytlbhpgieehallaa
