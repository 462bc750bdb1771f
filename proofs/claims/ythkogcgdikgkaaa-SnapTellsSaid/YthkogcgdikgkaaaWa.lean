/-
  Contracts of package wire's reader: what each call answers, and where the reader stands behind it.
-/
import Derived.Test.YthkogcgdikgkaaaVk
import Derived.Test.YthkogcgdikgkaaaGa
import Derived.Test.YthkogcgdikgkaaaRg
import Derived.Deep.QuietTactic
import Derived.BigQuiet
set_option linter.unusedVariables false
set_option linter.unusedSimpArgs false
namespace Go.Proofs.Ythkogcgdikgkaaa
open Go.RowKit

/-- A reader lies in block g: its text, its place, its error. -/
def RD (w : World) (g : Nat) (s : ByteArray) (a e : Int) : Prop := w.heap[g]? = some (.cells #[.string s, .int .i64 a, .int .i64 e] 71 (0, 0))
section
variable {w w' : World} {g : Nat} {s : ByteArray} {a e : Int}
theorem RD.lt (h : RD w g s a e) : g < w.heap.size := (Array.getElem?_eq_some_iff.1 h).1
theorem RD.c0 (h : RD w g s a e) : w.cell? ⟨g, 0, none⟩ = some (.string s) := cell_of_row w g 0 _ _ (0, 0) h
theorem RD.c1 (h : RD w g s a e) : w.cell? ⟨g, 1, none⟩ = some (.int .i64 a) := cell_of_row w g 1 _ _ (0, 0) h
theorem RD.c2 (h : RD w g s a e) : w.cell? ⟨g, 2, none⟩ = some (.int .i64 e) := cell_of_row w g 2 _ _ (0, 0) h
theorem RD.fz (h : RD w g s a e) (i : Nat) : w.frozen? ⟨g, i, none⟩ = false := frozen_of_row w g i _ _ h
theorem RD.set1 (h : RD w g s a e) (b : Int) : RD (w.setCell ⟨g, 1, none⟩ (.int .i64 b)) g s b e := heap_setCell_same w g 1 _ _ _ h
theorem RD.set2 (h : RD w g s a e) (b : Int) : RD (w.setCell ⟨g, 2, none⟩ (.int .i64 b)) g s a b := heap_setCell_same w g 2 _ _ _ h
theorem RD.ext (h : RD w g s a e) (hx : Ext w w') : RD w' g s a e := (hx.block g h.lt).trans h
theorem RD.drew (h : RD w g s a e) : RD w.drew g s a e := h
theorem RD.drewN (h : RD w g s a e) (n : Nat) : RD (w.drewN n) g s a e := h
end

theorem ended_no (g : Nat) (s : ByteArray) (a : Int) (w : World) (h : RD w g s a 0) :
    Calls Try.prog 33 #[.pointer (some ⟨g, 0, none⟩)] w fun r w' => r = .returned (.bool false) ∧ w = w' := by
  have c2 := h.c2
  clear h
  go_enter Try.func33, Try.ntmps33
  go_wp2
  go_ret
  exact ⟨rfl, rfl⟩
theorem ended_yes (g : Nat) (s : ByteArray) (a e : Int) (w : World) (h : RD w g s a e) (he : ¬ e = 0) :
    Calls Try.prog 33 #[.pointer (some ⟨g, 0, none⟩)] w fun r w' => r = .returned (.bool true) ∧ w = w' := by
  have c2 := h.c2
  clear h
  have hb : (e != 0) = true := by simpa using he
  go_enter Try.func33, Try.ntmps33
  go_wp2
  go_ret
  exact ⟨rfl, rfl⟩
theorem ended_nil (w : World) : Calls Try.prog 33 #[.pointer none] w fun r w' => r = .returned (.bool true) ∧ w = w' := by
  go_enter Try.func33, Try.ntmps33
  go_wp2
  go_ret
  exact ⟨rfl, rfl⟩

theorem new_any (s : ByteArray) (w : World) : Calls Try.prog 19 #[.string s] w fun r w' => r = .returned (.pointer (some ⟨w.heap.size, 0, none⟩)) ∧ RD w' w.heap.size s 0 0 ∧ Ext w w' := by
  go_enter Try.func19, Try.ntmps19
  go_wp2
  go_ret
  exact ⟨rfl, heap_alloc_new _ _, Ext.alloc (Ext.refl _) _⟩

/-- A piece of the text, or why not: what is answered, the place, the error. -/
def Wi.piece (s : ByteArray) (a fr n : Int) : ByteArray × Int × Int :=
  if n < 0 then (⟨#[]⟩, a, 1) else if (s.size : Int) - fr < n then (⟨#[]⟩, a, 10) else (s.extract fr.toNat (fr + n).toNat, fr + n, 0)
def Wi.take (s : ByteArray) (a e n : Int) : ByteArray × Int × Int := if e = 0 then Wi.piece s a a n else (⟨#[]⟩, a, e)
def Wi.num (s : ByteArray) (a e : Int) : Int × Int × Int := if e = 0 then if Va.tz s a = 0 then (Va.tx s a, Va.ty s a, 0) else (0, a, Va.tz s a) else (0, a, e)
def Wi.text (s : ByteArray) (a e : Int) : ByteArray × Int × Int := if e = 0 then if Va.tz s a = 0 then Wi.piece s a (Va.ty s a) (Va.tx s a) else (⟨#[]⟩, a, Va.tz s a) else (⟨#[]⟩, a, e)

theorem quiet_l {P : Program} {f : FuncId} {args : Array Value} {w : World} {n : Nat} {v : Value} (h : Calls P f args (w.drewN n) fun e w' => e = .returned v ∧ w.drewN n = w') :
    Calls P f args (w.drewN n) fun e w'' => e = .returned v ∧ ∃ m, w'' = w.drewN m :=
  h.mono fun _ _ ⟨he, hw⟩ => ⟨he, n, hw.symm⟩

set_option maxRecDepth 100000 in
set_option maxHeartbeats 1000000 in
theorem num_any (g : Nat) (s : ByteArray) (a e : Int) (w : World) (h : RD w g s a e) (hs : s.size ≤ maxLen) :
    Calls Try.prog 20 #[.pointer (some ⟨g, 0, none⟩)] w fun r w' =>
      r = .returned (.int .i64 (Wi.num s a e).1) ∧ RD w' g s (Wi.num s a e).2.1 (Wi.num s a e).2.2 ∧ Upd g w w' := by
  have c0 := h.c0
  have c1 := h.c1
  have c2 := h.c2
  have f1 := h.fz 1
  have f2 := h.fz 2
  have HR := Lib.hid h; clear h
  unfold Wi.num
  by_cases he : e = 0
  · subst he
    rw [if_pos rfl]
    by_cases hz : Va.tz s a = 0
    · rw [if_pos hz]
      have hzb : (Va.tz s a == 0) = true := by simpa using hz
      have HZ := Lib.hid hz; clear hz
      go_enter Try.func20, Try.ntmps20
      go_wp2_with (go_at_call 33; refine (ended_no g s a _ HR.out).mono ?_; rintro r w1 ⟨rfl, rfl⟩)
      go_quiet ((go_at_call 34; exact quiet_l (take_all s a _ hs)))
      go_wp2
      go_ret
      exact ⟨rfl, HR.out.set1 _, ((Upd.refl _ _).drewN _).set _ _⟩
    · rw [if_neg hz]
      have hzb : (Va.tz s a == 0) = false := by simpa using hz
      have HZ := Lib.hid hz; clear hz
      go_enter Try.func20, Try.ntmps20
      go_wp2_with (go_at_call 33; refine (ended_no g s a _ HR.out).mono ?_; rintro r w1 ⟨rfl, rfl⟩)
      go_quiet ((go_at_call 34; exact quiet_l (take_all s a _ hs)))
      go_wp2
      go_ret
      exact ⟨rfl, HR.out.set2 _, ((Upd.refl _ _).drewN _).set _ _⟩
  · rw [if_neg he]
    have HE := Lib.hid he; clear he
    go_enter Try.func20, Try.ntmps20
    go_wp2_with (go_at_call 33; refine (ended_yes g s a e _ HR.out HE.out).mono ?_; rintro r w1 ⟨rfl, rfl⟩)
    go_ret
    exact ⟨rfl, HR.out, Upd.refl _ _⟩

/-- What stands in a text's first byte. -/
def Wi.first (t : ByteArray) : Int := if h : 0 < t.size then (t[0].toNat : Int) else 0
def Wi.byte (s : ByteArray) (a e : Int) : Int × Int × Int := (Wi.first (Wi.take s a e 1).1, (Wi.take s a e 1).2)

theorem Va.t_range (s : ByteArray) (a : Int) (hz : Va.tz s a = 0) : 0 ≤ Va.tx s a ∧ Va.tx s a < 4611686018427387904 ∧ 0 ≤ Va.ty s a ∧ Va.ty s a ≤ s.size := by
  unfold Va.tz at hz
  unfold Va.tx Va.ty
  by_cases h : a < 0 ∨ (s.size : Int) < a
  · rw [if_pos h] at hz; omega
  · rw [if_neg h] at hz
    rw [if_neg h, if_neg h]
    rcases ht : Va.take (s.data.toList.drop a.toNat) with ⟨n, k, c⟩
    rw [ht] at hz
    have hc : c = 0 := by simpa using hz
    subst hc
    obtain ⟨r, h1, h2, h3⟩ := Va.take_ok ht
    have hl := congrArg List.length h1
    rw [List.length_append, List.length_drop] at hl
    have hsz : s.data.toList.length = s.size := by simp
    have := Va.most_int h3
    simp only [if_pos]
    omega

set_option maxRecDepth 100000 in
set_option maxHeartbeats 1000000 in
theorem err_ok (g : Nat) (s : ByteArray) (a : Int) (w : World) (h : RD w g s a 0) :
    Calls Try.prog 21 #[.pointer (some ⟨g, 0, none⟩)] w fun r w' => r = .returned (.tuple #[.int .i64 0, .int .i64 0]) ∧ w = w' := by
  have c2 := h.c2
  clear h
  go_enter Try.func21, Try.ntmps21
  go_wp2
  go_ret2
  exact ⟨rfl, rfl⟩
set_option maxRecDepth 100000 in
set_option maxHeartbeats 1000000 in
theorem err_no (g : Nat) (s : ByteArray) (a e : Int) (w : World) (h : RD w g s a e) (he : ¬ e = 0) :
    Calls Try.prog 21 #[.pointer (some ⟨g, 0, none⟩)] w fun r w' => r = .returned (.tuple #[.int .i64 e, .int .i64 a]) ∧ ∃ n, w' = w.drewN n := by
  have c1 := h.c1
  have c2 := h.c2
  have hb : (e == 0) = false := by simpa using he
  clear h he
  go_enter Try.func21, Try.ntmps21
  go_wp2
  go_quiet (fail)
  go_wp2
  go_ret2
  exact ⟨rfl, _, rfl⟩
theorem err_nil (w : World) : Calls Try.prog 21 #[.pointer none] w fun r w' => r = .returned (.tuple #[.int .i64 1, .int .i64 0]) ∧ w = w' := by
  go_enter Try.func21, Try.ntmps21
  go_wp2
  go_ret2
  exact ⟨rfl, rfl⟩
theorem num_nil (w : World) : Calls Try.prog 20 #[.pointer none] w fun r w' => r = .returned (.int .i64 0) ∧ w = w' := by
  go_enter Try.func20, Try.ntmps20
  go_wp2_with (go_at_call 33; refine (ended_nil _).mono ?_; rintro r w1 ⟨rfl, rfl⟩)
  go_ret
  exact ⟨rfl, rfl⟩

set_option maxRecDepth 100000 in
set_option maxHeartbeats 1000000 in
theorem done_ok (g : Nat) (s : ByteArray) (a : Int) (w : World) (h : RD w g s a 0) :
    Calls Try.prog 22 #[.pointer (some ⟨g, 0, none⟩)] w fun r w' => r = .returned (.bool (a == s.size)) ∧ ∃ n, w' = w.drewN n := by
  have c0 := h.c0
  have c1 := h.c1
  have HR := Lib.hid h; clear h
  go_enter Try.func22, Try.ntmps22
  go_wp2_with fail
  go_quiet ((go_at_call 33; exact quiet_l (ended_no g s a _ (HR.out.drewN _))))
  go_wp2
  go_ret
  exact ⟨rfl, _, rfl⟩
set_option maxRecDepth 100000 in
set_option maxHeartbeats 1000000 in
theorem done_no (g : Nat) (s : ByteArray) (a e : Int) (w : World) (h : RD w g s a e) (he : ¬ e = 0) :
    Calls Try.prog 22 #[.pointer (some ⟨g, 0, none⟩)] w fun r w' => r = .returned (.bool false) ∧ ∃ n, w' = w.drewN n := by
  have c0 := h.c0
  have c1 := h.c1
  have HR := Lib.hid h; clear h
  have HE := Lib.hid he; clear he
  go_enter Try.func22, Try.ntmps22
  go_wp2_with fail
  go_quiet ((go_at_call 33; exact quiet_l (ended_yes g s a e _ (HR.out.drewN _) HE.out)))
  go_wp2
  go_ret
  exact ⟨rfl, _, rfl⟩
set_option maxRecDepth 100000 in
set_option maxHeartbeats 1000000 in
theorem done_nil (w : World) : Calls Try.prog 22 #[.pointer none] w fun r w' => r = .returned (.bool false) ∧ ∃ n, w' = w.drewN n := by
  go_enter Try.func22, Try.ntmps22
  go_wp2_with fail
  go_quiet ((go_at_call 33; exact quiet_l (ended_nil _)))
  go_wp2
  go_ret
  exact ⟨rfl, _, rfl⟩

end Go.Proofs.Ythkogcgdikgkaaa
