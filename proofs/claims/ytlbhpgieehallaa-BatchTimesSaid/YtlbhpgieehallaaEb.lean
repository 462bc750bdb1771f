/-
  Contracts of package event: which may be; and of the document's answers.
-/
import Derived.Test.YtlbhpgieehallaaEa
set_option linter.unusedVariables false
set_option linter.unusedSimpArgs false
namespace Go.Proofs.Ytlbhpgieehallaa
open Go.RowKit

theorem fits_any (n : Int) (w : World) : Calls Try.prog 33 #[.int .i64 n] w fun e w' => e = .returned (.bool (Ev.ok n)) ∧ w = w' := by
  unfold Ev.ok
  by_cases h : 0 ≤ n
  · by_cases h2 : n < 4611686018427387904
    · rw [decide_eq_true (show 0 ≤ n ∧ n < 4611686018427387904 from ⟨h, h2⟩)]
      go_enter Try.func33, Try.ntmps33
      go_wp2
      go_ret
      exact ⟨rfl, rfl⟩
    · rw [decide_eq_false (show ¬ (0 ≤ n ∧ n < 4611686018427387904) by omega)]
      have hd : decide (n < 4611686018427387904) = false := by simp; omega
      clear h2
      go_enter Try.func33, Try.ntmps33
      go_wp2
      go_ret
      exact ⟨rfl, rfl⟩
  · rw [decide_eq_false (show ¬ (0 ≤ n ∧ n < 4611686018427387904) by omega)]
    have hd : decide (0 ≤ n) = false := by simp; omega
    go_enter Try.func33, Try.ntmps33
    go_wp2
    go_ret
    exact ⟨rfl, rfl⟩

/-- A value that reads as an event. -/
def EvAt (w : World) (v : Value) (e : Ev) : Prop :=
  ∃ A c, v = .agg #[.int .i64 e.kind, .int .i64 e.dt, .slice A e.args.length c, .string e.text] ∧ IntsAt w (.slice A e.args.length c) e.args
theorem EvAt.ext {w w' : World} {v : Value} {e : Ev} (h : EvAt w v e) (hx : Ext w w') : EvAt w' v e := by
  obtain ⟨A, c, rfl, hi⟩ := h
  exact ⟨A, c, rfl, hi.ext hx⟩
theorem Ev.may_eq {e : Ev} (h : Ev.ok e.dt = true) (hx : Ki.exp e.kind = false) : e.may = (Ki.known e.kind && e.args.length == (Ki.args e.kind).length && e.args.all Ev.ok && e.text.size == 0) := by
  unfold Ev.may; rw [h, if_neg (by simp [hx])]; simp

theorem Ev.str_empty {s : ByteArray} (h : s.size = 0) : (s.toList == (⟨#[]⟩ : ByteArray).toList) = true := by
  have : s = ⟨#[]⟩ := by apply ByteArray.ext; apply Array.eq_empty_of_size_eq_zero; exact h
  subst this; exact beq_self_eq_true _
theorem Ev.str_nonempty {s : ByteArray} (h : ¬ s.size = 0) : s.toList.isEmpty = false ∧ ¬ s.toList = [] := by
  have h1 : s.toList.isEmpty = false := by
    rw [ByteArray.toList_eq]
    cases hl : s.data.toList with
    | nil => have h2 : s.size = s.data.toList.length := by simp
             rw [hl, List.length_nil] at h2; omega
    | cons x y => rfl
  exact ⟨h1, fun h => by rw [h] at h1; simp at h1⟩
theorem Ev.str_nil {s : ByteArray} (h : s.size = 0) : s.toList = [] := by
  rw [ByteArray.toList_eq]; apply List.eq_nil_of_length_eq_zero; simpa using h
theorem known_eq (k : Int) (b : Bool) (h : Ki.known k = b) (w : World) : Calls Try.prog 50 #[.int .i64 k] w fun e w' => e = .returned (.bool b) ∧ w = w' := by subst h; exact known_any k w
theorem exp_eq (k : Int) (b : Bool) (h : Ki.exp k = b) (w : World) : Calls Try.prog 51 #[.int .i64 k] w fun e w' => e = .returned (.bool b) ∧ w = w' := by subst h; exact exp_any k w
theorem rknown_eq (k : Int) (b : Bool) (h : Ki.known k = b) (w : World) : Calls Try.prog 41 #[.int .i64 k] w fun e w' => e = .returned (.bool b) ∧ w = w' := by subst h; exact rknown_any k w
theorem rexp_eq (k : Int) (b : Bool) (h : Ki.exp k = b) (w : World) : Calls Try.prog 40 #[.int .i64 k] w fun e w' => e = .returned (.bool b) ∧ w = w' := by subst h; exact rexp_any k w
def ArgsT (n : Nat) (W : World) (v : Value) (w : World) : Prop := Ext W w ∧ ∃ A c, v = .slice A n c
theorem args_T (k : Int) (W w : World) (h : Ext W w) : Calls Try.prog 57 #[.int .i64 k] w fun e w' => ∃ v, e = .returned v ∧ ArgsT (Ki.args k).length W v w' :=
  (args_any k w).mono fun _ _ ⟨v, he, A, c, hv, _, _, hx, _⟩ => ⟨v, he, h.trans hx, A, c, hv⟩
theorem rargs_T (k : Int) (W w : World) (h : Ext W w) : Calls Try.prog 42 #[.int .i64 k] w fun e w' => ∃ v, e = .returned v ∧ ArgsT (Ki.args k).length W v w' :=
  (rargs_any k w).mono fun _ _ ⟨v, he, A, c, hv, _, _, hx, _⟩ => ⟨v, he, h.trans hx, A, c, hv⟩

theorem Ext.box {w v : World} {cs : Array Value} {t : TypeId} (h : Ext (w.alloc (.cells cs t)) v) (i : Nat) (x : Value) (hx : cs[i]? = some x) : v.cell? ⟨w.heap.size, i, none⟩ = some x := by
  rw [Below.cell h (by simp), World.cell?_alloc_new]
  simp [hx]

end Go.Proofs.Ytlbhpgieehallaa
