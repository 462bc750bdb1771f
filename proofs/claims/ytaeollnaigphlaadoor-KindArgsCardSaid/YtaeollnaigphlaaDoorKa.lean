/-
  Kinds of events: which are known, which are experimental, what their arguments are; and the contracts of the functions that tell it, the program's and the document's.
-/
import Derived.Test.YtaeollnaigphlaaDoorWg
import Derived.Test.YtaeollnaigphlaaDoorWd
import Derived.Test.YtaeollnaigphlaaDoorRp
set_option linter.unusedVariables false
set_option linter.unusedSimpArgs false
namespace Go.Proofs.YtaeollnaigphlaaDoor
open Go.RowKit

def Ki.known (k : Int) : Bool := decide (1 ≤ k ∧ k ≤ 10)
def Ki.exp (k : Int) : Bool := decide (128 ≤ k ∧ k ≤ 255)
def Ki.args (k : Int) : List Int :=
  if k = 1 then [0, 2] else if k = 3 then [1, 4] else if k = 4 then [1, 2] else if k = 5 then [3, 4] else if k = 6 then [3, 4] else if k = 7 then [1, 2, 4] else if k = 9 then [4] else if k = 10 then [5, 2] else []
theorem Ki.args_le (k : Int) : (Ki.args k).length ≤ 3 := by
  unfold Ki.args; repeat' (first | (split; · simp) | simp)
theorem Ki.args_exp {k : Int} (h : Ki.exp k = true) : Ki.args k = [] := by
  unfold Ki.exp at h
  have := of_decide_eq_true h
  unfold Ki.args
  rw [if_neg (by omega), if_neg (by omega), if_neg (by omega), if_neg (by omega), if_neg (by omega), if_neg (by omega), if_neg (by omega), if_neg (by omega)]
theorem Ki.known_exp {k : Int} (h : Ki.known k = true) : Ki.exp k = false := by
  unfold Ki.known at h; unfold Ki.exp
  have := of_decide_eq_true h
  exact decide_eq_false (by omega)
theorem Ki.args_known {k : Int} (h : Ki.known k = false) : Ki.args k = [] := by
  unfold Ki.known at h
  have := of_decide_eq_false h
  unfold Ki.args
  rw [if_neg (by omega), if_neg (by omega), if_neg (by omega), if_neg (by omega), if_neg (by omega), if_neg (by omega), if_neg (by omega), if_neg (by omega)]

theorem known_any (k : Int) (w : World) : Calls Tryd.prog 13 #[.int .i64 k] w fun e w' => e = .returned (.bool (Ki.known k)) ∧ w = w' := by
  unfold Ki.known
  by_cases h : 1 ≤ k
  · by_cases h2 : k < 11
    · rw [decide_eq_true (show 1 ≤ k ∧ k ≤ 10 from ⟨h, by omega⟩)]
      go_enter Tryd.func13, Tryd.ntmps13
      go_wp2
      go_ret
      exact ⟨rfl, rfl⟩
    · rw [decide_eq_false (show ¬ (1 ≤ k ∧ k ≤ 10) by omega)]
      have hd : decide (k < 11) = false := by simp; omega
      clear h2
      go_enter Tryd.func13, Tryd.ntmps13
      go_wp2
      go_ret
      exact ⟨rfl, rfl⟩
  · rw [decide_eq_false (show ¬ (1 ≤ k ∧ k ≤ 10) by omega)]
    have hd : decide (0 < k) = false := by simp; omega
    go_enter Tryd.func13, Tryd.ntmps13
    go_wp2
    go_ret
    exact ⟨rfl, rfl⟩
theorem exp_any (k : Int) (w : World) : Calls Tryd.prog 15 #[.int .i64 k] w fun e w' => e = .returned (.bool (Ki.exp k)) ∧ w = w' := by
  unfold Ki.exp
  by_cases h : 128 ≤ k
  · by_cases h2 : k ≤ 255
    · rw [decide_eq_true (show 128 ≤ k ∧ k ≤ 255 from ⟨h, h2⟩)]
      go_enter Tryd.func15, Tryd.ntmps15
      go_wp2
      go_ret
      exact ⟨rfl, rfl⟩
    · rw [decide_eq_false (show ¬ (128 ≤ k ∧ k ≤ 255) by omega)]
      have hd : decide (k ≤ 255) = false := by simp; omega
      go_enter Tryd.func15, Tryd.ntmps15
      go_wp2
      go_ret
      exact ⟨rfl, rfl⟩
  · rw [decide_eq_false (show ¬ (128 ≤ k ∧ k ≤ 255) by omega)]
    have hd : decide (128 ≤ k) = false := by simp; omega
    go_enter Tryd.func15, Tryd.ntmps15
    go_wp2
    go_ret
    exact ⟨rfl, rfl⟩
theorem rknown_any (k : Int) (w : World) : Calls Tryd.prog 14 #[.int .i64 k] w fun e w' => e = .returned (.bool (Ki.known k)) ∧ w = w' := by
  unfold Ki.known
  by_cases h : 1 ≤ k
  · by_cases h2 : k < 11
    · rw [decide_eq_true (show 1 ≤ k ∧ k ≤ 10 from ⟨h, by omega⟩)]
      go_enter Tryd.func14, Tryd.ntmps14
      go_wp2
      go_ret
      exact ⟨rfl, rfl⟩
    · rw [decide_eq_false (show ¬ (1 ≤ k ∧ k ≤ 10) by omega)]
      have hd : decide (k < 11) = false := by simp; omega
      clear h2
      go_enter Tryd.func14, Tryd.ntmps14
      go_wp2
      go_ret
      exact ⟨rfl, rfl⟩
  · rw [decide_eq_false (show ¬ (1 ≤ k ∧ k ≤ 10) by omega)]
    have hd : decide (1 ≤ k) = false := by simp; omega
    go_enter Tryd.func14, Tryd.ntmps14
    go_wp2
    go_ret
    exact ⟨rfl, rfl⟩
theorem rexp_any (k : Int) (w : World) : Calls Tryd.prog 16 #[.int .i64 k] w fun e w' => e = .returned (.bool (Ki.exp k)) ∧ w = w' := by
  unfold Ki.exp
  by_cases h : 128 ≤ k
  · by_cases h2 : k ≤ 255
    · rw [decide_eq_true (show 128 ≤ k ∧ k ≤ 255 from ⟨h, h2⟩)]
      go_enter Tryd.func16, Tryd.ntmps16
      go_wp2
      go_ret
      exact ⟨rfl, rfl⟩
    · rw [decide_eq_false (show ¬ (128 ≤ k ∧ k ≤ 255) by omega)]
      have hd : decide (k ≤ 255) = false := by simp; omega
      go_enter Tryd.func16, Tryd.ntmps16
      go_wp2
      go_ret
      exact ⟨rfl, rfl⟩
  · rw [decide_eq_false (show ¬ (128 ≤ k ∧ k ≤ 255) by omega)]
    have hd : decide (128 ≤ k) = false := by simp; omega
    go_enter Tryd.func16, Tryd.ntmps16
    go_wp2
    go_ret
    exact ⟨rfl, rfl⟩

/-- A slice of numbers in a block of its own, behind all that there was. -/
def NewInts (w w' : World) (v : Value) (xs : List Int) : Prop :=
  ∃ A c, v = .slice A xs.length c ∧ xs.length ≤ c ∧ IntsAt w' (.slice A xs.length c) xs ∧ Ext w w' ∧ (A = none ∧ xs = [] ∧ c = 0 ∧ w' = w ∨ c = xs.length ∧ A = some ⟨w.heap.size, 0, none⟩ ∧ w' = w.alloc (.cells (xs.map (Value.int .i64)).toArray 3))
theorem newInts_nil (w : World) : NewInts w w (.slice none 0 0) [] := ⟨none, 0, rfl, by simp, ⟨none, 0, rfl, fun h => by simp at h⟩, Ext.refl _, .inl ⟨rfl, rfl, rfl, rfl⟩⟩
theorem newInts_mk (w : World) (xs : List Int) : NewInts w (w.alloc (.cells (xs.map (Value.int .i64)).toArray 3)) (.slice (some ⟨w.heap.size, 0, none⟩) xs.length xs.length) xs :=
  ⟨_, _, rfl, Nat.le_refl _, ints_new _ _ _, Ext.alloc (Ext.refl _) _, .inr ⟨rfl, rfl, rfl⟩⟩
/-- What Args comes to. -/
def ArgsPost (k : Int) (w : World) (e : Ending) (w' : World) : Prop := ∃ v, e = .returned v ∧ NewInts w w' v (Ki.args k)
set_option maxRecDepth 100000 in
set_option maxHeartbeats 1000000 in
theorem args_any (k : Int) (w : World) : Calls Tryd.prog 11 #[.int .i64 k] w (ArgsPost k w) := by
  by_cases h1 : k = 1
  · subst h1; go_enter Tryd.func11, Tryd.ntmps11
    go_wp2
    go_ret
    exact ⟨_, rfl, newInts_mk w [0, 2]⟩
  by_cases h3 : k = 3
  · subst h3; go_enter Tryd.func11, Tryd.ntmps11
    go_wp2
    go_ret
    exact ⟨_, rfl, newInts_mk w [1, 4]⟩
  by_cases h4 : k = 4
  · subst h4; go_enter Tryd.func11, Tryd.ntmps11
    go_wp2
    go_ret
    exact ⟨_, rfl, newInts_mk w [1, 2]⟩
  by_cases h5 : k = 5
  · subst h5; go_enter Tryd.func11, Tryd.ntmps11
    go_wp2
    go_ret
    exact ⟨_, rfl, newInts_mk w [3, 4]⟩
  by_cases h6 : k = 6
  · subst h6; go_enter Tryd.func11, Tryd.ntmps11
    go_wp2
    go_ret
    exact ⟨_, rfl, newInts_mk w [3, 4]⟩
  by_cases h7 : k = 7
  · subst h7; go_enter Tryd.func11, Tryd.ntmps11
    go_wp2
    go_ret
    exact ⟨_, rfl, newInts_mk w [1, 2, 4]⟩
  by_cases h9 : k = 9
  · subst h9; go_enter Tryd.func11, Tryd.ntmps11
    go_wp2
    go_ret
    exact ⟨_, rfl, newInts_mk w [4]⟩
  by_cases ha : k = 10
  · subst ha; go_enter Tryd.func11, Tryd.ntmps11
    go_wp2
    go_ret
    exact ⟨_, rfl, newInts_mk w [5, 2]⟩
  have HN : Hid (Ki.args k = []) := Lib.hid (by unfold Ki.args; rw [if_neg h1, if_neg h3, if_neg h4, if_neg h5, if_neg h6, if_neg h7, if_neg h9, if_neg ha])
  have b1 : (k == 1) = false := by simpa using h1
  have b3 : (k == 3) = false := by simpa using h3
  have b4 : (k == 4) = false := by simpa using h4
  have b5 : (k == 5) = false := by simpa using h5
  have b6 : (k == 6) = false := by simpa using h6
  have b7 : (k == 7) = false := by simpa using h7
  have b9 : (k == 9) = false := by simpa using h9
  have ba : (k == 10) = false := by simpa using ha
  go_enter Tryd.func11, Tryd.ntmps11
  go_wp2
  go_ret
  exact ⟨_, rfl, by rw [HN.out]; exact newInts_nil w⟩
set_option maxRecDepth 100000 in
set_option maxHeartbeats 1000000 in
theorem rargs_any (k : Int) (w : World) : Calls Tryd.prog 12 #[.int .i64 k] w (ArgsPost k w) := by
  by_cases h1 : k = 1
  · subst h1; go_enter Tryd.func12, Tryd.ntmps12
    go_wp2
    go_ret
    exact ⟨_, rfl, newInts_mk w [0, 2]⟩
  by_cases h3 : k = 3
  · subst h3; go_enter Tryd.func12, Tryd.ntmps12
    go_wp2
    go_ret
    exact ⟨_, rfl, newInts_mk w [1, 4]⟩
  by_cases h4 : k = 4
  · subst h4; go_enter Tryd.func12, Tryd.ntmps12
    go_wp2
    go_ret
    exact ⟨_, rfl, newInts_mk w [1, 2]⟩
  by_cases h5 : k = 5
  · subst h5; go_enter Tryd.func12, Tryd.ntmps12
    go_wp2
    go_ret
    exact ⟨_, rfl, newInts_mk w [3, 4]⟩
  by_cases h6 : k = 6
  · subst h6; go_enter Tryd.func12, Tryd.ntmps12
    go_wp2
    go_ret
    exact ⟨_, rfl, newInts_mk w [3, 4]⟩
  by_cases h7 : k = 7
  · subst h7; go_enter Tryd.func12, Tryd.ntmps12
    go_wp2
    go_ret
    exact ⟨_, rfl, newInts_mk w [1, 2, 4]⟩
  by_cases h9 : k = 9
  · subst h9; go_enter Tryd.func12, Tryd.ntmps12
    go_wp2
    go_ret
    exact ⟨_, rfl, newInts_mk w [4]⟩
  by_cases ha : k = 10
  · subst ha; go_enter Tryd.func12, Tryd.ntmps12
    go_wp2
    go_ret
    exact ⟨_, rfl, newInts_mk w [5, 2]⟩
  have HN : Hid (Ki.args k = []) := Lib.hid (by unfold Ki.args; rw [if_neg h1, if_neg h3, if_neg h4, if_neg h5, if_neg h6, if_neg h7, if_neg h9, if_neg ha])
  have b1 : (k == 1) = false := by simpa using h1
  have b3 : (k == 3) = false := by simpa using h3
  have b4 : (k == 4) = false := by simpa using h4
  have b5 : (k == 5) = false := by simpa using h5
  have b6 : (k == 6) = false := by simpa using h6
  have b7 : (k == 7) = false := by simpa using h7
  have b9 : (k == 9) = false := by simpa using h9
  have ba : (k == 10) = false := by simpa using ha
  go_enter Tryd.func12, Tryd.ntmps12
  go_wp2
  go_ret
  exact ⟨_, rfl, by rw [HN.out]; exact newInts_nil w⟩

end Go.Proofs.YtaeollnaigphlaaDoor
