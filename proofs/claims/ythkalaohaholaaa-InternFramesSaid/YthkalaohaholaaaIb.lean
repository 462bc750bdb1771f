/-
  Tables in memory; contracts of intern's mayText, mayLine, mayStack.
-/
import Derived.Test.YthkalaohaholaaaGp
import Derived.Test.YthkalaohaholaaaGo
import Derived.Test.YthkalaohaholaaaIa
import Derived.Test.YthkalaohaholaaaVk
set_option linter.unusedVariables false
set_option linter.unusedSimpArgs false
namespace Go.Proofs.Ythkalaohaholaaa
open Go.RowKit Go.Maps

def strL (s : ByteArray) : List Value := [.string s]
def frL (p : Int × Int) : List Value := [.int .i64 p.1, .int .i64 p.2]
theorem strL_len (s : ByteArray) : (strL s).length = 1 := rfl
theorem frL_len (p : Int × Int) : (frL p).length = 2 := rfl
def TabAt (w : World) (v : Value) (t : Tb) : Prop := ∃ sv kv, v = .agg #[sv, kv] ∧ RowsAt 1 strL w sv t.ss ∧ NestAt 2 frL w kv t.ks
theorem TabAt.ext {w w' : World} {v : Value} {t : Tb} (h : TabAt w v t) (hx : Ext w w') : TabAt w' v t := by
  obtain ⟨sv, kv, rfl, h1, h2⟩ := h
  exact ⟨sv, kv, rfl, h1.ext hx, h2.ext hx⟩
theorem bytes_list {s : ByteArray} (h : ¬ s = ⟨#[]⟩) : s.toList.isEmpty = false ∧ ¬ s.toList = [] := by
  have h1 : ¬ s.toList = [] := fun e => h (by
    obtain ⟨⟨l⟩⟩ := s
    rw [ByteArray.toList_eq] at e
    simp only at e
    rw [e])
  exact ⟨by simpa using h1, h1⟩
theorem maytext_any (s : ByteArray) (w : World) : Calls Try.prog 32 #[.string s] w fun e w' => e = .returned (.bool (Tb.mayS s)) ∧ w = w' := by
  by_cases h : s = ⟨#[]⟩
  · subst h
    go_enter Try.func32, Try.ntmps32
    go_wp2
    go_ret
    exact ⟨rfl, rfl⟩
  · have h1 := Tb.size_zero h
    have hb : Tb.mayS s = decide ((s.size : Int) ≤ 1000) := by unfold Tb.mayS; exact decide_eq_decide.2 ⟨fun h => by omega, fun h => by omega⟩
    rw [hb]
    obtain ⟨e1, e2⟩ := bytes_list h
    go_enter Try.func32, Try.ntmps32
    go_wp2
    go_ret
    exact ⟨rfl, rfl⟩
theorem mayline_any (n : Int) (w : World) : Calls Try.prog 37 #[.int .i64 n] w fun e w' => e = .returned (.bool (Tb.mayL n)) ∧ w = w' := by
  by_cases h : 0 ≤ n
  · have hb : Tb.mayL n = decide (n < 4611686018427387904) := by unfold Tb.mayL; exact decide_eq_decide.2 ⟨fun h => h.2, fun k => ⟨h, k⟩⟩
    rw [hb]
    go_enter Try.func37, Try.ntmps37
    go_wp2
    go_ret
    exact ⟨rfl, rfl⟩
  · have hb : Tb.mayL n = false := by unfold Tb.mayL; rw [decide_eq_false_iff_not]; exact fun k => h k.1
    rw [hb]
    go_enter Try.func37, Try.ntmps37
    go_wp2
    go_ret
    exact ⟨rfl, rfl⟩

end Go.Proofs.Ythkalaohaholaaa
