/-
  Contracts of package wire's reader: what each call answers, and where the reader stands behind it.
-/
import Derived.Test.YthkalaohaholaaaVk
import Derived.Test.YthkalaohaholaaaGa
import Derived.Test.YthkalaohaholaaaRg
import Derived.Deep.QuietTactic
import Derived.BigQuiet
set_option linter.unusedVariables false
set_option linter.unusedSimpArgs false
namespace Go.Proofs.Ythkalaohaholaaa
open Go.RowKit

section
variable {w w' : World} {g : Nat} {s : ByteArray} {a e : Int}
end

/-- A piece of the text, or why not: what is answered, the place, the error. -/
def Wi.piece (s : ByteArray) (a fr n : Int) : ByteArray × Int × Int :=
  if n < 0 then (⟨#[]⟩, a, 1) else if (s.size : Int) - fr < n then (⟨#[]⟩, a, 10) else (s.extract fr.toNat (fr + n).toNat, fr + n, 0)
def Wi.take (s : ByteArray) (a e n : Int) : ByteArray × Int × Int := if e = 0 then Wi.piece s a a n else (⟨#[]⟩, a, e)
def Wi.num (s : ByteArray) (a e : Int) : Int × Int × Int := if e = 0 then if Va.tz s a = 0 then (Va.tx s a, Va.ty s a, 0) else (0, a, Va.tz s a) else (0, a, e)
def Wi.text (s : ByteArray) (a e : Int) : ByteArray × Int × Int := if e = 0 then if Va.tz s a = 0 then Wi.piece s a (Va.ty s a) (Va.tx s a) else (⟨#[]⟩, a, Va.tz s a) else (⟨#[]⟩, a, e)

theorem quiet_l {P : Program} {f : FuncId} {args : Array Value} {w : World} {n : Nat} {v : Value} (h : Calls P f args (w.drewN n) fun e w' => e = .returned v ∧ w.drewN n = w') :
    Calls P f args (w.drewN n) fun e w'' => e = .returned v ∧ ∃ m, w'' = w.drewN m :=
  h.mono fun _ _ ⟨he, hw⟩ => ⟨he, n, hw.symm⟩

/-- What stands in a text's first byte. -/
def Wi.first (t : ByteArray) : Int := if h : 0 < t.size then (t[0].toNat : Int) else 0
def Wi.byte (s : ByteArray) (a e : Int) : Int × Int × Int := (Wi.first (Wi.take s a e 1).1, (Wi.take s a e 1).2)

theorem Va.t_range (s : ByteArray) (a : Int) (hz : Va.tz s a = 0) : 0 ≤ Va.tx s a ∧ Va.tx s a < 4611686018427387904 ∧ 0 ≤ Va.ty s a ∧ Va.ty s a ≤ s.size := by
  unfold Va.tz at hz
  unfold Va.tx Va.ty
  by_cases h : a < 0 ∨ (s.size : Int) < a
  · rw [if_pos h] at hz; omega
  · rw [if_neg h] at hz
    rw [if_neg h, if_neg h]
    rcases ht : Va.take (s.data.toList.drop a.toNat) with ⟨n, k, c⟩
    rw [ht] at hz
    have hc : c = 0 := by simpa using hz
    subst hc
    obtain ⟨r, h1, h2, h3⟩ := Va.take_ok ht
    have hl := congrArg List.length h1
    rw [List.length_append, List.length_drop] at hl
    have hsz : s.data.toList.length = s.size := by simp
    have := Va.most_int h3
    simp only [if_pos]
    omega

end Go.Proofs.Ythkalaohaholaaa
