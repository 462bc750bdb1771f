/-
  The document's answers for layer 2's writers; and the walk of the statement WireWrites.
-/
import Derived.Test.YtaeollnaigphlaaDoorWe
import Derived.Test.YtaeollnaigphlaaDoorVl
import Derived.Test.YtaeollnaigphlaaDoorLp
set_option linter.unusedVariables false
set_option linter.unusedSimpArgs false
namespace Go.Proofs.YtaeollnaigphlaaDoor
open Go.RowKit

/-- The bytes of numbers that have some. -/
def Wi.cats (l : List Int) : ByteArray := ⟨(Wi.cat l).toArray⟩
theorem Wi.cats_snoc (l : List Int) (x : Int) : Wi.cats l ++ Va.puts x.toNat = Wi.cats (l ++ [x]) := by
  apply ByteArray.ext
  rw [ByteArray.data_append]
  unfold Wi.cats Va.puts
  rw [Wi.cat_snoc]
  simp
theorem Wi.cats_size (l : List Int) (h : ∀ x ∈ l, Wi.ok x) : (Wi.cats l).size ≤ 9 * l.length := by
  show (Wi.cat l).toArray.size ≤ _
  rw [List.size_toArray]
  exact Wi.cat_len l h

def Wi.H : List UInt8 := [83, 72, 84, 76, 1]
theorem Wi.head_is (L : List UInt8) (m : Nat) (hm : m = min L.length 5) : Wi.head L = if L.take m = Wi.H.take m then (if m < 5 then (0, 10) else (5, 0)) else (0, 20) := by
  unfold Wi.head Lib.hasPrefix
  have hH : Wi.H.length = 5 := rfl
  have iff1 : ∀ a b : List UInt8, a.isPrefixOf b = true ↔ b.take a.length = a := fun a b => by
    rw [List.isPrefixOf_iff_prefix, List.prefix_iff_eq_take]; exact eq_comm
  rw [show ([83, 72, 84, 76, 1] : List UInt8) = Wi.H from rfl]
  by_cases h5 : 5 ≤ L.length
  · have hm5 : m = 5 := by omega
    subst hm5
    have e5 : Wi.H.take 5 = Wi.H := rfl
    rw [e5]
    by_cases h : L.take 5 = Wi.H
    · rw [if_pos ((iff1 Wi.H L).2 h), if_pos h, if_neg (by omega)]
    · rw [if_neg (fun hp => h ((iff1 Wi.H L).1 hp)), if_neg h, if_neg]
      intro hp
      have h2 := (iff1 _ _).1 hp
      have h3 := congrArg List.length h2
      rw [List.length_take, hH] at h3
      apply h
      rw [← h2, show L.length = 5 by omega]
      rfl
  · have hms : m = L.length := by omega
    subst hms
    rw [List.take_length]
    rw [if_neg (fun hp => by
      have := congrArg List.length ((iff1 _ _).1 hp)
      rw [List.length_take, hH] at this
      omega)]
    by_cases h : L = Wi.H.take L.length
    · rw [if_pos ((iff1 _ _).2 h.symm), if_pos h, if_pos (by omega)]
    · rw [if_neg (fun hp => h ((iff1 _ _).1 hp).symm), if_neg h]

end Go.Proofs.YtaeollnaigphlaaDoor
