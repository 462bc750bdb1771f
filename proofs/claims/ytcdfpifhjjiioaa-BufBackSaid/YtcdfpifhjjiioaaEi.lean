/-
  The contract of event.Decode, where all is right; and in all.
-/
import Derived.Test.YtcdfpifhjjiioaaEh
set_option linter.unusedVariables false
set_option linter.unusedSimpArgs false
namespace Go.Proofs.Ytcdfpifhjjiioaa
open Go.RowKit

def DT5 (w : World) (k d : Int) (A : Option Addr) (cc : Nat) (xs : List Int) (t : ByteArray) (_ : Value) (v : World) : Prop :=
  v.heap[w.heap.size]? = some (.cells #[.int .i64 k, .int .i64 d, .slice A xs.length cc, .string t] 28 (0, 0)) ∧ IntsAt v (.slice A xs.length cc) xs ∧ Ext w v
theorem Ev.dec_size {L : List UInt8} (h : (Ev.dec L).2.2 = 0) : (Ev.dec L).2.1 ≤ L.length := by
  rcases ht : Ev.dec L with ⟨e, k, x⟩
  rw [ht] at h
  simp only at h
  subst h
  obtain ⟨_, _, h1, r, h2⟩ := Ev.dec_ok ht
  rw [h2, List.length_append]; simp only; omega
end Go.Proofs.Ytcdfpifhjjiioaa
