/-
  The contract of event.Decode.
-/
import Derived.Test.YtcdfpifhjjiioaaEf
import Derived.Test.YtcdfpifhjjiioaaWe
set_option linter.unusedVariables false
set_option linter.unusedSimpArgs false
namespace Go.Proofs.Ytcdfpifhjjiioaa
open Go.RowKit

/-- What Decode answers at a place: the event, the place behind, the error. -/
def Ev.decP (s : ByteArray) (a : Int) : Ev × Int × Int :=
  if a < 0 ∨ (s.size : Int) < a then (Ev.zero, 0, 1)
  else ((Ev.dec (s.data.toList.drop a.toNat)).1, if (Ev.dec (s.data.toList.drop a.toNat)).2.2 = 0 then a + ((Ev.dec (s.data.toList.drop a.toNat)).2.1 : Int) else 0, ((Ev.dec (s.data.toList.drop a.toNat)).2.2 : Int))
def DecPost (p : Ev × Int × Int) (w : World) (r : Ending) (w' : World) : Prop :=
  ∃ v, r = .returned (.tuple #[v, .int .i64 p.2.1, .int .i64 p.2.2]) ∧ EvNew w.heap.size w' v p.1 ∧ Ext w w'
theorem evAt_zero {B : Nat} (w : World) : EvNew B w (.agg #[.int .i64 0, .int .i64 0, .slice none 0 0, .string ⟨#[]⟩]) Ev.zero := ⟨none, 0, rfl, ⟨none, 0, rfl, fun h => by simp [Ev.zero] at h⟩, fun _ _ _ h => by simp at h⟩
theorem EvNew.at {B : Nat} {w : World} {v : Value} {e : Ev} (h : EvNew B w v e) : EvAt w v e := by obtain ⟨A, c, h1, h2, _⟩ := h; exact ⟨A, c, h1, h2⟩
theorem Ev.decP_nat (s : ByteArray) (a : Nat) (h : a ≤ s.size) : Ev.decP s a = ((Ev.dec (s.data.toList.drop a)).1, if (Ev.dec (s.data.toList.drop a)).2.2 = 0 then (a : Int) + ((Ev.dec (s.data.toList.drop a)).2.1 : Int) else 0, ((Ev.dec (s.data.toList.drop a)).2.2 : Int)) := by
  unfold Ev.decP
  rw [if_neg (by omega), Int.toNat_natCast]
theorem Ev.decP_err (s : ByteArray) (a : Nat) (h : a ≤ s.size) (he : (Ev.dec (s.data.toList.drop a)).2.2 ≠ 0) : Ev.decP s a = (Ev.zero, 0, ((Ev.dec (s.data.toList.drop a)).2.2 : Int)) := by
  rw [Ev.decP_nat s a h, if_neg he, Ev.dec_zero he]

theorem zero4 {w : World} {g : Nat} (h : w.heap[g]? = some ((.cells #[.int .i64 0, .int .i64 0, .slice none 0 0, .string ⟨#[]⟩] 28))) : ((((w.setCell ⟨g, 0, none⟩ (.int .i64 0)).setCell ⟨g, 1, none⟩ (.int .i64 0)).setCell ⟨g, 2, none⟩ (.slice none 0 0)).setCell ⟨g, 3, none⟩ (.string ⟨#[]⟩)).heap[g]? = some ((.cells #[.int .i64 0, .int .i64 0, .slice none 0 0, .string ⟨#[]⟩] 28)) :=
  blk_set (blk_set (blk_set (blk_set h 0 (.int .i64 0)) 1 (.int .i64 0)) 2 (.slice none 0 0)) 3 (.string ⟨#[]⟩)
theorem Ext.set4 {w w' : World} (h : Ext w w') (a b c d : Value) : Ext w ((((w'.setCell ⟨w.heap.size, 0, none⟩ a).setCell ⟨w.heap.size, 1, none⟩ b).setCell ⟨w.heap.size, 2, none⟩ c).setCell ⟨w.heap.size, 3, none⟩ d) :=
  (((h.setCell (Nat.le_refl _) _).setCell (Nat.le_refl _) _).setCell (Nat.le_refl _) _).setCell (Nat.le_refl _) _
theorem extract_drop (s : ByteArray) (a : Nat) : (s.extract a s.size).data.toList = s.data.toList.drop a := by
  rw [Lib.extract_data]
  apply List.take_of_length_le
  simp
theorem Wi.byte_nil {s : ByteArray} (h : s.data.toList = []) : Wi.byte s 0 0 = (0, 0, 10) := by
  have : s = ⟨#[]⟩ := by apply ByteArray.ext; apply Array.toList_inj.1; rw [h]
  subst this; rfl
theorem Wi.byte_cons {s : ByteArray} {c : UInt8} {T : List UInt8} (h : s.data.toList = c :: T) : Wi.byte s 0 0 = ((c.toNat : Int), 1, 0) ∧ 1 ≤ s.size := by
  have hsz : s.size = T.length + 1 := by
    have : s.size = s.data.toList.length := by simp
    rw [this, h]; rfl
  have hb := Wi.byte_in s 0 (by omega)
  have h0 : s[0] = c := by
    have : s.data.toList[0]? = some c := by rw [h]; rfl
    rw [Array.getElem?_toList, Array.getElem?_eq_getElem (by simpa using (by omega : 0 < s.size))] at this
    injection this
  rw [h0] at hb
  exact ⟨hb, by omega⟩
end Go.Proofs.Ytcdfpifhjjiioaa
