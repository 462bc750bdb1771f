/-
  What is put at a time behind the last one: plain facts.
-/
import Derived.Test.YtcdfpifhjjiioaaFi
set_option linter.unusedVariables false
set_option linter.unusedSimpArgs false
namespace Go.Proofs.Ytcdfpifhjjiioaa
open Go.RowKit
theorem Bu.later_may {d : Int} (h : Ev.ok d = true) : Ev.may ⟨8, d, [], ⟨#[]⟩⟩ = true := by
  rw [Ev.may_eq2 (e := ⟨8, d, [], ⟨#[]⟩⟩) h rfl rfl]
  rfl
theorem Bu.enc_pos {e : Ev} (h : e.may = true) : 0 < e.enc.size := by
  rw [Ev.enc_size h]; unfold Ev.encL; simp
theorem Bu.cut (a b : ByteArray) : (a ++ b).extract 0 a.size = a := by
  apply ByteArray.ext
  apply Array.toList_inj.1
  rw [Lib.extract_data]
  simp
/-- What is put behind the last one, or first. -/
theorem Bu.later_put (m ba la : Int) (bo : ByteArray) (t : Int) (h1 : bo.size ≤ 3000) (h0 : 0 ≤ t) (h2 : t < 4611686018427387904) (hl : 0 ≤ la) :
    (¬ bo.size = 0 → la ≤ t → ∃ bq : ByteArray, Bu.put ⟨m, ba, la, bo⟩ t ⟨8, 7, [], ⟨#[]⟩⟩ = (⟨m, ba, t, bq⟩, true) ∧ bo.size < bq.size ∧ bq.size ≤ 100000 ∧ bq.extract 0 bo.size = bo) ∧
    (bo.size = 0 → ∃ bq : ByteArray, Bu.put ⟨m, ba, la, bo⟩ t ⟨8, 7, [], ⟨#[]⟩⟩ = (⟨m, t, t, bq⟩, true) ∧ bo.size < bq.size ∧ bq.size ≤ 100000 ∧ bq.extract 0 bo.size = bo) := by
  have hok : Ev.ok t = true := Ev.ok_wi.2 (by unfold Wi.ok; omega)
  have key : ∀ d, Ev.ok d = true → bo.size < (bo ++ Ev.enc ⟨8, d, [], ⟨#[]⟩⟩).size ∧ (bo ++ Ev.enc ⟨8, d, [], ⟨#[]⟩⟩).size ≤ 100000 ∧ (bo ++ Ev.enc ⟨8, d, [], ⟨#[]⟩⟩).extract 0 bo.size = bo := fun d hd => by
    have hm := Bu.later_may hd
    have h3 := Bu.enc_pos hm
    have h4 := Ev.encL_le hm (show (0 : Nat) < Va.most by decide)
    rw [← Ev.enc_size hm] at h4
    have h5 : (⟨8, d, [], ⟨#[]⟩⟩ : Ev).text.size = 0 := rfl
    have h6 : (⟨8, d, [], ⟨#[]⟩⟩ : Ev).args.length = 0 := rfl
    rw [ByteArray.size_append]
    exact ⟨by omega, by omega, Bu.cut _ _⟩
  refine ⟨fun hb hle => ?_, fun hb => ?_⟩
  · have hw : IntKind.i64.wrap (t - la) = t - la := IntWalk.i64_in _ (by omega)
    have hd : Ev.ok (t - la) = true := Ev.ok_wi.2 (by unfold Wi.ok; omega)
    have e := Bu.put_more (b := ⟨m, ba, la, bo⟩) (t := t) (e := ⟨8, 7, [], ⟨#[]⟩⟩) hb hok hle
    simp only [hw, Bu.later_may hd, if_true] at e
    exact ⟨_, e, key _ hd⟩
  · have hd : Ev.ok 0 = true := by decide
    have e := Bu.put_empty (b := ⟨m, ba, la, bo⟩) (t := t) (e := ⟨8, 7, [], ⟨#[]⟩⟩) hb hok
    simp only [Bu.later_may hd, if_true] at e
    exact ⟨_, e, key _ hd⟩

end Go.Proofs.Ytcdfpifhjjiioaa
