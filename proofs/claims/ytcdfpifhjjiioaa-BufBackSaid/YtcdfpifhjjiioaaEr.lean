/-
  Events one behind the other, as plain data.
-/
import Derived.Test.YtcdfpifhjjiioaaEp
set_option linter.unusedVariables false
set_option linter.unusedSimpArgs false
namespace Go.Proofs.Ytcdfpifhjjiioaa
open Go.RowKit

def Ev.catL (l : List Ev) : List UInt8 := (l.map Ev.encL).flatten
def Ev.cats (l : List Ev) : ByteArray := ⟨(Ev.catL l).toArray⟩
theorem Ev.cats_data (l : List Ev) : (Ev.cats l).data.toList = Ev.catL l := by simp [Ev.cats]
theorem Ev.cats_size (l : List Ev) : (Ev.cats l).size = (Ev.catL l).length := size_mk _
theorem Ev.catL_snoc (l : List Ev) (e : Ev) : Ev.catL (l ++ [e]) = Ev.catL l ++ e.encL := by simp [Ev.catL]
theorem Ev.cats_snoc (l : List Ev) {e : Ev} (h : e.may = true) : Ev.cats l ++ e.enc = Ev.cats (l ++ [e]) := by
  apply ByteArray.ext
  apply Array.toList_inj.1
  rw [ByteArray.data_append, Array.toList_append, Ev.cats_data, Ev.cats_data, Ev.enc_data h, Ev.catL_snoc]
theorem Ev.catL_le : ∀ (l : List Ev), (∀ e ∈ l, e.may = true ∧ Ev.short1 e = true) → (Ev.catL l).length ≤ 500 * l.length
  | [], _ => by simp [Ev.catL]
  | e :: l, h => by
    have ih := Ev.catL_le l (fun x hx => h x (by simp [hx]))
    obtain ⟨hm, hs⟩ := h e (by simp)
    unfold Ev.short1 at hs
    simp at hs
    have := Ev.encL_le hm (by unfold Va.most; omega)
    have e1 : Ev.catL (e :: l) = e.encL ++ Ev.catL l := by simp [Ev.catL]
    rw [e1, List.length_append, List.length_cons]
    omega
theorem Ev.catL_split (l : List Ev) (j : Nat) (h : j < l.length) : Ev.catL l = Ev.catL (l.take j) ++ (l[j].encL ++ Ev.catL (l.drop (j + 1))) := by
  have e : l = l.take j ++ l[j] :: l.drop (j + 1) := by rw [← List.drop_eq_getElem_cons h, List.take_append_drop]
  have f : ∀ (A B : List Ev) (x : Ev), Ev.catL (A ++ x :: B) = Ev.catL A ++ (x.encL ++ Ev.catL B) := fun A B x => by simp [Ev.catL]
  exact (congrArg Ev.catL e).trans (f _ _ _)
theorem Ev.drop_take_mid (A E R : List UInt8) (q : Nat) (h1 : A.length ≤ q) (h2 : q ≤ A.length + E.length) : ((A ++ (E ++ R)).take q).drop A.length = E.take (q - A.length) := by
  rw [List.take_append, List.take_of_length_le h1, List.drop_left, List.take_append_of_le_length (by omega)]
theorem Ev.cats_at (l : List Ev) (j : Nat) (h : j < l.length) (hm : l[j].may = true) (ht : l[j].text.size < Va.most) :
    Ev.decP (Ev.cats l) ((Ev.cats (l.take j)).size : Int) = (l[j], ((Ev.cats (l.take (j + 1))).size : Int), 0) := by
  have hs := Ev.catL_split l j h
  have hz : (Ev.cats (l.take j)).size ≤ (Ev.cats l).size := by rw [Ev.cats_size, Ev.cats_size, hs, List.length_append]; omega
  have := Ev.dec_at hm ht (Ev.cats l) (Ev.cats (l.take j)).size (Ev.catL (l.drop (j + 1))) (by rw [Ev.cats_data, hs, Ev.cats_size, List.drop_left]) hz
  rw [this]
  rw [List.take_succ_eq_append_getElem h, Ev.cats_size, Ev.cats_size, Ev.catL_snoc, List.length_append]
theorem Ev.cats_cut (l : List Ev) (j q : Nat) (h : j < l.length) (hm : l[j].may = true) (ht : l[j].text.size < Va.most) (h1 : (Ev.cats (l.take j)).size ≤ q) (h2 : q < (Ev.cats (l.take (j + 1))).size) :
    Ev.decP ((Ev.cats l).extract 0 q) ((Ev.cats (l.take j)).size : Int) = (Ev.zero, 0, 10) := by
  have hs := Ev.catL_split l j h
  rw [Ev.cats_size] at h1 ⊢
  rw [List.take_succ_eq_append_getElem h, Ev.cats_size, Ev.catL_snoc, List.length_append] at h2
  have hle : q ≤ (Ev.catL l).length := by rw [hs, List.length_append, List.length_append]; omega
  have hx : ((Ev.cats l).extract 0 q).data.toList.drop (Ev.catL (l.take j)).length = l[j].encL.take (q - (Ev.catL (l.take j)).length) := by
    rw [Lib.extract_data, Ev.cats_data, Nat.sub_zero, List.drop_zero, hs]
    exact Ev.drop_take_mid _ _ _ q h1 (by omega)
  have hz : (Ev.catL (l.take j)).length ≤ ((Ev.cats l).extract 0 q).size := by
    rw [ByteArray.size_extract, Ev.cats_size]; omega
  rw [Ev.decP_nat _ _ hz, hx, Ev.dec_cut hm ht (by omega)]
  rfl
theorem Ev.cats_mono (l : List Ev) (j : Nat) (h : j < l.length) : (Ev.cats (l.take j)).size ≤ (Ev.cats (l.take (j + 1))).size ∧ (Ev.cats (l.take (j + 1))).size ≤ (Ev.cats l).size := by
  rw [List.take_succ_eq_append_getElem h, Ev.cats_size, Ev.cats_size, Ev.cats_size, Ev.catL_snoc, List.length_append]
  have hs := Ev.catL_split l j h
  rw [hs, List.length_append, List.length_append]
  omega
/-- What is decoded at the beginning of a text. -/
theorem Ev.dec_first {s : ByteArray} (h : (Ev.dec s.data.toList).2.2 = 0) : ∃ (e : Ev) (c : Nat), Ev.decP s 0 = (e, (c : Int), 0) ∧ e.may = true ∧ c ≤ s.size ∧ e.enc = s.extract 0 c ∧ e.text.size ≤ s.size ∧ e.args.length ≤ 3 := by
  rcases hd : Ev.dec s.data.toList with ⟨e, c, x⟩
  rw [hd] at h
  simp only at h
  subst h
  obtain ⟨hm, ht, hc, r, hs⟩ := Ev.dec_ok hd
  have hsz : s.size = s.data.toList.length := by simp
  have hle : c ≤ s.size := by rw [hsz, hs, List.length_append]; omega
  refine ⟨e, c, ?_, hm, hle, ?_, ?_, ?_⟩
  · have := Ev.decP_nat s 0 (by omega)
    rw [List.drop_zero, hd] at this
    simpa using this
  · apply ByteArray.ext
    apply Array.toList_inj.1
    rw [Ev.enc_data hm, Lib.extract_data, hs, hc]
    simp
  · rw [hsz, hs, List.length_append]
    by_cases hx : Ki.exp e.kind = true
    · unfold Ev.encL Ev.tailL
      rw [if_pos hx]
      simp; omega
    · rw [(Ev.may_no hm hx).2.2.2]; exact Nat.zero_le _
  · by_cases hx : Ki.exp e.kind = true
    · rw [Ev.may_exp hm hx]; simp
    · rw [(Ev.may_no hm hx).2.1]; exact Ki.args_le _
theorem Ev.short_all {l : List Ev} (h : Ev.short l = true) : (∀ e ∈ l, Ev.short1 e = true) ∧ l.length ≤ 60 := by
  unfold Ev.short at h
  simp only [Bool.and_eq_true, List.all_eq_true, decide_eq_true_eq] at h
  exact h
theorem Ev.short_sizes {e : Ev} (h : Ev.short1 e = true) : e.args.length ≤ 20 ∧ e.text.size ≤ 300 := by
  unfold Ev.short1 at h
  simpa using h

end Go.Proofs.Ytcdfpifhjjiioaa
