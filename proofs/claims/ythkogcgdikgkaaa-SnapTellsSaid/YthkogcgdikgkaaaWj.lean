/-
  Plain facts of what was written and is read: numbers and texts one behind the other, whole and cut off.
-/
import Derived.Test.YthkogcgdikgkaaaWg
set_option linter.unusedVariables false
set_option linter.unusedSimpArgs false
namespace Go.Proofs.Ythkogcgdikgkaaa
open Go.RowKit

theorem Wi.at_take (s : ByteArray) (a : Nat) (ha : a ≤ s.size) {n k c : Nat} (h : Va.take (s.data.toList.drop a) = (n, k, c)) :
    Va.tz s a = (c : Int) ∧ Va.tx s a = (n : Int) ∧ Va.ty s a = if c = 0 then ((a + k : Nat) : Int) else 0 := by
  unfold Va.tz Va.tx Va.ty
  have hh : ¬ ((a : Int) < 0 ∨ (s.size : Int) < (a : Int)) := by omega
  rw [if_neg hh, if_neg hh, if_neg hh, Int.toNat_natCast, h]
  exact ⟨rfl, rfl, rfl⟩
theorem Wi.len_data (s : ByteArray) : s.data.toList.length = s.size := by simp

theorem Wi.num_has (s : ByteArray) (a : Nat) (x : Int) (r : List UInt8) (ha : a ≤ s.size) (hx : Wi.ok x) (h : s.data.toList.drop a = Va.put x.toNat ++ r) :
    Wi.num s a 0 = (x, ((a + (Va.put x.toNat).length : Nat) : Int), 0) := by
  have hm : x.toNat < Va.most := by unfold Va.most; have := hx.1; have := hx.2; omega
  obtain ⟨h1, h2, h3⟩ := Wi.at_take s a ha (n := x.toNat) (k := (Va.put x.toNat).length) (c := 0) (by rw [h]; exact Va.take_put _ _ hm)
  unfold Wi.num
  rw [if_pos rfl, if_pos (show _ = (0 : Int) from h1), h2, h3, if_pos rfl, Int.toNat_of_nonneg hx.1]
theorem Wi.num_cut (s : ByteArray) (a : Nat) (x : Int) (k : Nat) (ha : a ≤ s.size) (hx : Wi.ok x) (hk : k < (Va.put x.toNat).length) (h : s.data.toList.drop a = (Va.put x.toNat).take k) :
    Wi.num s a 0 = (0, (a : Int), 10) := by
  have hm : x.toNat < Va.most := by unfold Va.most; have := hx.1; have := hx.2; omega
  obtain ⟨h1, h2, h3⟩ := Wi.at_take s a ha (n := 0) (k := 0) (c := 10) (by rw [h]; exact Va.take_cut hm hk)
  unfold Wi.num
  rw [if_pos rfl, if_neg (by rw [h1]; decide), h1]
  rfl
/-- A text's bytes. -/
def Wi.tb (t : ByteArray) : List UInt8 := Va.put t.size ++ t.data.toList
theorem Wi.text_has (s : ByteArray) (a : Nat) (t : ByteArray) (r : List UInt8) (ha : a ≤ s.size) (ht : t.size ≤ 1000) (h : s.data.toList.drop a = Wi.tb t ++ r) :
    Wi.text s a 0 = (t, ((a + (Wi.tb t).length : Nat) : Int), 0) := by
  have hm : t.size < Va.most := by unfold Va.most; omega
  obtain ⟨h1, h2, h3⟩ := Wi.at_take s a ha (n := t.size) (k := (Va.put t.size).length) (c := 0) (by rw [h, Wi.tb, List.append_assoc]; exact Va.take_put _ _ hm)
  have hl := congrArg List.length h
  rw [List.length_drop, Wi.len_data, List.length_append] at hl
  have htb : (Wi.tb t).length = (Va.put t.size).length + t.size := by rw [Wi.tb, List.length_append, Wi.len_data]
  unfold Wi.text Wi.piece
  rw [if_pos rfl, if_pos (show _ = (0 : Int) from h1), h2, h3, if_pos rfl, if_neg (by omega), if_neg (by omega)]
  have e1 : ((a + (Va.put t.size).length : Nat) : Int).toNat = a + (Va.put t.size).length := by omega
  have e2 : (((a + (Va.put t.size).length : Nat) : Int) + (t.size : Int)).toNat = a + (Va.put t.size).length + t.size := by omega
  rw [e1, e2]
  refine Prod.ext ?_ (Prod.ext ?_ rfl)
  · apply ByteArray.ext
    apply Array.toList_inj.1
    rw [Lib.extract_data, ← List.drop_drop, h, Wi.tb, List.append_assoc, List.drop_left, show a + (Va.put t.size).length + t.size - (a + (Va.put t.size).length) = t.data.toList.length by rw [Wi.len_data]; omega, List.take_left]
  · simp only; rw [htb]; omega
theorem Wi.text_cut (s : ByteArray) (a : Nat) (t : ByteArray) (k : Nat) (ha : a ≤ s.size) (ht : t.size ≤ 1000) (hk : k < (Wi.tb t).length) (h : s.data.toList.drop a = (Wi.tb t).take k) :
    Wi.text s a 0 = (⟨#[]⟩, (a : Int), 10) := by
  have hm : t.size < Va.most := by unfold Va.most; omega
  have hl := congrArg List.length h
  rw [List.length_drop, Wi.len_data, List.length_take] at hl
  have htb : (Wi.tb t).length = (Va.put t.size).length + t.size := by rw [Wi.tb, List.length_append, Wi.len_data]
  by_cases hp : k < (Va.put t.size).length
  · have h' : s.data.toList.drop a = (Va.put t.size).take k := by rw [h, Wi.tb, List.take_append_of_le_length (by omega)]
    obtain ⟨h1, h2, h3⟩ := Wi.at_take s a ha (n := 0) (k := 0) (c := 10) (by rw [h']; exact Va.take_cut hm hp)
    unfold Wi.text
    rw [if_pos rfl, if_neg (by rw [h1]; decide), h1]
    rfl
  · have h' : s.data.toList.drop a = Va.put t.size ++ t.data.toList.take (k - (Va.put t.size).length) := by
      rw [h, Wi.tb, List.take_append, List.take_of_length_le (by omega)]
    obtain ⟨h1, h2, h3⟩ := Wi.at_take s a ha (n := t.size) (k := (Va.put t.size).length) (c := 0) (by rw [h']; exact Va.take_put _ _ hm)
    unfold Wi.text Wi.piece
    rw [if_pos rfl, if_pos (show _ = (0 : Int) from h1), h2, h3, if_pos rfl, if_neg (by omega), if_pos (by omega)]

/-- Texts' bytes, one behind the other. -/
def Wi.catT (ts : List ByteArray) : List UInt8 := (ts.map Wi.tb).flatten
theorem Wi.catT_snoc (l : List ByteArray) (t : ByteArray) : Wi.catT (l ++ [t]) = Wi.catT l ++ Wi.tb t := by simp [Wi.catT]
theorem Wi.cat_app (a b : List Int) : Wi.cat (a ++ b) = Wi.cat a ++ Wi.cat b := by simp [Wi.cat]
theorem Wi.catT_app (a b : List ByteArray) : Wi.catT (a ++ b) = Wi.catT a ++ Wi.catT b := by simp [Wi.catT]
/-- All that was written. -/
def Wi.full (xs : List Int) (ts : List ByteArray) : ByteArray := ⟨(Wi.cat xs ++ Wi.catT ts).toArray⟩
theorem Wi.full_list (xs : List Int) (ts : List ByteArray) : (Wi.full xs ts).data.toList = Wi.cat xs ++ Wi.catT ts := rfl
theorem Wi.full_size (xs : List Int) (ts : List ByteArray) : (Wi.full xs ts).size = (Wi.cat xs).length + (Wi.catT ts).length := by
  rw [← Wi.len_data, Wi.full_list, List.length_append]
theorem Wi.full_nil (xs : List Int) : Wi.full xs [] = Wi.cats xs := by simp [Wi.full, Wi.cats, Wi.catT]
theorem Wi.full_snoc (xs : List Int) (ts : List ByteArray) (t : ByteArray) : Wi.full xs ts ++ (Va.puts t.size ++ t) = Wi.full xs (ts ++ [t]) := by
  apply ByteArray.ext
  apply Array.toList_inj.1
  rw [ByteArray.data_append, ByteArray.data_append, Array.toList_append, Array.toList_append, Wi.full_list, Wi.full_list, Va.puts_list, Wi.catT_snoc, Wi.tb, List.append_assoc]
theorem Wi.catT_len : ∀ ts : List ByteArray, (∀ t ∈ ts, t.size ≤ 1000) → (Wi.catT ts).length ≤ 1009 * ts.length
  | [], _ => by simp [Wi.catT]
  | t :: r, h => by
    have h1 := h t (by simp)
    have := Wi.catT_len r (fun y hy => h y (by simp [hy]))
    have h9 := Va.put_len_most (n := t.size) (by unfold Va.most; omega)
    simp only [Wi.catT, List.map_cons, List.flatten_cons, List.length_append, List.length_cons, Wi.tb, Wi.len_data] at *
    omega
def Wi.offN (xs : List Int) (k : Nat) : Nat := (Wi.cat (xs.take k)).length
def Wi.offT (xs : List Int) (ts : List ByteArray) (k : Nat) : Nat := (Wi.cat xs).length + (Wi.catT (ts.take k)).length
theorem Wi.cat_split (xs : List Int) (k : Nat) (h : k < xs.length) : Wi.cat xs = Wi.cat (xs.take k) ++ (Va.put xs[k].toNat ++ Wi.cat (xs.drop (k + 1))) := by
  conv => lhs; rw [← List.take_append_drop k xs, List.drop_eq_getElem_cons h]
  rw [Wi.cat_app]
  rfl
theorem Wi.catT_split (ts : List ByteArray) (k : Nat) (h : k < ts.length) : Wi.catT ts = Wi.catT (ts.take k) ++ (Wi.tb ts[k] ++ Wi.catT (ts.drop (k + 1))) := by
  conv => lhs; rw [← List.take_append_drop k ts, List.drop_eq_getElem_cons h]
  rw [Wi.catT_app]
  rfl
theorem Wi.offN_succ (xs : List Int) (k : Nat) (h : k < xs.length) : Wi.offN xs (k + 1) = Wi.offN xs k + (Va.put xs[k].toNat).length := by
  unfold Wi.offN
  rw [List.take_succ_eq_append_getElem h, Wi.cat_snoc, List.length_append]
theorem Wi.offT_succ (xs : List Int) (ts : List ByteArray) (k : Nat) (h : k < ts.length) : Wi.offT xs ts (k + 1) = Wi.offT xs ts k + (Wi.tb ts[k]).length := by
  unfold Wi.offT
  rw [List.take_succ_eq_append_getElem h, Wi.catT_snoc, List.length_append, Nat.add_assoc]
theorem Wi.atN (xs : List Int) (ts : List ByteArray) (k : Nat) (h : k < xs.length) : (Wi.full xs ts).data.toList.drop (Wi.offN xs k) = Va.put xs[k].toNat ++ (Wi.cat (xs.drop (k + 1)) ++ Wi.catT ts) := by
  rw [Wi.full_list, Wi.cat_split xs k h, Wi.offN, List.append_assoc, List.drop_left, List.append_assoc]
theorem Wi.atT (xs : List Int) (ts : List ByteArray) (k : Nat) (h : k < ts.length) : (Wi.full xs ts).data.toList.drop (Wi.offT xs ts k) = Wi.tb ts[k] ++ Wi.catT (ts.drop (k + 1)) := by
  rw [Wi.full_list, Wi.catT_split ts k h, Wi.offT, ← List.append_assoc, ← List.length_append, List.drop_left]
theorem Wi.offN_le (xs : List Int) (ts : List ByteArray) (k : Nat) : Wi.offN xs k ≤ (Wi.full xs ts).size := by
  rw [Wi.full_size, Wi.offN]
  have : (Wi.cat xs).length = (Wi.cat (xs.take k)).length + (Wi.cat (xs.drop k)).length := by
    rw [← List.length_append, ← Wi.cat_app, List.take_append_drop]
  omega
theorem Wi.offT_le (xs : List Int) (ts : List ByteArray) (k : Nat) : Wi.offT xs ts k ≤ (Wi.full xs ts).size := by
  rw [Wi.full_size, Wi.offT]
  have : (Wi.catT ts).length = (Wi.catT (ts.take k)).length + (Wi.catT (ts.drop k)).length := by
    rw [← List.length_append, ← Wi.catT_app, List.take_append_drop]
  omega
theorem Wi.off_mid (xs : List Int) (ts : List ByteArray) : Wi.offN xs xs.length = Wi.offT xs ts 0 := by
  unfold Wi.offN Wi.offT
  rw [List.take_length]
  simp [Wi.catT]
theorem Wi.off_end (xs : List Int) (ts : List ByteArray) : Wi.offT xs ts ts.length = (Wi.full xs ts).size := by
  rw [Wi.full_size, Wi.offT, List.take_length]

theorem Wi.cut_item {L item r : List UInt8} {a c : Nat} (h : L.drop a = item ++ r) : (L.take c).drop a = if item.length ≤ c - a then item ++ r.take (c - a - item.length) else item.take (c - a) := by
  rw [List.drop_take, h, List.take_append]
  split
  · rw [List.take_of_length_le (by omega)]
  · rw [show c - a - item.length = 0 by omega, List.take_zero, List.append_nil]
/-- Where a reader of a text that is cut off stands. -/
def Wi.Inv (c off : Nat) (a e : Int) : Prop := (e = 0 ∧ a = (off : Int) ∧ off ≤ c) ∨ (e = 10 ∧ 0 ≤ a ∧ a ≤ c)
theorem Wi.cut_list (s : ByteArray) (c : Nat) : (s.extract 0 c).data.toList = s.data.toList.take c := by
  rw [Lib.extract_data, Nat.sub_zero, List.drop_zero]
theorem Wi.inv_num {xs : List Int} {ts : List ByteArray} {c k : Nat} {a e : Int} (hc : c ≤ (Wi.full xs ts).size) (hk : k < xs.length) (hok : ∀ x ∈ xs, Wi.ok x) (h : Wi.Inv c (Wi.offN xs k) a e) :
    Wi.Inv c (Wi.offN xs (k + 1)) (Wi.num ((Wi.full xs ts).extract 0 c) a e).2.1 (Wi.num ((Wi.full xs ts).extract 0 c) a e).2.2 := by
  have hsz : ((Wi.full xs ts).extract 0 c).size = c := by simp; omega
  rcases h with ⟨rfl, rfl, ho⟩ | ⟨rfl, h0, h1⟩
  · have hd := Wi.cut_item (c := c) (Wi.atN xs ts k hk)
    rw [← Wi.cut_list] at hd
    have hx := hok xs[k] (List.getElem_mem hk)
    rw [Wi.offN_succ xs k hk]
    split at hd
    · rename_i hl
      rw [Wi.num_has _ _ _ _ (by omega) hx hd]
      exact .inl ⟨rfl, rfl, by omega⟩
    · rename_i hl
      rw [Wi.num_cut _ _ _ _ (by omega) hx (by omega) hd]
      exact .inr ⟨rfl, by simp, by simp only; omega⟩
  · rw [Wi.num_err _ _ _ (by omega)]
    exact .inr ⟨rfl, h0, h1⟩
theorem Wi.inv_text {xs : List Int} {ts : List ByteArray} {c k : Nat} {a e : Int} (hc : c ≤ (Wi.full xs ts).size) (hk : k < ts.length) (hok : ∀ t ∈ ts, t.size ≤ 1000) (h : Wi.Inv c (Wi.offT xs ts k) a e) :
    Wi.Inv c (Wi.offT xs ts (k + 1)) (Wi.text ((Wi.full xs ts).extract 0 c) a e).2.1 (Wi.text ((Wi.full xs ts).extract 0 c) a e).2.2 := by
  have hsz : ((Wi.full xs ts).extract 0 c).size = c := by simp; omega
  rcases h with ⟨rfl, rfl, ho⟩ | ⟨rfl, h0, h1⟩
  · have hd := Wi.cut_item (c := c) (Wi.atT xs ts k hk)
    rw [← Wi.cut_list] at hd
    have hx := hok ts[k] (List.getElem_mem hk)
    rw [Wi.offT_succ xs ts k hk]
    split at hd
    · rename_i hl
      rw [Wi.text_has _ _ _ _ (by omega) hx hd]
      exact .inl ⟨rfl, rfl, by omega⟩
    · rename_i hl
      rw [Wi.text_cut _ _ _ _ (by omega) hx (by omega) hd]
      exact .inr ⟨rfl, by simp, by simp only; omega⟩
  · rw [Wi.text_err _ _ _ (by omega)]
    exact .inr ⟨rfl, h0, h1⟩

end Go.Proofs.Ythkogcgdikgkaaa
