/-
  What a reader reads behind a kind is what the bytes are as an event.
-/
import Derived.Test.YtcdfpifhjjiioaaEe
import Derived.Test.YtcdfpifhjjiioaaWe
set_option linter.unusedVariables false
set_option linter.unusedSimpArgs false
namespace Go.Proofs.Ytcdfpifhjjiioaa
open Go.RowKit

theorem Wi.num_take (s : ByteArray) (a : Nat) (h : a ≤ s.size) : Wi.num s a 0 = if (Va.take (s.data.toList.drop a)).2.2 = 0 then (((Va.take (s.data.toList.drop a)).1 : Int), ((a + (Va.take (s.data.toList.drop a)).2.1 : Nat) : Int), 0) else (0, (a : Int), ((Va.take (s.data.toList.drop a)).2.2 : Int)) := by
  have hn : ¬ ((a : Int) < 0 ∨ (s.size : Int) < a) := by omega
  unfold Wi.num Va.tz Va.tx Va.ty
  rw [if_pos rfl, if_neg hn, if_neg hn, if_neg hn, Int.toNat_natCast]
  by_cases h0 : (Va.take (s.data.toList.drop a)).2.2 = 0
  · rw [if_pos h0, if_pos h0, if_pos (by omega)]
  · have h0' : ¬ (((Va.take (s.data.toList.drop a)).2.2 : Nat) : Int) = 0 := by omega
    rw [if_neg h0', if_neg h0]
theorem Va.take_size {L : List UInt8} (h : (Va.take L).2.2 = 0) : (Va.take L).2.1 ≤ L.length := by
  rcases ht : Va.take L with ⟨a, k, e⟩
  rw [ht] at h
  simp only at h
  subst h
  obtain ⟨r, h1, h2, _⟩ := Va.take_ok ht
  rw [h1, List.length_append]; simp only; omega
theorem Wi.text_txt (s : ByteArray) (a : Nat) (h : a ≤ s.size) : Wi.text s a 0 = if (Ev.txt (s.data.toList.drop a)).2.2 = 0 then ((⟨(Ev.txt (s.data.toList.drop a)).1.toArray⟩ : ByteArray), ((a + (Ev.txt (s.data.toList.drop a)).2.1 : Nat) : Int), 0) else (⟨#[]⟩, (a : Int), ((Ev.txt (s.data.toList.drop a)).2.2 : Int)) := by
  have hn : ¬ ((a : Int) < 0 ∨ (s.size : Int) < a) := by omega
  have hsz : s.data.toList.length = s.size := by simp
  unfold Wi.text Va.tz Va.tx Va.ty Ev.txt
  rw [if_pos rfl, if_neg hn, if_neg hn, if_neg hn, Int.toNat_natCast]
  by_cases h0 : (Va.take (s.data.toList.drop a)).2.2 = 0
  · have hk := Va.take_size h0
    rw [List.length_drop, hsz] at hk
    rw [if_pos h0, if_pos (by omega)]
    unfold Wi.piece
    rw [if_neg (by omega), List.length_drop, List.length_drop, hsz]
    simp only [h0, if_true]
    by_cases hl : s.size - a - (Va.take (s.data.toList.drop a)).2.1 < (Va.take (s.data.toList.drop a)).1
    · rw [if_pos (by omega), if_pos hl]
      simp
    · rw [if_neg (by omega), if_neg hl]
      simp only [if_true, Prod.mk.injEq, and_true]
      refine ⟨?_, by omega⟩
      apply ByteArray.ext
      apply Array.toList_inj.1
      rw [Lib.extract_data, List.drop_drop]
      congr 1
      · omega
  · rw [if_neg h0, if_neg (by omega)]
    simp only [h0, if_false]

theorem Wi.loop_err (s : ByteArray) (a e : Int) (h : ¬ e = 0) : ∀ n, (Wi.loop s a e n).2 = (a, e)
  | 0 => rfl
  | n + 1 => by simp only [Wi.loop]; rw [Wi.loop_err s a e h n, Wi.num_err _ _ _ h]
theorem Wi.loop_front (s : ByteArray) (a e : Int) : ∀ n, Wi.loop s a e (n + 1) = ((Wi.num s a e).1 :: (Wi.loop s (Wi.num s a e).2.1 (Wi.num s a e).2.2 n).1, (Wi.loop s (Wi.num s a e).2.1 (Wi.num s a e).2.2 n).2)
  | 0 => rfl
  | n + 1 => by
    rw [Wi.loop, Wi.loop_front s a e n]
    simp [Wi.loop]
theorem Wi.loop_takes (s : ByteArray) : ∀ (n a : Nat), a ≤ s.size → ((Ev.takes n (s.data.toList.drop a)).2.2 = 0 → Wi.loop s a 0 n = ((Ev.takes n (s.data.toList.drop a)).1, ((a + (Ev.takes n (s.data.toList.drop a)).2.1 : Nat) : Int), 0)) ∧
    ((Ev.takes n (s.data.toList.drop a)).2.2 ≠ 0 → (Wi.loop s a 0 n).2.2 = ((Ev.takes n (s.data.toList.drop a)).2.2 : Int))
  | 0, a, _ => ⟨fun _ => by simp [Wi.loop, Ev.takes], fun h => absurd rfl h⟩
  | n + 1, a, h => by
    have hsz : s.data.toList.length = s.size := by simp
    rw [Wi.loop_front, Wi.num_take s a h]
    simp only [Ev.takes]
    by_cases h0 : (Va.take (s.data.toList.drop a)).2.2 = 0
    · have hk := Va.take_size h0
      rw [List.length_drop, hsz] at hk
      obtain ⟨i1, i2⟩ := Wi.loop_takes s n (a + (Va.take (s.data.toList.drop a)).2.1) (by omega)
      rw [← List.drop_drop] at i1 i2
      rw [if_pos h0, if_pos h0]
      by_cases h1 : (Ev.takes n ((s.data.toList.drop a).drop (Va.take (s.data.toList.drop a)).2.1)).2.2 = 0
      · rw [if_pos h1]
        refine ⟨fun _ => ?_, fun h => absurd rfl h⟩
        simp only
        rw [i1 h1]
        simp only [Prod.mk.injEq, and_true, true_and]
        omega
      · rw [if_neg h1]
        exact ⟨fun h => absurd h h1, fun _ => i2 h1⟩
    · rw [if_neg h0, if_neg h0]
      refine ⟨fun h => absurd h h0, fun _ => ?_⟩
      simp only
      rw [Wi.loop_err _ _ _ (by omega)]
theorem Ev.rest_dec (s : ByteArray) (c : UInt8) (T : List UInt8) (h : s.data.toList = c :: T) (hk : (Ki.known c.toNat || Ki.exp c.toNat) = true) :
    ((Ev.dec (c :: T)).2.2 = 0 → Ev.rest s c.toNat 1 = ((Ev.dec (c :: T)).1, ((Ev.dec (c :: T)).2.1 : Int), 0)) ∧ ((Ev.dec (c :: T)).2.2 ≠ 0 → (Ev.rest s c.toNat 1).2.2 = ((Ev.dec (c :: T)).2.2 : Int)) := by
  have hsz : s.size = T.length + 1 := by
    have : s.size = s.data.toList.length := by simp
    rw [this, h]; rfl
  have hd : s.data.toList.drop 1 = T := by rw [h]; rfl
  simp only [Ev.dec]
  rw [if_pos hk]
  unfold Ev.rest Ev.decT
  have h1 := Wi.num_take s 1 (by omega)
  rw [hd] at h1
  rw [show ((1 : Int)) = ((1 : Nat) : Int) from rfl, h1]
  by_cases h0 : (Va.take T).2.2 = 0
  · have hk := Va.take_size h0
    have hdd : s.data.toList.drop (1 + (Va.take T).2.1) = T.drop (Va.take T).2.1 := by rw [← List.drop_drop, hd]
    rw [if_pos h0, if_pos h0]
    by_cases hx : Ki.exp c.toNat = true
    · rw [if_pos hx, if_pos hx]
      have h2 := Wi.text_txt s (1 + (Va.take T).2.1) (by omega)
      rw [hdd] at h2
      simp only
      rw [h2]
      by_cases h3 : (Ev.txt (T.drop (Va.take T).2.1)).2.2 = 0
      · rw [if_pos h3, if_pos h3]
        exact ⟨fun _ => rfl, fun h => absurd rfl h⟩
      · rw [if_neg h3, if_neg h3]
        exact ⟨fun h => absurd h h3, fun _ => rfl⟩
    · rw [if_neg hx, if_neg hx]
      obtain ⟨h2, h4⟩ := Wi.loop_takes s (Ki.args c.toNat).length (1 + (Va.take T).2.1) (by omega)
      rw [hdd] at h2 h4
      simp only
      by_cases h3 : (Ev.takes (Ki.args c.toNat).length (T.drop (Va.take T).2.1)).2.2 = 0
      · rw [if_pos h3, h2 h3]
        exact ⟨fun _ => rfl, fun h => absurd rfl h⟩
      · rw [if_neg h3]
        exact ⟨fun h => absurd h h3, fun _ => h4 h3⟩
  · rw [if_neg h0, if_neg h0]
    refine ⟨fun h => absurd h h0, fun _ => ?_⟩
    by_cases hx : Ki.exp c.toNat = true
    · rw [if_pos hx]
      simp only
      rw [Wi.text_err _ _ _ (by omega)]
    · rw [if_neg hx]
      simp only
      rw [Wi.loop_err _ _ _ (by omega)]

end Go.Proofs.Ytcdfpifhjjiioaa
