/-
  The document's answers for layer 1, as contracts.
-/
import Derived.Test.YtaeollnaigphlaaDoorVk
import Derived.Test.YtaeollnaigphlaaDoorRg
set_option linter.unusedVariables false
set_option linter.unusedSimpArgs false
namespace Go.Proofs.YtaeollnaigphlaaDoor
open Go.RowKit

/-- The number of so many seven-bit parts. -/
def Va.val : List UInt8 → Nat
  | [] => 0
  | c :: r => c.toNat % 128 + 128 * Va.val r
theorem Va.val_put (n : Nat) : Va.val (Va.put n) = n := by
  induction n using Nat.strongRecOn with
  | _ n ih =>
    by_cases hs : n < 128
    · rw [Va.put_small hs]
      simp only [Va.val]
      rw [Va.u8n (by omega)]; omega
    · rw [Va.put_big (by omega)]
      simp only [Va.val]
      rw [Va.u8n (by omega), ih (n / 128) (by omega)]; omega
theorem Va.val_lt : ∀ l : List UInt8, Va.val l < 128 ^ l.length
  | [] => by simp [Va.val]
  | c :: r => by
    have := Va.val_lt r
    simp only [Va.val, List.length_cons, Nat.pow_succ]
    omega
theorem Va.val_snoc : ∀ (l : List UInt8) (c : UInt8), Va.val (l ++ [c]) = Va.val l + c.toNat % 128 * 128 ^ l.length
  | [], c => by simp [Va.val]
  | d :: r, c => by
    simp only [List.cons_append, Va.val, List.length_cons]
    rw [Va.val_snoc r c, Nat.pow_succ, Nat.mul_add, Nat.add_assoc]
    congr 2
    rw [Nat.mul_comm, Nat.mul_assoc]
theorem Va.tk_ten (f : Nat) : ∀ (i acc a k : Nat) (l : List UInt8), Va.tk f i acc l = (a, k, 10) → ∀ c ∈ l, 128 ≤ c.toNat := by
  induction f with
  | zero => intro i acc a k l h; simp [Va.tk] at h
  | succ f ih =>
    intro i acc a k l h
    match l with
    | [] => simp
    | c :: r =>
      simp only [Va.tk] at h
      split at h
      · simp at h
      · split at h
        · rename_i h2
          intro x hx
          rcases List.mem_cons.1 hx with rfl | hx
          · exact h2
          · exact ih _ _ _ _ _ h x hx
        · split at h <;> simp at h
/-- Where the first byte below 128 stands at place j, the number is the first j + 1 bytes', or none. -/
theorem Va.take_mid {l : List UInt8} {j : Nat} {c : UInt8} (hj : l[j]? = some c) (hc : c.toNat < 128) (hh : ∀ i d, i < j → l[i]? = some d → 128 ≤ d.toNat) :
    Va.take l = if Va.val (l.take (j + 1)) < Va.most ∧ Va.put (Va.val (l.take (j + 1))) = l.take (j + 1) then (Va.val (l.take (j + 1)), j + 1, 0) else (0, 0, 11) := by
  have hjl : j < l.length := (List.getElem?_eq_some_iff.1 hj).1
  split
  · rename_i h
    have e := Va.take_put (Va.val (l.take (j + 1))) (l.drop (j + 1)) h.1
    rw [h.2, List.take_append_drop] at e
    rw [e, List.length_take]
    congr 2
    omega
  · rename_i h
    rcases ht : Va.take l with ⟨a, k, e⟩
    rcases Va.tk_none 9 0 0 a k e l ht with rfl | ⟨rfl, rfl, rfl⟩ | ⟨rfl, rfl, rfl⟩
    · exfalso
      obtain ⟨r, h1, h2, h3⟩ := Va.take_ok ht
      have hp := Va.put_len_pos a
      have hlen : (Va.put a).length = j + 1 := by
        have hx : ∀ i d, (Va.put a)[i]? = some d → l[i]? = some d := fun i d hd => by
          rw [h1, List.getElem?_append_left (List.getElem?_eq_some_iff.1 hd).1]; exact hd
        rcases Nat.lt_trichotomy (Va.put a).length (j + 1) with hlt | heq | hgt
        · have hd : (Va.put a)[(Va.put a).length - 1]? = some ((Va.put a)[(Va.put a).length - 1]'(by omega)) := List.getElem?_eq_getElem _
          have hhi := Va.put_high a _ _ hd
          have := hh _ _ (by omega) (hx _ _ hd)
          omega
        · exact heq
        · have hd : (Va.put a)[j]? = some ((Va.put a)[j]'(by omega)) := List.getElem?_eq_getElem _
          have hhi := Va.put_high a _ _ hd
          have := hx _ _ hd
          rw [hj] at this
          injection this with this
          rw [← this] at hhi
          omega
      have htake : l.take (j + 1) = Va.put a := by
        rw [h1, ← hlen, List.take_left]
      exact h ⟨by rw [htake, Va.val_put]; exact h3, by rw [htake, Va.val_put]⟩
    · exfalso
      have := Va.tk_ten 9 0 0 0 0 l ht c (List.mem_of_getElem? hj)
      omega
    · rfl

def Va.unit (k : Nat) : Nat := 128 ^ k
theorem Va.unit_step {k : Nat} (hk : k < 8) : wrap64 ((Va.unit k : Int) * 128) = (Va.unit (k + 1) : Int) := by
  unfold Va.unit
  rcases (by omega : k = 0 ∨ k = 1 ∨ k = 2 ∨ k = 3 ∨ k = 4 ∨ k = 5 ∨ k = 6 ∨ k = 7) with rfl | rfl | rfl | rfl | rfl | rfl | rfl | rfl <;> simp only [Nat.reducePow, Nat.reduceAdd, wrap64] <;> omega
theorem Va.unit_sum {k v c : Nat} (hk : k ≤ 8) (hv : v < 128 ^ k) : wrap64 ((v : Int) + wrap64 ((c : Int) % 128 * (Va.unit k : Int))) = ((v + c % 128 * 128 ^ k : Nat) : Int) := by
  unfold Va.unit
  rcases (by omega : k = 0 ∨ k = 1 ∨ k = 2 ∨ k = 3 ∨ k = 4 ∨ k = 5 ∨ k = 6 ∨ k = 7 ∨ k = 8) with rfl | rfl | rfl | rfl | rfl | rfl | rfl | rfl | rfl <;> simp only [Nat.reducePow, wrap64] at * <;> omega

theorem Va.val_next {s : ByteArray} {a k : Nat} (h : a + k < s.size) : Va.val ((s.data.toList.drop a).take (k + 1)) = Va.val ((s.data.toList.drop a).take k) + s[a + k].toNat % 128 * 128 ^ k := by
  have hl : k < (s.data.toList.drop a).length := by simp; omega
  have e : (s.data.toList.drop a).take (k + 1) = (s.data.toList.drop a).take k ++ [s[a + k]] := by
    rw [List.take_succ_eq_append_getElem hl]
    congr 2
    simp
    rfl
  rw [e, Va.val_snoc, List.length_take, Nat.min_eq_left (by omega)]
theorem Va.val_bound {s : ByteArray} {a k : Nat} (h : a + k ≤ s.size) : Va.val ((s.data.toList.drop a).take k) < 128 ^ k := by
  have := Va.val_lt ((s.data.toList.drop a).take k)
  rwa [List.length_take, Nat.min_eq_left (by simp; omega)] at this

theorem Va.high_mem {s : ByteArray} {a j : Nat} (h : a + j ≤ s.size) (hh : ∀ i (_ : i < j) (hx : a + i < s.size), 128 ≤ s[a + i].toNat) : ∀ c ∈ (s.data.toList.drop a).take j, 128 ≤ c.toNat := by
  intro c hc
  obtain ⟨i, hi⟩ := List.mem_iff_getElem?.1 hc
  rw [List.getElem?_take] at hi
  split at hi
  · rename_i hij
    rw [List.getElem?_drop] at hi
    have hx : a + i < s.size := by omega
    have := hh i hij hx
    rw [List.getElem?_eq_getElem (by simpa using hx)] at hi
    injection hi with hi
    rw [← hi]
    exact this
  · simp at hi
theorem Va.take_sub {l : List UInt8} {i j : Nat} (h : i ≤ j) {c : UInt8} (hc : c ∈ l.take i) : c ∈ l.take j := by
  have : l.take i = (l.take j).take i := by rw [List.take_take, Nat.min_eq_left h]
  rw [this] at hc
  exact List.mem_of_mem_take hc

theorem Va.take_mid_s {s : ByteArray} {a j : Nat} (hlt : a + j < s.size) (hc : s[a + j].toNat < 128) (hh : ∀ i (_ : i < j) (hx : a + i < s.size), 128 ≤ s[a + i].toNat) :
    Va.take (s.data.toList.drop a) = if Va.val ((s.data.toList.drop a).take (j + 1)) < Va.most ∧ Va.put (Va.val ((s.data.toList.drop a).take (j + 1))) = (s.data.toList.drop a).take (j + 1) then (Va.val ((s.data.toList.drop a).take (j + 1)), j + 1, 0) else (0, 0, 11) := by
  have at_ : ∀ i (hx : a + i < s.size), (s.data.toList.drop a)[i]? = some s[a + i] := fun i hx => by
    rw [List.getElem?_drop, List.getElem?_eq_getElem (by simpa using hx)]; rfl
  refine Va.take_mid (at_ j hlt) hc fun i d hi hd => ?_
  rw [at_ i (by omega)] at hd
  injection hd with hd
  rw [← hd]
  exact hh i hi (by omega)
theorem Va.ext_list (s : ByteArray) (a j : Nat) : (s.extract a (a + j + 1)).toList = (s.data.toList.drop a).take (j + 1) := by
  rw [ByteArray.toList_eq, Lib.extract_data, show a + j + 1 - a = j + 1 by omega]
theorem Va.pz_cast {v : Nat} (h : v < Va.most) : Va.pz (v : Int) = Va.puts v := by
  unfold Va.pz; rw [if_pos ⟨by omega, Va.most_int h⟩, Int.toNat_natCast]
theorem Va.pz_yes {s : ByteArray} {a j v : Nat} (h : v < Va.most ∧ Va.put v = (s.data.toList.drop a).take (j + 1)) : ((Va.pz (v : Int)).toList == (s.extract a (a + j + 1)).toList) = true := by
  rw [Va.pz_cast h.1, Va.ext_list, ByteArray.toList_eq, Va.puts_list, h.2]; exact beq_self_eq_true _
theorem Va.pz_nop {s : ByteArray} {a j v : Nat} (hl : a + j + 1 ≤ s.size) (h : ¬ (v < Va.most ∧ Va.put v = (s.data.toList.drop a).take (j + 1))) : ((Va.pz (v : Int)).toList == (s.extract a (a + j + 1)).toList) = false := by
  rw [beq_eq_false_iff_ne, Va.ext_list]
  intro he
  by_cases hv : v < Va.most
  · rw [Va.pz_cast hv, ByteArray.toList_eq, Va.puts_list] at he
    exact h ⟨hv, he⟩
  · have : Va.pz (v : Int) = ⟨#[]⟩ := by unfold Va.pz; rw [if_neg (by unfold Va.most at hv; omega)]
    rw [this, ByteArray.toList_eq] at he
    have := congrArg List.length he
    simp at this
    omega

end Go.Proofs.YtaeollnaigphlaaDoor
