/-
  The document's answers for layer 1, as contracts; and the walk of the statement VarintTells.
-/
import Derived.Test.YtngfmnacjabloaaVh
namespace Go.Proofs.Ytngfmnacjabloaa
open Go.RowKit

/-- The number of so many seven-bit parts. -/
def Va.val : List UInt8 → Nat
  | [] => 0
  | c :: r => c.toNat % 128 + 128 * Va.val r
theorem Va.val_put (n : Nat) : Va.val (Va.put n) = n := by
  induction n using Nat.strongRecOn with
  | _ n ih =>
    by_cases hs : n < 128
    · rw [Va.put_small hs]
      simp only [Va.val]
      rw [Va.u8n (by omega)]; omega
    · rw [Va.put_big (by omega)]
      simp only [Va.val]
      rw [Va.u8n (by omega), ih (n / 128) (by omega)]; omega
theorem Va.val_lt : ∀ l : List UInt8, Va.val l < 128 ^ l.length
  | [] => by simp [Va.val]
  | c :: r => by
    have := Va.val_lt r
    simp only [Va.val, List.length_cons, Nat.pow_succ]
    omega
theorem Va.val_snoc : ∀ (l : List UInt8) (c : UInt8), Va.val (l ++ [c]) = Va.val l + c.toNat % 128 * 128 ^ l.length
  | [], c => by simp [Va.val]
  | d :: r, c => by
    simp only [List.cons_append, Va.val, List.length_cons]
    rw [Va.val_snoc r c, Nat.pow_succ, Nat.mul_add, Nat.add_assoc]
    congr 2
    rw [Nat.mul_comm, Nat.mul_assoc]
theorem Va.tk_ten (f : Nat) : ∀ (i acc a k : Nat) (l : List UInt8), Va.tk f i acc l = (a, k, 10) → ∀ c ∈ l, 128 ≤ c.toNat := by
  induction f with
  | zero => intro i acc a k l h; simp [Va.tk] at h
  | succ f ih =>
    intro i acc a k l h
    match l with
    | [] => simp
    | c :: r =>
      simp only [Va.tk] at h
      split at h
      · simp at h
      · split at h
        · rename_i h2
          intro x hx
          rcases List.mem_cons.1 hx with rfl | hx
          · exact h2
          · exact ih _ _ _ _ _ h x hx
        · split at h <;> simp at h
/-- Where the first byte below 128 stands at place j, the number is the first j + 1 bytes', or none. -/
theorem Va.take_mid {l : List UInt8} {j : Nat} {c : UInt8} (hj : l[j]? = some c) (hc : c.toNat < 128) (hh : ∀ i d, i < j → l[i]? = some d → 128 ≤ d.toNat) :
    Va.take l = if Va.val (l.take (j + 1)) < Va.most ∧ Va.put (Va.val (l.take (j + 1))) = l.take (j + 1) then (Va.val (l.take (j + 1)), j + 1, 0) else (0, 0, 11) := by
  have hjl : j < l.length := (List.getElem?_eq_some_iff.1 hj).1
  split
  · rename_i h
    have e := Va.take_put (Va.val (l.take (j + 1))) (l.drop (j + 1)) h.1
    rw [h.2, List.take_append_drop] at e
    rw [e, List.length_take]
    congr 2
    omega
  · rename_i h
    rcases ht : Va.take l with ⟨a, k, e⟩
    rcases Va.tk_none 9 0 0 a k e l ht with rfl | ⟨rfl, rfl, rfl⟩ | ⟨rfl, rfl, rfl⟩
    · exfalso
      obtain ⟨r, h1, h2, h3⟩ := Va.take_ok ht
      have hp := Va.put_len_pos a
      have hlen : (Va.put a).length = j + 1 := by
        have hx : ∀ i d, (Va.put a)[i]? = some d → l[i]? = some d := fun i d hd => by
          rw [h1, List.getElem?_append_left (List.getElem?_eq_some_iff.1 hd).1]; exact hd
        rcases Nat.lt_trichotomy (Va.put a).length (j + 1) with hlt | heq | hgt
        · have hd : (Va.put a)[(Va.put a).length - 1]? = some ((Va.put a)[(Va.put a).length - 1]'(by omega)) := List.getElem?_eq_getElem _
          have hhi := Va.put_high a _ _ hd
          have := hh _ _ (by omega) (hx _ _ hd)
          omega
        · exact heq
        · have hd : (Va.put a)[j]? = some ((Va.put a)[j]'(by omega)) := List.getElem?_eq_getElem _
          have hhi := Va.put_high a _ _ hd
          have := hx _ _ hd
          rw [hj] at this
          injection this with this
          rw [← this] at hhi
          omega
      have htake : l.take (j + 1) = Va.put a := by
        rw [h1, ← hlen, List.take_left]
      exact h ⟨by rw [htake, Va.val_put]; exact h3, by rw [htake, Va.val_put]⟩
    · exfalso
      have := Va.tk_ten 9 0 0 0 0 l ht c (List.mem_of_getElem? hj)
      omega
    · rfl

set_option maxRecDepth 100000 in
set_option maxHeartbeats 4000000 in
theorem rput_yes (n : Int) (w : World) (h0 : 0 ≤ n) (h1 : n < 4611686018427387904) :
    Calls Try.prog 12 #[.int .i64 n] w fun e w' => e = .returned (.string ⟨(Va.put n.toNat).toArray⟩) ∧ Ext w w' := by
  have H := Lib.hid (Va.put_len_most (show n.toNat < Va.most by unfold Va.most; omega))
  obtain ⟨i0, hi, hz0, hz1, hz2⟩ := info_parts Try.infoU8
  go_enter Try.func12, Try.ntmps12
  go_wp2
  go_loopw [0, 3] (fun v o wr => ∃ (m : Nat) (l : List UInt8), v = .int .i64 m ∧ wr.ownsRow w.heap.size 5 1 o l.length (bytesV l) ∧ l ++ Va.put m = Va.put n.toNat ∧ Below w.heap.size w wr ∧ (m : Int) ≤ 9223372036854775807) (fun v _ _ => (intOf v).toNat)
  case atStart => exact ⟨n.toNat, [], by rw [Int.toNat_of_nonneg h0], World.ownsRow_made _ _ 0 (Nat.le_refl _) (by simp [maxLen]) rfl, rfl, Ext.alloc (Ext.refl _) _, by omega⟩
  case round =>
    obtain ⟨m, l, rfl, hown, hs, hbel, hmn⟩ := hrel
    clear h0 h1
    have hll : l.length ≤ 9 := by have := congrArg List.length hs; have := H.out; simp at *; omega
    have HS := Lib.hid hs; clear hs
    by_cases hm : 128 ≤ m
    · go_wp2_with (at_builtin; refine wpList_append_own _ rfl _ _ 32 rfl w.heap.size 5 i0 (.int .u8 0) 1 1 Try.underlying32 hi hz0 hz1 hz2 rfl (by decide) _ _ _ rfl (hown.alloc _) ⟨wr.heap.size, 0, none⟩ 1 1 [.int .u8 (128 + (m : Int) % 128)] rfl rfl ?c1 ?c2 ?c3 ?c4 ?c5 ?_)
      case c1 => exact one_new _ _ _
      case c2 => simp [Value.oneCell']
      case c3 => simp [maxLen]; omega
      case c4 => omega
      case c5 => have := hbel.size; simp; omega
      intro v' w1 hown1 hgrow _
      have hb1 : Below w.heap.size w w1 := (hbel.alloc hbel.size _).grown hgrow (by have := hbel.size; simp; omega) (own_block_le hown)
      have HO : Hid (w1.ownsRow w.heap.size 5 1 v' (l ++ [UInt8.ofNat (m % 128 + 128)]).length (bytesV (l ++ [UInt8.ofNat (m % 128 + 128)]))) := Lib.hid (by rw [bytesV_append, List.length_append]; simp only [bytesV, List.map_cons, List.map_nil, List.length_singleton, u8_mod, Int.add_comm _ 128]; exact hown1)
      clear hown hbel hgrow hown1
      go_wp2
      go_roundw
      case rel => exact ⟨m / 128, _, by go_num, HO.out, by have := HS.out; rw [Va.put_big hm] at this; simpa using this, hb1, by omega⟩
      case measure => simp [intOf]; omega
    · go_wp2_with (at_builtin; refine wpList_append_own _ rfl _ _ 32 rfl w.heap.size 5 i0 (.int .u8 0) 1 1 Try.underlying32 hi hz0 hz1 hz2 rfl (by decide) _ _ _ rfl (hown.alloc _) ⟨wr.heap.size, 0, none⟩ 1 1 [.int .u8 (m : Int)] rfl rfl ?c1 ?c2 ?c3 ?c4 ?c5 ?_)
      case c1 => exact one_new _ _ _
      case c2 => simp [Value.oneCell']
      case c3 => simp [maxLen]; omega
      case c4 => omega
      case c5 => have := hbel.size; simp; omega
      intro v' w1 hown1 hgrow _
      have hb1 : Below w.heap.size w w1 := (hbel.alloc hbel.size _).grown hgrow (by have := hbel.size; simp; omega) (own_block_le hown)
      have HO : Hid (w1.ownsRow w.heap.size 5 1 v' (l ++ [UInt8.ofNat m]).length (bytesV (l ++ [UInt8.ofNat m]))) := Lib.hid (by rw [bytesV_append, List.length_append]; simp only [bytesV, List.map_cons, List.map_nil, List.length_singleton, u8_low (show m < 128 by omega)]; exact hown1)
      clear hown hbel hgrow hown1
      have hcv := run_convert_own (P := Try.prog) w1 32 9 5 w.heap.size v' _ HO.out Try.underlying32 Try.underlying5 Try.underlying9
      go_wp2
      go_ret
      refine ⟨?_, hb1⟩
      have := HS.out; rw [Va.put_small (by omega)] at this
      simp [this]
set_option maxRecDepth 100000 in
set_option maxHeartbeats 4000000 in
theorem rput_no (n : Int) (w : World) (h : n < 0 ∨ 4611686018427387904 ≤ n) :
    Calls Try.prog 12 #[.int .i64 n] w fun e w' => e = .returned (.string ⟨#[]⟩) ∧ w = w' := by
  rcases h with h | h
  all_goals
    go_enter Try.func12, Try.ntmps12
    go_wp2
    go_ret
    exact ⟨rfl, rfl⟩
/-- What Put answers, for every number. -/
def Va.pz (n : Int) : ByteArray := if 0 ≤ n ∧ n < 4611686018427387904 then Va.puts n.toNat else ⟨#[]⟩
theorem put_any (n : Int) (w : World) : Calls Try.prog 11 #[.int .i64 n] w fun e w' => e = .returned (.string (Va.pz n)) ∧ Ext w w' := by
  unfold Va.pz
  by_cases h : 0 ≤ n ∧ n < 4611686018427387904
  · rw [if_pos h]; exact put_str n w h.1 h.2
  · rw [if_neg h]
    exact (put_no n w (by omega)).mono fun e w' ⟨he, hw⟩ => ⟨he, hw ▸ Ext.refl _⟩
theorem rput_any (n : Int) (w : World) : Calls Try.prog 12 #[.int .i64 n] w fun e w' => e = .returned (.string (Va.pz n)) ∧ Ext w w' := by
  unfold Va.pz
  by_cases h : 0 ≤ n ∧ n < 4611686018427387904
  · rw [if_pos h]; exact rput_yes n w h.1 h.2
  · rw [if_neg h]
    exact (rput_no n w (by omega)).mono fun e w' ⟨he, hw⟩ => ⟨he, hw ▸ Ext.refl _⟩
theorem len_any (n : Int) (w : World) : Calls Try.prog 13 #[.int .i64 n] w fun e w' => e = .returned (.int .i64 (Va.pz n).size) ∧ Ext w w' := by
  unfold Va.pz
  by_cases h : 0 ≤ n ∧ n < 4611686018427387904
  · rw [if_pos h]; exact (len_str n w h.1 h.2).mono fun e w' ⟨he, hw⟩ => ⟨he, hw ▸ Ext.refl _⟩
  · rw [if_neg h]
    exact (len_no n w (by omega)).mono fun e w' ⟨he, hw⟩ => ⟨he, hw ▸ Ext.refl _⟩
theorem rlen_any (n : Int) (w : World) : Calls Try.prog 14 #[.int .i64 n] w fun e w' => e = .returned (.int .i64 (Va.pz n).size) ∧ Ext w w' := by
  have hz : (Va.pz n).size ≤ 9 := by
    unfold Va.pz
    by_cases h : 0 ≤ n ∧ n < 4611686018427387904
    · rw [if_pos h]; exact Va.puts_nine h.1 h.2
    · rw [if_neg h]; decide
  go_enter Try.func14, Try.ntmps14
  go_wp2_with fail
  refine (rput_any n _).mono ?_
  rintro e w1 ⟨rfl, hb1⟩
  go_wp2_with fail
  go_ret
  exact ⟨rfl, hb1⟩

end Go.Proofs.Ytngfmnacjabloaa
