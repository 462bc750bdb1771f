/-
  The document's answers for layer 1, as contracts.
-/
import Derived.Test.YthkogcgdikgkaaaVk
import Derived.Test.YthkogcgdikgkaaaRg
set_option linter.unusedVariables false
set_option linter.unusedSimpArgs false
namespace Go.Proofs.Ythkogcgdikgkaaa
open Go.RowKit

/-- The number of so many seven-bit parts. -/
def Va.val : List UInt8 → Nat
  | [] => 0
  | c :: r => c.toNat % 128 + 128 * Va.val r
theorem Va.val_put (n : Nat) : Va.val (Va.put n) = n := by
  induction n using Nat.strongRecOn with
  | _ n ih =>
    by_cases hs : n < 128
    · rw [Va.put_small hs]
      simp only [Va.val]
      rw [Va.u8n (by omega)]; omega
    · rw [Va.put_big (by omega)]
      simp only [Va.val]
      rw [Va.u8n (by omega), ih (n / 128) (by omega)]; omega
theorem Va.val_lt : ∀ l : List UInt8, Va.val l < 128 ^ l.length
  | [] => by simp [Va.val]
  | c :: r => by
    have := Va.val_lt r
    simp only [Va.val, List.length_cons, Nat.pow_succ]
    omega
theorem Va.val_snoc : ∀ (l : List UInt8) (c : UInt8), Va.val (l ++ [c]) = Va.val l + c.toNat % 128 * 128 ^ l.length
  | [], c => by simp [Va.val]
  | d :: r, c => by
    simp only [List.cons_append, Va.val, List.length_cons]
    rw [Va.val_snoc r c, Nat.pow_succ, Nat.mul_add, Nat.add_assoc]
    congr 2
    rw [Nat.mul_comm, Nat.mul_assoc]
theorem Va.tk_ten (f : Nat) : ∀ (i acc a k : Nat) (l : List UInt8), Va.tk f i acc l = (a, k, 10) → ∀ c ∈ l, 128 ≤ c.toNat := by
  induction f with
  | zero => intro i acc a k l h; simp [Va.tk] at h
  | succ f ih =>
    intro i acc a k l h
    match l with
    | [] => simp
    | c :: r =>
      simp only [Va.tk] at h
      split at h
      · simp at h
      · split at h
        · rename_i h2
          intro x hx
          rcases List.mem_cons.1 hx with rfl | hx
          · exact h2
          · exact ih _ _ _ _ _ h x hx
        · split at h <;> simp at h
/-- Where the first byte below 128 stands at place j, the number is the first j + 1 bytes', or none. -/
theorem Va.take_mid {l : List UInt8} {j : Nat} {c : UInt8} (hj : l[j]? = some c) (hc : c.toNat < 128) (hh : ∀ i d, i < j → l[i]? = some d → 128 ≤ d.toNat) :
    Va.take l = if Va.val (l.take (j + 1)) < Va.most ∧ Va.put (Va.val (l.take (j + 1))) = l.take (j + 1) then (Va.val (l.take (j + 1)), j + 1, 0) else (0, 0, 11) := by
  have hjl : j < l.length := (List.getElem?_eq_some_iff.1 hj).1
  split
  · rename_i h
    have e := Va.take_put (Va.val (l.take (j + 1))) (l.drop (j + 1)) h.1
    rw [h.2, List.take_append_drop] at e
    rw [e, List.length_take]
    congr 2
    omega
  · rename_i h
    rcases ht : Va.take l with ⟨a, k, e⟩
    rcases Va.tk_none 9 0 0 a k e l ht with rfl | ⟨rfl, rfl, rfl⟩ | ⟨rfl, rfl, rfl⟩
    · exfalso
      obtain ⟨r, h1, h2, h3⟩ := Va.take_ok ht
      have hp := Va.put_len_pos a
      have hlen : (Va.put a).length = j + 1 := by
        have hx : ∀ i d, (Va.put a)[i]? = some d → l[i]? = some d := fun i d hd => by
          rw [h1, List.getElem?_append_left (List.getElem?_eq_some_iff.1 hd).1]; exact hd
        rcases Nat.lt_trichotomy (Va.put a).length (j + 1) with hlt | heq | hgt
        · have hd : (Va.put a)[(Va.put a).length - 1]? = some ((Va.put a)[(Va.put a).length - 1]'(by omega)) := List.getElem?_eq_getElem _
          have hhi := Va.put_high a _ _ hd
          have := hh _ _ (by omega) (hx _ _ hd)
          omega
        · exact heq
        · have hd : (Va.put a)[j]? = some ((Va.put a)[j]'(by omega)) := List.getElem?_eq_getElem _
          have hhi := Va.put_high a _ _ hd
          have := hx _ _ hd
          rw [hj] at this
          injection this with this
          rw [← this] at hhi
          omega
      have htake : l.take (j + 1) = Va.put a := by
        rw [h1, ← hlen, List.take_left]
      exact h ⟨by rw [htake, Va.val_put]; exact h3, by rw [htake, Va.val_put]⟩
    · exfalso
      have := Va.tk_ten 9 0 0 0 0 l ht c (List.mem_of_getElem? hj)
      omega
    · rfl

set_option maxRecDepth 100000 in
set_option maxHeartbeats 1000000 in
theorem rput_yes (n : Int) (w : World) (h0 : 0 ≤ n) (h1 : n < 4611686018427387904) :
    Calls Try.prog 41 #[.int .i64 n] w fun e w' => e = .returned (.string ⟨(Va.put n.toNat).toArray⟩) ∧ Ext w w' := by
  have H := Lib.hid (Va.put_len_most (show n.toNat < Va.most by unfold Va.most; omega))
  obtain ⟨i0, hi, hz0, hz1, hz2⟩ := info_parts Try.infoU8
  go_enter Try.func41, Try.ntmps41
  go_wp2
  go_loopw [0, 3] (fun v o wr => ∃ (m : Nat) (l : List UInt8), v = .int .i64 m ∧ wr.ownsRow w.heap.size 5 1 o l.length (bytesV l) ∧ l ++ Va.put m = Va.put n.toNat ∧ Below w.heap.size w wr ∧ (m : Int) ≤ 9223372036854775807) (fun v _ _ => (intOf v).toNat)
  case atStart => exact ⟨n.toNat, [], by rw [Int.toNat_of_nonneg h0], World.ownsRow_made _ _ 0 (Nat.le_refl _) (by simp [maxLen]) rfl, rfl, Ext.alloc (Ext.refl _) _, by omega⟩
  case round =>
    obtain ⟨m, l, rfl, hown, hs, hbel, hmn⟩ := hrel
    clear h0 h1
    have hll : l.length ≤ 9 := by have := congrArg List.length hs; have := H.out; simp at *; omega
    have HS := Lib.hid hs; clear hs
    by_cases hm : 128 ≤ m
    · go_wp2_with (at_builtin; refine wpList_append_own _ rfl _ _ 59 rfl w.heap.size 5 i0 (.int .u8 0) 1 1 Try.underlying59 hi hz0 hz1 hz2 rfl (by decide) _ _ _ rfl (hown.alloc _) ⟨wr.heap.size, 0, none⟩ 1 1 [.int .u8 (128 + (m : Int) % 128)] rfl rfl ?c1 ?c2 ?c3 ?c4 ?c5 ?_)
      case c1 => exact one_new _ _ _
      case c2 => simp [Value.oneCell']
      case c3 => simp [maxLen]; omega
      case c4 => omega
      case c5 => have := hbel.size; simp; omega
      intro v' w1 hown1 hgrow _
      have hb1 : Below w.heap.size w w1 := (hbel.alloc hbel.size _).grown hgrow (by have := hbel.size; simp; omega) (own_block_le hown)
      have HO : Hid (w1.ownsRow w.heap.size 5 1 v' (l ++ [UInt8.ofNat (m % 128 + 128)]).length (bytesV (l ++ [UInt8.ofNat (m % 128 + 128)]))) := Lib.hid (by rw [bytesV_append, List.length_append]; simp only [bytesV, List.map_cons, List.map_nil, List.length_singleton, u8_mod, Int.add_comm _ 128]; exact hown1)
      clear hown hbel hgrow hown1
      go_wp2
      go_roundw
      case rel => exact ⟨m / 128, _, by go_num, HO.out, by have := HS.out; rw [Va.put_big hm] at this; simpa using this, hb1, by omega⟩
      case measure => simp [intOf]; omega
    · go_wp2_with (at_builtin; refine wpList_append_own _ rfl _ _ 59 rfl w.heap.size 5 i0 (.int .u8 0) 1 1 Try.underlying59 hi hz0 hz1 hz2 rfl (by decide) _ _ _ rfl (hown.alloc _) ⟨wr.heap.size, 0, none⟩ 1 1 [.int .u8 (m : Int)] rfl rfl ?c1 ?c2 ?c3 ?c4 ?c5 ?_)
      case c1 => exact one_new _ _ _
      case c2 => simp [Value.oneCell']
      case c3 => simp [maxLen]; omega
      case c4 => omega
      case c5 => have := hbel.size; simp; omega
      intro v' w1 hown1 hgrow _
      have hb1 : Below w.heap.size w w1 := (hbel.alloc hbel.size _).grown hgrow (by have := hbel.size; simp; omega) (own_block_le hown)
      have HO : Hid (w1.ownsRow w.heap.size 5 1 v' (l ++ [UInt8.ofNat m]).length (bytesV (l ++ [UInt8.ofNat m]))) := Lib.hid (by rw [bytesV_append, List.length_append]; simp only [bytesV, List.map_cons, List.map_nil, List.length_singleton, u8_low (show m < 128 by omega)]; exact hown1)
      clear hown hbel hgrow hown1
      have hcv := run_convert_own (P := Try.prog) w1 59 9 5 w.heap.size v' _ HO.out Try.underlying59 Try.underlying5 Try.underlying9
      go_wp2
      go_ret
      refine ⟨?_, hb1⟩
      have := HS.out; rw [Va.put_small (by omega)] at this
      simp [this]
set_option maxRecDepth 100000 in
set_option maxHeartbeats 1000000 in
theorem rput_no (n : Int) (w : World) (h : n < 0 ∨ 4611686018427387904 ≤ n) :
    Calls Try.prog 41 #[.int .i64 n] w fun e w' => e = .returned (.string ⟨#[]⟩) ∧ w = w' := by
  rcases h with h | h
  all_goals
    go_enter Try.func41, Try.ntmps41
    go_wp2
    go_ret
    exact ⟨rfl, rfl⟩
theorem rput_any (n : Int) (w : World) : Calls Try.prog 41 #[.int .i64 n] w fun e w' => e = .returned (.string (Va.pz n)) ∧ Ext w w' := by
  unfold Va.pz
  by_cases h : 0 ≤ n ∧ n < 4611686018427387904
  · rw [if_pos h]; exact rput_yes n w h.1 h.2
  · rw [if_neg h]
    exact (rput_no n w (by omega)).mono fun e w' ⟨he, hw⟩ => ⟨he, hw ▸ Ext.refl _⟩
def Va.unit (k : Nat) : Nat := 128 ^ k
theorem Va.unit_step {k : Nat} (hk : k < 8) : wrap64 ((Va.unit k : Int) * 128) = (Va.unit (k + 1) : Int) := by
  unfold Va.unit
  rcases (by omega : k = 0 ∨ k = 1 ∨ k = 2 ∨ k = 3 ∨ k = 4 ∨ k = 5 ∨ k = 6 ∨ k = 7) with rfl | rfl | rfl | rfl | rfl | rfl | rfl | rfl <;> simp only [Nat.reducePow, Nat.reduceAdd, wrap64] <;> omega
theorem Va.unit_sum {k v c : Nat} (hk : k ≤ 8) (hv : v < 128 ^ k) : wrap64 ((v : Int) + wrap64 ((c : Int) % 128 * (Va.unit k : Int))) = ((v + c % 128 * 128 ^ k : Nat) : Int) := by
  unfold Va.unit
  rcases (by omega : k = 0 ∨ k = 1 ∨ k = 2 ∨ k = 3 ∨ k = 4 ∨ k = 5 ∨ k = 6 ∨ k = 7 ∨ k = 8) with rfl | rfl | rfl | rfl | rfl | rfl | rfl | rfl | rfl <;> simp only [Nat.reducePow, wrap64] at * <;> omega

theorem Va.val_next {s : ByteArray} {a k : Nat} (h : a + k < s.size) : Va.val ((s.data.toList.drop a).take (k + 1)) = Va.val ((s.data.toList.drop a).take k) + s[a + k].toNat % 128 * 128 ^ k := by
  have hl : k < (s.data.toList.drop a).length := by simp; omega
  have e : (s.data.toList.drop a).take (k + 1) = (s.data.toList.drop a).take k ++ [s[a + k]] := by
    rw [List.take_succ_eq_append_getElem hl]
    congr 2
    simp
    rfl
  rw [e, Va.val_snoc, List.length_take, Nat.min_eq_left (by omega)]
theorem Va.val_bound {s : ByteArray} {a k : Nat} (h : a + k ≤ s.size) : Va.val ((s.data.toList.drop a).take k) < 128 ^ k := by
  have := Va.val_lt ((s.data.toList.drop a).take k)
  rwa [List.length_take, Nat.min_eq_left (by simp; omega)] at this

theorem Va.high_mem {s : ByteArray} {a j : Nat} (h : a + j ≤ s.size) (hh : ∀ i (_ : i < j) (hx : a + i < s.size), 128 ≤ s[a + i].toNat) : ∀ c ∈ (s.data.toList.drop a).take j, 128 ≤ c.toNat := by
  intro c hc
  obtain ⟨i, hi⟩ := List.mem_iff_getElem?.1 hc
  rw [List.getElem?_take] at hi
  split at hi
  · rename_i hij
    rw [List.getElem?_drop] at hi
    have hx : a + i < s.size := by omega
    have := hh i hij hx
    rw [List.getElem?_eq_getElem (by simpa using hx)] at hi
    injection hi with hi
    rw [← hi]
    exact this
  · simp at hi
theorem Va.take_sub {l : List UInt8} {i j : Nat} (h : i ≤ j) {c : UInt8} (hc : c ∈ l.take i) : c ∈ l.take j := by
  have : l.take i = (l.take j).take i := by rw [List.take_take, Nat.min_eq_left h]
  rw [this] at hc
  exact List.mem_of_mem_take hc

theorem Va.take_mid_s {s : ByteArray} {a j : Nat} (hlt : a + j < s.size) (hc : s[a + j].toNat < 128) (hh : ∀ i (_ : i < j) (hx : a + i < s.size), 128 ≤ s[a + i].toNat) :
    Va.take (s.data.toList.drop a) = if Va.val ((s.data.toList.drop a).take (j + 1)) < Va.most ∧ Va.put (Va.val ((s.data.toList.drop a).take (j + 1))) = (s.data.toList.drop a).take (j + 1) then (Va.val ((s.data.toList.drop a).take (j + 1)), j + 1, 0) else (0, 0, 11) := by
  have at_ : ∀ i (hx : a + i < s.size), (s.data.toList.drop a)[i]? = some s[a + i] := fun i hx => by
    rw [List.getElem?_drop, List.getElem?_eq_getElem (by simpa using hx)]; rfl
  refine Va.take_mid (at_ j hlt) hc fun i d hi hd => ?_
  rw [at_ i (by omega)] at hd
  injection hd with hd
  rw [← hd]
  exact hh i hi (by omega)
theorem Va.ext_list (s : ByteArray) (a j : Nat) : (s.extract a (a + j + 1)).toList = (s.data.toList.drop a).take (j + 1) := by
  rw [ByteArray.toList_eq, Lib.extract_data, show a + j + 1 - a = j + 1 by omega]
theorem Va.pz_cast {v : Nat} (h : v < Va.most) : Va.pz (v : Int) = Va.puts v := by
  unfold Va.pz; rw [if_pos ⟨by omega, Va.most_int h⟩, Int.toNat_natCast]
theorem Va.pz_yes {s : ByteArray} {a j v : Nat} (h : v < Va.most ∧ Va.put v = (s.data.toList.drop a).take (j + 1)) : ((Va.pz (v : Int)).toList == (s.extract a (a + j + 1)).toList) = true := by
  rw [Va.pz_cast h.1, Va.ext_list, ByteArray.toList_eq, Va.puts_list, h.2]; exact beq_self_eq_true _
theorem Va.pz_nop {s : ByteArray} {a j v : Nat} (hl : a + j + 1 ≤ s.size) (h : ¬ (v < Va.most ∧ Va.put v = (s.data.toList.drop a).take (j + 1))) : ((Va.pz (v : Int)).toList == (s.extract a (a + j + 1)).toList) = false := by
  rw [beq_eq_false_iff_ne, Va.ext_list]
  intro he
  by_cases hv : v < Va.most
  · rw [Va.pz_cast hv, ByteArray.toList_eq, Va.puts_list] at he
    exact h ⟨hv, he⟩
  · have : Va.pz (v : Int) = ⟨#[]⟩ := by unfold Va.pz; rw [if_neg (by unfold Va.most at hv; omega)]
    rw [this, ByteArray.toList_eq] at he
    have := congrArg List.length he
    simp at this
    omega

set_option maxRecDepth 100000 in
set_option maxHeartbeats 1000000 in
theorem rtake_in (s : ByteArray) (a : Nat) (w : World) (hs : s.size ≤ maxLen) (h : a ≤ s.size) :
    Calls Try.prog 35 #[.string s, .int .i64 a] w fun e w' => e = .returned (takeV a (Va.take (s.data.toList.drop a))) ∧ Ext w w' := by
  unfold maxLen at hs
  have hd0 : decide ((a : Int) < 0) = false := by simp
  have hd1 : decide (s.size < a) = false := by simpa using h
  go_enter Try.func35, Try.ntmps35
  go_wp2
  go_loop [7] (fun e => ∃ j : Nat, e = .int .i64 ((a + j : Nat) : Int) ∧ a + j ≤ s.size ∧ ∀ i (hi : i < j) (hx : a + i < s.size), 128 ≤ s[a + i].toNat) (fun e => s.size - (intOf e).toNat)
  case atStart => exact ⟨0, rfl, by omega, fun i hi => by omega⟩
  case round =>
    obtain ⟨j, rfl, hj, hall⟩ := hrel
    have HA := Lib.hid hall; clear hall
    by_cases hlt : a + j < s.size
    · have hb : (s[a + j].toNat : Int) ≤ 255 := by have := s[a + j].toNat_lt; omega
      by_cases hbig : 128 ≤ s[a + j].toNat
      · go_wp2
        go_round
        case rel =>
          refine ⟨j + 1, by go_num, by omega, fun i hi hx => ?_⟩
          by_cases hij : i = j
          · subst hij; exact hbig
          · exact HA.out i (by omega) hx
        case measure => simp [intOf]; omega
      · have hall2 : ∀ c ∈ (s.data.toList.drop a).take j, 128 ≤ c.toNat := Va.high_mem (by omega) HA.out
        by_cases h9 : 9 ≤ j
        · have HT : Hid (Va.take (s.data.toList.drop a) = (0, 0, 11)) := Lib.hid (Va.tk_long 9 0 0 _ rfl (fun c hc => hall2 c (Va.take_sub h9 hc)) (by simp; omega))
          clear hall2
          have hcmp : ((a : Int) + (j : Int) == (s.size : Int)) = false := by simp; omega
          go_wp2
          go_ret3
          rw [HT.out]
          exact ⟨rfl, Ext.refl _⟩
        · clear hall2
          have hj8 : j ≤ 8 := by omega
          have hcmp : ((a : Int) + (j : Int) == (s.size : Int)) = false := by simp; omega
          go_wp2
          go_loop [8, 9, 10] (fun n u i => ∃ k : Nat, k ≤ j + 1 ∧ n = .int .i64 (Va.val ((s.data.toList.drop a).take k) : Nat) ∧ u = .int .i64 (Va.unit (min k j) : Nat) ∧ i = .int .i64 ((a + k : Nat) : Int)) (fun _ _ i => s.size + 1 - (intOf i).toNat)
          case atStart => exact ⟨0, by omega, rfl, rfl, rfl⟩
          case round =>
            obtain ⟨k, hk, rfl, rfl, rfl⟩ := hrel
            by_cases hkj : k ≤ j
            · have hkl : a + k < s.size := by omega
              have hbk : (s[a + k].toNat : Int) ≤ 255 := by have := s[a + k].toNat_lt; omega
              have hmin : min k j = k := by omega
              rw [hmin]
              clear hmin
              have HV := Lib.hid (Va.val_next hkl)
              have HB := Lib.hid (Va.val_bound (s := s) (a := a) (k := k) (by omega))
              by_cases hkj2 : k < j
              · go_wp2
                go_round
                case rel => exact ⟨k + 1, by omega, by rw [HV.out]; exact congrArg (Value.int .i64) (Va.unit_sum (by omega) HB.out), by rw [show min (k + 1) j = k + 1 by omega]; exact congrArg (Value.int .i64) (Va.unit_step (by omega)), by go_num⟩
                case measure => simp [intOf]; omega
              · go_wp2
                go_round
                case rel => exact ⟨k + 1, by omega, by rw [HV.out]; exact congrArg (Value.int .i64) (Va.unit_sum (by omega) HB.out), by rw [show min (k + 1) j = k by omega], by go_num⟩
                case measure => simp [intOf]; omega
            · obtain rfl : k = j + 1 := by omega
              have hn1 : ¬ j + 1 ≤ j := by omega
              have hlj : a + j + 1 ≤ s.size := by omega
              have HM := Lib.hid (Va.take_mid_s hlt (by omega) HA.out)
              generalize Va.val ((s.data.toList.drop a).take (j + 1)) = v at *
              clear hkj hk HA hbig hb
              have hdv : decide ((v : Int) < 0) = false := by simp
              have hwr : IntKind.i64.wrap ((a : Int) + (j : Int) + 1) = (a : Int) + (j : Int) + 1 := IntWalk.i64_in _ (by omega)
              have hb1 : (0 ≤ (a : Int) + (j : Int) + 1 ∧ (a : Int) + (j : Int) + 1 ≤ (s.size : Int)) = True := eq_true (by omega)
              have hb2 : ((a : Int) ≤ (a : Int) + (j : Int) + 1) = True := eq_true (by omega)
              have hb3 : ((a : Int) + (j : Int) + 1).toNat = a + j + 1 := by omega
              by_cases hq : v < Va.most ∧ Va.put v = (s.data.toList.drop a).take (j + 1)
              · have hqq : ((Va.pz (v : Int)).toList == (s.extract a (a + j + 1)).toList) = true := Va.pz_yes hq
                have HQ := Lib.hid hq; clear hq
                go_wp2_with fail
                refine region_all (fun v => Ext w v) (by kernel_rfl) (Ext.drew (Ext.refl _)) ?_
                refine all_take (i := 0) (v := ?_) rfl (by kernel_rfl) (by kernel_rfl) (by kernel_rfl) (fun _ _ _ h => h) (Tame.yes (by kernel_rfl) fun w hS => ?_) ?_
                rotate_left 1
                · skip
                  go_simp
                  try simp only [hdv]
                  refine gives_mk ?_ hS
                  with_reducible rfl
                refine all_take (i := 1) (v := ?_) rfl (by kernel_rfl) (by kernel_rfl) (by kernel_rfl) (fun _ _ _ h => h) (Tame.yes (by kernel_rfl) fun w hS => ?_) ?_
                rotate_left 1
                · skip
                  go_simp
                  try simp only [hdv]
                  refine gives_mk ?_ hS
                  with_reducible rfl
                refine all_take (i := 2) (v := ?_) rfl (by kernel_rfl) (by kernel_rfl) (by kernel_rfl) (fun _ _ _ h => h) (Tame.yes (by kernel_rfl) fun w hS => ?_) ?_
                rotate_left 1
                · skip
                  go_simp
                  try simp only [hdv]
                  refine gives_mk ?_ hS
                  with_reducible rfl
                refine all_take (i := 3) (v := ?_) rfl (by kernel_rfl) (by kernel_rfl) (by kernel_rfl) (fun _ _ _ h => h) (Tame.yes (by kernel_rfl) fun w hS => ?_) ?_
                rotate_left 1
                · skip
                  go_simp
                  try simp only [hdv]
                  refine gives_mk ?_ hS
                  with_reducible rfl
                refine all_take (i := 4) (v := .string (Va.pz (v : Int))) rfl (by kernel_rfl) (by kernel_rfl) (by kernel_rfl) (fun _ _ _ h => h) (Tame.yes (by kernel_rfl) fun w hS => ?_) ?_
                · go_simp
                  refine gives_call ((rput_any _ _).mono ?_)
                  exact fun e w2 ⟨he, hx⟩ => ⟨he, hS.trans hx⟩
                refine all_take (i := 5) (v := ?_) rfl (by kernel_rfl) (by kernel_rfl) (by kernel_rfl) (fun _ _ _ h => h) (Tame.yes (by kernel_rfl) fun w hS => ?_) ?_
                rotate_left 1
                · skip
                  go_simp
                  try simp only [hwr]
                  refine gives_mk ?_ hS
                  with_reducible rfl
                refine all_take (i := 6) (v := ?_) rfl (by kernel_rfl) (by kernel_rfl) (by kernel_rfl) (fun _ _ _ h => h) (Tame.yes (by kernel_rfl) fun w hS => ?_) ?_
                rotate_left 1
                · skip
                  go_simp
                  try simp only [hwr]
                  refine gives_mk ?_ hS
                  with_reducible rfl
                refine all_take (i := 7) (v := ?_) rfl (by kernel_rfl) (by kernel_rfl) (by kernel_rfl) (fun _ _ _ h => h) (Tame.yes (by kernel_rfl) fun w hS => ?_) ?_
                rotate_left 1
                · skip
                  go_simp
                  try simp only [hwr]
                  refine gives_mk ?_ hS
                  with_reducible rfl
                refine all_take (i := 8) (v := ?_) rfl (by kernel_rfl) (by kernel_rfl) (by kernel_rfl) (fun _ _ _ h => h) (Tame.yes (by kernel_rfl) fun w hS => ?_) ?_
                rotate_left 1
                · skip
                  go_simp
                  try simp only [hwr]
                  refine gives_mk ?_ hS
                  with_reducible rfl
                refine all_take (i := 9) (v := ?_) rfl (by kernel_rfl) (by kernel_rfl) (by kernel_rfl) (fun _ _ _ h => h) (Tame.yes (by kernel_rfl) fun w hS => ?_) ?_
                rotate_left 1
                · skip
                  go_simp
                  try simp only [hwr, hb1, hb2, hb3, ↓reduceIte]
                  refine gives_mk ?_ hS
                  with_reducible rfl
                refine all_take (i := 10) (v := ?_) rfl (by kernel_rfl) (by kernel_rfl) (by kernel_rfl) (fun _ _ _ h => h) (Tame.yes (by kernel_rfl) fun w hS => ?_) ?_
                rotate_left 1
                · skip
                  go_simp
                  try simp only [hqq]
                  refine gives_mk ?_ hS
                  with_reducible rfl
                refine all_take (i := 11) (v := ?_) rfl (by kernel_rfl) (by kernel_rfl) (by kernel_rfl) (fun _ _ _ h => h) (Tame.yes (by kernel_rfl) fun w hS => ?_) ?_
                rotate_left 1
                · skip
                  go_simp
                  try simp only [hqq]
                  refine gives_mk ?_ hS
                  with_reducible rfl
                refine all_done ?_ ?_ _
                · kernel_rfl
                intro w2 hw2
                go_simp
                clear hwr hb1 hb2 hb3
                go_wp2_with fail
                go_ret3
                rw [HM.out, if_pos HQ.out]
                exact ⟨(tup3 (a' := (v : Int)) (b' := ((a + (j + 1) : Nat) : Int)) (c' := 0) rfl (by omega) rfl).trans rfl, hw2⟩
              · have hqq : ((Va.pz (v : Int)).toList == (s.extract a (a + j + 1)).toList) = false := Va.pz_nop hlj hq
                have HQ := Lib.hid hq; clear hq
                go_wp2_with fail
                refine region_all (fun v => Ext w v) (by kernel_rfl) (Ext.drew (Ext.refl _)) ?_
                refine all_take (i := 0) (v := ?_) rfl (by kernel_rfl) (by kernel_rfl) (by kernel_rfl) (fun _ _ _ h => h) (Tame.yes (by kernel_rfl) fun w hS => ?_) ?_
                rotate_left 1
                · skip
                  go_simp
                  try simp only [hdv]
                  refine gives_mk ?_ hS
                  with_reducible rfl
                refine all_take (i := 1) (v := ?_) rfl (by kernel_rfl) (by kernel_rfl) (by kernel_rfl) (fun _ _ _ h => h) (Tame.yes (by kernel_rfl) fun w hS => ?_) ?_
                rotate_left 1
                · skip
                  go_simp
                  try simp only [hdv]
                  refine gives_mk ?_ hS
                  with_reducible rfl
                refine all_take (i := 2) (v := ?_) rfl (by kernel_rfl) (by kernel_rfl) (by kernel_rfl) (fun _ _ _ h => h) (Tame.yes (by kernel_rfl) fun w hS => ?_) ?_
                rotate_left 1
                · skip
                  go_simp
                  try simp only [hdv]
                  refine gives_mk ?_ hS
                  with_reducible rfl
                refine all_take (i := 3) (v := ?_) rfl (by kernel_rfl) (by kernel_rfl) (by kernel_rfl) (fun _ _ _ h => h) (Tame.yes (by kernel_rfl) fun w hS => ?_) ?_
                rotate_left 1
                · skip
                  go_simp
                  try simp only [hdv]
                  refine gives_mk ?_ hS
                  with_reducible rfl
                refine all_take (i := 4) (v := .string (Va.pz (v : Int))) rfl (by kernel_rfl) (by kernel_rfl) (by kernel_rfl) (fun _ _ _ h => h) (Tame.yes (by kernel_rfl) fun w hS => ?_) ?_
                · go_simp
                  refine gives_call ((rput_any _ _).mono ?_)
                  exact fun e w2 ⟨he, hx⟩ => ⟨he, hS.trans hx⟩
                refine all_take (i := 5) (v := ?_) rfl (by kernel_rfl) (by kernel_rfl) (by kernel_rfl) (fun _ _ _ h => h) (Tame.yes (by kernel_rfl) fun w hS => ?_) ?_
                rotate_left 1
                · skip
                  go_simp
                  try simp only [hwr]
                  refine gives_mk ?_ hS
                  with_reducible rfl
                refine all_take (i := 6) (v := ?_) rfl (by kernel_rfl) (by kernel_rfl) (by kernel_rfl) (fun _ _ _ h => h) (Tame.yes (by kernel_rfl) fun w hS => ?_) ?_
                rotate_left 1
                · skip
                  go_simp
                  try simp only [hwr]
                  refine gives_mk ?_ hS
                  with_reducible rfl
                refine all_take (i := 7) (v := ?_) rfl (by kernel_rfl) (by kernel_rfl) (by kernel_rfl) (fun _ _ _ h => h) (Tame.yes (by kernel_rfl) fun w hS => ?_) ?_
                rotate_left 1
                · skip
                  go_simp
                  try simp only [hwr]
                  refine gives_mk ?_ hS
                  with_reducible rfl
                refine all_take (i := 8) (v := ?_) rfl (by kernel_rfl) (by kernel_rfl) (by kernel_rfl) (fun _ _ _ h => h) (Tame.yes (by kernel_rfl) fun w hS => ?_) ?_
                rotate_left 1
                · skip
                  go_simp
                  try simp only [hwr]
                  refine gives_mk ?_ hS
                  with_reducible rfl
                refine all_take (i := 9) (v := ?_) rfl (by kernel_rfl) (by kernel_rfl) (by kernel_rfl) (fun _ _ _ h => h) (Tame.yes (by kernel_rfl) fun w hS => ?_) ?_
                rotate_left 1
                · skip
                  go_simp
                  try simp only [hwr, hb1, hb2, hb3, ↓reduceIte]
                  refine gives_mk ?_ hS
                  with_reducible rfl
                refine all_take (i := 10) (v := ?_) rfl (by kernel_rfl) (by kernel_rfl) (by kernel_rfl) (fun _ _ _ h => h) (Tame.yes (by kernel_rfl) fun w hS => ?_) ?_
                rotate_left 1
                · skip
                  go_simp
                  try simp only [hqq]
                  refine gives_mk ?_ hS
                  with_reducible rfl
                refine all_take (i := 11) (v := ?_) rfl (by kernel_rfl) (by kernel_rfl) (by kernel_rfl) (fun _ _ _ h => h) (Tame.yes (by kernel_rfl) fun w hS => ?_) ?_
                rotate_left 1
                · skip
                  go_simp
                  try simp only [hqq]
                  refine gives_mk ?_ hS
                  with_reducible rfl
                refine all_done ?_ ?_ _
                · kernel_rfl
                intro w2 hw2
                go_simp
                clear hwr hb1 hb2 hb3
                go_wp2_with fail
                go_ret3
                rw [HM.out, if_neg HQ.out]
                exact ⟨rfl, hw2⟩
    · have hj2 : a + j = s.size := by omega
      have hall2 : ∀ c ∈ (s.data.toList.drop a).take j, 128 ≤ c.toNat := Va.high_mem (by omega) HA.out
      have HJ := Lib.hid hj2
      have hcmp : ((a : Int) + (j : Int) == (s.size : Int)) = true := by simp; omega
      by_cases h9 : j < 9
      · have HT : Hid (Va.take (s.data.toList.drop a) = (0, 0, 10)) := Lib.hid (Va.tk_high 9 0 0 _ rfl (fun c hc => hall2 c (by rw [List.take_of_length_le (by simp; omega)]; exact hc)) (by simp; omega))
        clear hall2 hj2
        go_wp2
        go_ret3
        rw [HT.out]
        exact ⟨rfl, Ext.refl _⟩
      · have HT : Hid (Va.take (s.data.toList.drop a) = (0, 0, 11)) := Lib.hid (Va.tk_long 9 0 0 _ rfl (fun c hc => hall2 c (Va.take_sub (by omega) hc)) (by simp; omega))
        clear hall2 hj2
        go_wp2
        go_ret3
        rw [HT.out]
        exact ⟨rfl, Ext.refl _⟩

set_option maxRecDepth 100000 in
set_option maxHeartbeats 1000000 in
theorem rtake_arg (s : ByteArray) (a : Int) (w : World) (h : a < 0 ∨ (s.size : Int) < a) :
    Calls Try.prog 35 #[.string s, .int .i64 a] w fun e w' => e = .returned (.tuple #[.int .i64 0, .int .i64 0, .int .i64 1]) ∧ w = w' := by
  by_cases h0 : a < 0
  · go_enter Try.func35, Try.ntmps35
    go_wp2
    go_ret3
    exact ⟨rfl, rfl⟩
  · have h1 : (s.size : Int) < a := by omega
    go_enter Try.func35, Try.ntmps35
    go_wp2
    go_ret3
    exact ⟨rfl, rfl⟩
theorem rtake_all (s : ByteArray) (a : Int) (w : World) (hs : s.size ≤ maxLen) :
    Calls Try.prog 35 #[.string s, .int .i64 a] w fun e w' => e = .returned (.tuple #[.int .i64 (Va.tx s a), .int .i64 (Va.ty s a), .int .i64 (Va.tz s a)]) ∧ Ext w w' := by
  unfold Va.tx Va.ty Va.tz
  by_cases h : a < 0 ∨ (s.size : Int) < a
  · rw [if_pos h, if_pos h, if_pos h]
    exact (rtake_arg s a w h).mono fun e w' ⟨he, hw⟩ => ⟨he, hw ▸ Ext.refl _⟩
  · rw [if_neg h, if_neg h, if_neg h]
    obtain ⟨k, rfl⟩ := Int.eq_ofNat_of_zero_le (show 0 ≤ a by omega)
    rw [Int.toNat_natCast]
    exact rtake_in s k w hs (by omega)


end Go.Proofs.Ythkogcgdikgkaaa
