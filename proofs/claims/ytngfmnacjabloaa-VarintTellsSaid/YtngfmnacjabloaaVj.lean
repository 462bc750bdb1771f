/-
  The document's answer Take, as a contract; and the walk of the statement VarintTells.
-/
import Derived.Test.YtngfmnacjabloaaVi
namespace Go.Proofs.Ytngfmnacjabloaa
open Go.RowKit

def Va.unit (k : Nat) : Nat := 128 ^ k
theorem Va.unit_step {k : Nat} (hk : k < 8) : wrap64 ((Va.unit k : Int) * 128) = (Va.unit (k + 1) : Int) := by
  unfold Va.unit
  rcases (by omega : k = 0 ∨ k = 1 ∨ k = 2 ∨ k = 3 ∨ k = 4 ∨ k = 5 ∨ k = 6 ∨ k = 7) with rfl | rfl | rfl | rfl | rfl | rfl | rfl | rfl <;> simp only [Nat.reducePow, Nat.reduceAdd, wrap64] <;> omega
theorem Va.unit_sum {k v c : Nat} (hk : k ≤ 8) (hv : v < 128 ^ k) : wrap64 ((v : Int) + wrap64 ((c : Int) % 128 * (Va.unit k : Int))) = ((v + c % 128 * 128 ^ k : Nat) : Int) := by
  unfold Va.unit
  rcases (by omega : k = 0 ∨ k = 1 ∨ k = 2 ∨ k = 3 ∨ k = 4 ∨ k = 5 ∨ k = 6 ∨ k = 7 ∨ k = 8) with rfl | rfl | rfl | rfl | rfl | rfl | rfl | rfl | rfl <;> simp only [Nat.reducePow, wrap64] at * <;> omega

theorem Va.val_next {s : ByteArray} {a k : Nat} (h : a + k < s.size) : Va.val ((s.data.toList.drop a).take (k + 1)) = Va.val ((s.data.toList.drop a).take k) + s[a + k].toNat % 128 * 128 ^ k := by
  have hl : k < (s.data.toList.drop a).length := by simp; omega
  have e : (s.data.toList.drop a).take (k + 1) = (s.data.toList.drop a).take k ++ [s[a + k]] := by
    rw [List.take_succ_eq_append_getElem hl]
    congr 2
    simp
    rfl
  rw [e, Va.val_snoc, List.length_take, Nat.min_eq_left (by omega)]
theorem Va.val_bound {s : ByteArray} {a k : Nat} (h : a + k ≤ s.size) : Va.val ((s.data.toList.drop a).take k) < 128 ^ k := by
  have := Va.val_lt ((s.data.toList.drop a).take k)
  rwa [List.length_take, Nat.min_eq_left (by simp; omega)] at this

theorem Va.high_mem {s : ByteArray} {a j : Nat} (h : a + j ≤ s.size) (hh : ∀ i (_ : i < j) (hx : a + i < s.size), 128 ≤ s[a + i].toNat) : ∀ c ∈ (s.data.toList.drop a).take j, 128 ≤ c.toNat := by
  intro c hc
  obtain ⟨i, hi⟩ := List.mem_iff_getElem?.1 hc
  rw [List.getElem?_take] at hi
  split at hi
  · rename_i hij
    rw [List.getElem?_drop] at hi
    have hx : a + i < s.size := by omega
    have := hh i hij hx
    rw [List.getElem?_eq_getElem (by simpa using hx)] at hi
    injection hi with hi
    rw [← hi]
    exact this
  · simp at hi
theorem Va.take_sub {l : List UInt8} {i j : Nat} (h : i ≤ j) {c : UInt8} (hc : c ∈ l.take i) : c ∈ l.take j := by
  have : l.take i = (l.take j).take i := by rw [List.take_take, Nat.min_eq_left h]
  rw [this] at hc
  exact List.mem_of_mem_take hc

theorem Va.take_mid_s {s : ByteArray} {a j : Nat} (hlt : a + j < s.size) (hc : s[a + j].toNat < 128) (hh : ∀ i (_ : i < j) (hx : a + i < s.size), 128 ≤ s[a + i].toNat) :
    Va.take (s.data.toList.drop a) = if Va.val ((s.data.toList.drop a).take (j + 1)) < Va.most ∧ Va.put (Va.val ((s.data.toList.drop a).take (j + 1))) = (s.data.toList.drop a).take (j + 1) then (Va.val ((s.data.toList.drop a).take (j + 1)), j + 1, 0) else (0, 0, 11) := by
  have at_ : ∀ i (hx : a + i < s.size), (s.data.toList.drop a)[i]? = some s[a + i] := fun i hx => by
    rw [List.getElem?_drop, List.getElem?_eq_getElem (by simpa using hx)]; rfl
  refine Va.take_mid (at_ j hlt) hc fun i d hi hd => ?_
  rw [at_ i (by omega)] at hd
  injection hd with hd
  rw [← hd]
  exact hh i hi (by omega)
theorem Va.ext_list (s : ByteArray) (a j : Nat) : (s.extract a (a + j + 1)).toList = (s.data.toList.drop a).take (j + 1) := by
  rw [ByteArray.toList_eq, Lib.extract_data, show a + j + 1 - a = j + 1 by omega]
theorem Va.pz_cast {v : Nat} (h : v < Va.most) : Va.pz (v : Int) = Va.puts v := by
  unfold Va.pz; rw [if_pos ⟨by omega, Va.most_int h⟩, Int.toNat_natCast]
theorem Va.pz_yes {s : ByteArray} {a j v : Nat} (h : v < Va.most ∧ Va.put v = (s.data.toList.drop a).take (j + 1)) : ((Va.pz (v : Int)).toList == (s.extract a (a + j + 1)).toList) = true := by
  rw [Va.pz_cast h.1, Va.ext_list, ByteArray.toList_eq, Va.puts_list, h.2]; exact beq_self_eq_true _
theorem Va.pz_nop {s : ByteArray} {a j v : Nat} (hl : a + j + 1 ≤ s.size) (h : ¬ (v < Va.most ∧ Va.put v = (s.data.toList.drop a).take (j + 1))) : ((Va.pz (v : Int)).toList == (s.extract a (a + j + 1)).toList) = false := by
  rw [beq_eq_false_iff_ne, Va.ext_list]
  intro he
  by_cases hv : v < Va.most
  · rw [Va.pz_cast hv, ByteArray.toList_eq, Va.puts_list] at he
    exact h ⟨hv, he⟩
  · have : Va.pz (v : Int) = ⟨#[]⟩ := by unfold Va.pz; rw [if_neg (by unfold Va.most at hv; omega)]
    rw [this, ByteArray.toList_eq] at he
    have := congrArg List.length he
    simp at this
    omega

set_option maxRecDepth 100000 in
set_option maxHeartbeats 4000000 in
theorem rtake_in (s : ByteArray) (a : Nat) (w : World) (hs : s.size ≤ maxLen) (h : a ≤ s.size) :
    Calls Try.prog 10 #[.string s, .int .i64 a] w fun e w' => e = .returned (takeV a (Va.take (s.data.toList.drop a))) ∧ Ext w w' := by
  unfold maxLen at hs
  have hd0 : decide ((a : Int) < 0) = false := by simp
  have hd1 : decide (s.size < a) = false := by simpa using h
  go_enter Try.func10, Try.ntmps10
  go_wp2
  go_loop [7] (fun e => ∃ j : Nat, e = .int .i64 ((a + j : Nat) : Int) ∧ a + j ≤ s.size ∧ ∀ i (hi : i < j) (hx : a + i < s.size), 128 ≤ s[a + i].toNat) (fun e => s.size - (intOf e).toNat)
  case atStart => exact ⟨0, rfl, by omega, fun i hi => by omega⟩
  case round =>
    obtain ⟨j, rfl, hj, hall⟩ := hrel
    have HA := Lib.hid hall; clear hall
    by_cases hlt : a + j < s.size
    · have hb : (s[a + j].toNat : Int) ≤ 255 := by have := s[a + j].toNat_lt; omega
      by_cases hbig : 128 ≤ s[a + j].toNat
      · go_wp2
        go_round
        case rel =>
          refine ⟨j + 1, by go_num, by omega, fun i hi hx => ?_⟩
          by_cases hij : i = j
          · subst hij; exact hbig
          · exact HA.out i (by omega) hx
        case measure => simp [intOf]; omega
      · have hall2 : ∀ c ∈ (s.data.toList.drop a).take j, 128 ≤ c.toNat := Va.high_mem (by omega) HA.out
        by_cases h9 : 9 ≤ j
        · have HT : Hid (Va.take (s.data.toList.drop a) = (0, 0, 11)) := Lib.hid (Va.tk_long 9 0 0 _ rfl (fun c hc => hall2 c (Va.take_sub h9 hc)) (by simp; omega))
          clear hall2
          have hcmp : ((a : Int) + (j : Int) == (s.size : Int)) = false := by simp; omega
          go_wp2
          go_ret3
          rw [HT.out]
          exact ⟨rfl, Ext.refl _⟩
        · clear hall2
          have hj8 : j ≤ 8 := by omega
          have hcmp : ((a : Int) + (j : Int) == (s.size : Int)) = false := by simp; omega
          go_wp2
          go_loop [8, 9, 10] (fun n u i => ∃ k : Nat, k ≤ j + 1 ∧ n = .int .i64 (Va.val ((s.data.toList.drop a).take k) : Nat) ∧ u = .int .i64 (Va.unit (min k j) : Nat) ∧ i = .int .i64 ((a + k : Nat) : Int)) (fun _ _ i => s.size + 1 - (intOf i).toNat)
          case atStart => exact ⟨0, by omega, rfl, rfl, rfl⟩
          case round =>
            obtain ⟨k, hk, rfl, rfl, rfl⟩ := hrel
            by_cases hkj : k ≤ j
            · have hkl : a + k < s.size := by omega
              have hbk : (s[a + k].toNat : Int) ≤ 255 := by have := s[a + k].toNat_lt; omega
              have hmin : min k j = k := by omega
              rw [hmin]
              clear hmin
              have HV := Lib.hid (Va.val_next hkl)
              have HB := Lib.hid (Va.val_bound (s := s) (a := a) (k := k) (by omega))
              by_cases hkj2 : k < j
              · go_wp2
                go_round
                case rel => exact ⟨k + 1, by omega, by rw [HV.out]; exact congrArg (Value.int .i64) (Va.unit_sum (by omega) HB.out), by rw [show min (k + 1) j = k + 1 by omega]; exact congrArg (Value.int .i64) (Va.unit_step (by omega)), by go_num⟩
                case measure => simp [intOf]; omega
              · go_wp2
                go_round
                case rel => exact ⟨k + 1, by omega, by rw [HV.out]; exact congrArg (Value.int .i64) (Va.unit_sum (by omega) HB.out), by rw [show min (k + 1) j = k by omega], by go_num⟩
                case measure => simp [intOf]; omega
            · obtain rfl : k = j + 1 := by omega
              have hn1 : ¬ j + 1 ≤ j := by omega
              have hlj : a + j + 1 ≤ s.size := by omega
              have HM := Lib.hid (Va.take_mid_s hlt (by omega) HA.out)
              generalize Va.val ((s.data.toList.drop a).take (j + 1)) = v at *
              clear hkj hk HA hbig hb
              have hdv : decide ((v : Int) < 0) = false := by simp
              have hwr : IntKind.i64.wrap ((a : Int) + (j : Int) + 1) = (a : Int) + (j : Int) + 1 := IntWalk.i64_in _ (by omega)
              have hb1 : (0 ≤ (a : Int) + (j : Int) + 1 ∧ (a : Int) + (j : Int) + 1 ≤ (s.size : Int)) = True := eq_true (by omega)
              have hb2 : ((a : Int) ≤ (a : Int) + (j : Int) + 1) = True := eq_true (by omega)
              have hb3 : ((a : Int) + (j : Int) + 1).toNat = a + j + 1 := by omega
              by_cases hq : v < Va.most ∧ Va.put v = (s.data.toList.drop a).take (j + 1)
              · have hqq : ((Va.pz (v : Int)).toList == (s.extract a (a + j + 1)).toList) = true := Va.pz_yes hq
                have HQ := Lib.hid hq; clear hq
                go_wp2_with fail
                refine region_all (fun v => Ext w v) (by kernel_rfl) (Ext.drew (Ext.refl _)) ?_
                refine all_take (i := 0) (v := ?_) rfl (by kernel_rfl) (by kernel_rfl) (by kernel_rfl) (fun _ _ _ h => h) (Tame.yes (by kernel_rfl) fun w hS => ?_) ?_
                rotate_left 1
                · go_simp
                  try simp only [hdv]
                  refine gives_mk ?_ hS
                  with_reducible rfl
                refine all_take (i := 1) (v := ?_) rfl (by kernel_rfl) (by kernel_rfl) (by kernel_rfl) (fun _ _ _ h => h) (Tame.yes (by kernel_rfl) fun w hS => ?_) ?_
                rotate_left 1
                · go_simp
                  try simp only [hdv]
                  refine gives_mk ?_ hS
                  with_reducible rfl
                refine all_take (i := 2) (v := ?_) rfl (by kernel_rfl) (by kernel_rfl) (by kernel_rfl) (fun _ _ _ h => h) (Tame.yes (by kernel_rfl) fun w hS => ?_) ?_
                rotate_left 1
                · go_simp
                  try simp only [hdv]
                  refine gives_mk ?_ hS
                  with_reducible rfl
                refine all_take (i := 3) (v := ?_) rfl (by kernel_rfl) (by kernel_rfl) (by kernel_rfl) (fun _ _ _ h => h) (Tame.yes (by kernel_rfl) fun w hS => ?_) ?_
                rotate_left 1
                · go_simp
                  try simp only [hdv]
                  refine gives_mk ?_ hS
                  with_reducible rfl
                refine all_take (i := 4) (v := .string (Va.pz (v : Int))) rfl (by kernel_rfl) (by kernel_rfl) (by kernel_rfl) (fun _ _ _ h => h) (Tame.yes (by kernel_rfl) fun w hS => ?_) ?_
                · go_simp
                  refine gives_call ((rput_any _ _).mono ?_)
                  exact fun e w2 ⟨he, hx⟩ => ⟨he, hS.trans hx⟩
                refine all_take (i := 5) (v := ?_) rfl (by kernel_rfl) (by kernel_rfl) (by kernel_rfl) (fun _ _ _ h => h) (Tame.yes (by kernel_rfl) fun w hS => ?_) ?_
                rotate_left 1
                · go_simp
                  try simp only [hwr]
                  refine gives_mk ?_ hS
                  with_reducible rfl
                refine all_take (i := 6) (v := ?_) rfl (by kernel_rfl) (by kernel_rfl) (by kernel_rfl) (fun _ _ _ h => h) (Tame.yes (by kernel_rfl) fun w hS => ?_) ?_
                rotate_left 1
                · go_simp
                  try simp only [hwr]
                  refine gives_mk ?_ hS
                  with_reducible rfl
                refine all_take (i := 7) (v := ?_) rfl (by kernel_rfl) (by kernel_rfl) (by kernel_rfl) (fun _ _ _ h => h) (Tame.yes (by kernel_rfl) fun w hS => ?_) ?_
                rotate_left 1
                · go_simp
                  try simp only [hwr]
                  refine gives_mk ?_ hS
                  with_reducible rfl
                refine all_take (i := 8) (v := ?_) rfl (by kernel_rfl) (by kernel_rfl) (by kernel_rfl) (fun _ _ _ h => h) (Tame.yes (by kernel_rfl) fun w hS => ?_) ?_
                rotate_left 1
                · go_simp
                  try simp only [hwr]
                  refine gives_mk ?_ hS
                  with_reducible rfl
                refine all_take (i := 9) (v := ?_) rfl (by kernel_rfl) (by kernel_rfl) (by kernel_rfl) (fun _ _ _ h => h) (Tame.yes (by kernel_rfl) fun w hS => ?_) ?_
                rotate_left 1
                · go_simp
                  try simp only [hwr, hb1, hb2, hb3, ↓reduceIte]
                  refine gives_mk ?_ hS
                  with_reducible rfl
                refine all_take (i := 10) (v := ?_) rfl (by kernel_rfl) (by kernel_rfl) (by kernel_rfl) (fun _ _ _ h => h) (Tame.yes (by kernel_rfl) fun w hS => ?_) ?_
                rotate_left 1
                · go_simp
                  try simp only [hqq]
                  refine gives_mk ?_ hS
                  with_reducible rfl
                refine all_take (i := 11) (v := ?_) rfl (by kernel_rfl) (by kernel_rfl) (by kernel_rfl) (fun _ _ _ h => h) (Tame.yes (by kernel_rfl) fun w hS => ?_) ?_
                rotate_left 1
                · go_simp
                  try simp only [hqq]
                  refine gives_mk ?_ hS
                  with_reducible rfl
                refine all_done ?_ ?_ _
                · kernel_rfl
                intro w2 hw2
                go_simp
                clear hwr hb1 hb2 hb3
                go_wp2_with fail
                go_ret3
                rw [HM.out, if_pos HQ.out]
                exact ⟨(tup3 (a' := (v : Int)) (b' := ((a + (j + 1) : Nat) : Int)) (c' := 0) rfl (by omega) rfl).trans rfl, hw2⟩
              · have hqq : ((Va.pz (v : Int)).toList == (s.extract a (a + j + 1)).toList) = false := Va.pz_nop hlj hq
                have HQ := Lib.hid hq; clear hq
                go_wp2_with fail
                refine region_all (fun v => Ext w v) (by kernel_rfl) (Ext.drew (Ext.refl _)) ?_
                refine all_take (i := 0) (v := ?_) rfl (by kernel_rfl) (by kernel_rfl) (by kernel_rfl) (fun _ _ _ h => h) (Tame.yes (by kernel_rfl) fun w hS => ?_) ?_
                rotate_left 1
                · go_simp
                  try simp only [hdv]
                  refine gives_mk ?_ hS
                  with_reducible rfl
                refine all_take (i := 1) (v := ?_) rfl (by kernel_rfl) (by kernel_rfl) (by kernel_rfl) (fun _ _ _ h => h) (Tame.yes (by kernel_rfl) fun w hS => ?_) ?_
                rotate_left 1
                · go_simp
                  try simp only [hdv]
                  refine gives_mk ?_ hS
                  with_reducible rfl
                refine all_take (i := 2) (v := ?_) rfl (by kernel_rfl) (by kernel_rfl) (by kernel_rfl) (fun _ _ _ h => h) (Tame.yes (by kernel_rfl) fun w hS => ?_) ?_
                rotate_left 1
                · go_simp
                  try simp only [hdv]
                  refine gives_mk ?_ hS
                  with_reducible rfl
                refine all_take (i := 3) (v := ?_) rfl (by kernel_rfl) (by kernel_rfl) (by kernel_rfl) (fun _ _ _ h => h) (Tame.yes (by kernel_rfl) fun w hS => ?_) ?_
                rotate_left 1
                · go_simp
                  try simp only [hdv]
                  refine gives_mk ?_ hS
                  with_reducible rfl
                refine all_take (i := 4) (v := .string (Va.pz (v : Int))) rfl (by kernel_rfl) (by kernel_rfl) (by kernel_rfl) (fun _ _ _ h => h) (Tame.yes (by kernel_rfl) fun w hS => ?_) ?_
                · go_simp
                  refine gives_call ((rput_any _ _).mono ?_)
                  exact fun e w2 ⟨he, hx⟩ => ⟨he, hS.trans hx⟩
                refine all_take (i := 5) (v := ?_) rfl (by kernel_rfl) (by kernel_rfl) (by kernel_rfl) (fun _ _ _ h => h) (Tame.yes (by kernel_rfl) fun w hS => ?_) ?_
                rotate_left 1
                · go_simp
                  try simp only [hwr]
                  refine gives_mk ?_ hS
                  with_reducible rfl
                refine all_take (i := 6) (v := ?_) rfl (by kernel_rfl) (by kernel_rfl) (by kernel_rfl) (fun _ _ _ h => h) (Tame.yes (by kernel_rfl) fun w hS => ?_) ?_
                rotate_left 1
                · go_simp
                  try simp only [hwr]
                  refine gives_mk ?_ hS
                  with_reducible rfl
                refine all_take (i := 7) (v := ?_) rfl (by kernel_rfl) (by kernel_rfl) (by kernel_rfl) (fun _ _ _ h => h) (Tame.yes (by kernel_rfl) fun w hS => ?_) ?_
                rotate_left 1
                · go_simp
                  try simp only [hwr]
                  refine gives_mk ?_ hS
                  with_reducible rfl
                refine all_take (i := 8) (v := ?_) rfl (by kernel_rfl) (by kernel_rfl) (by kernel_rfl) (fun _ _ _ h => h) (Tame.yes (by kernel_rfl) fun w hS => ?_) ?_
                rotate_left 1
                · go_simp
                  try simp only [hwr]
                  refine gives_mk ?_ hS
                  with_reducible rfl
                refine all_take (i := 9) (v := ?_) rfl (by kernel_rfl) (by kernel_rfl) (by kernel_rfl) (fun _ _ _ h => h) (Tame.yes (by kernel_rfl) fun w hS => ?_) ?_
                rotate_left 1
                · go_simp
                  try simp only [hwr, hb1, hb2, hb3, ↓reduceIte]
                  refine gives_mk ?_ hS
                  with_reducible rfl
                refine all_take (i := 10) (v := ?_) rfl (by kernel_rfl) (by kernel_rfl) (by kernel_rfl) (fun _ _ _ h => h) (Tame.yes (by kernel_rfl) fun w hS => ?_) ?_
                rotate_left 1
                · go_simp
                  try simp only [hqq]
                  refine gives_mk ?_ hS
                  with_reducible rfl
                refine all_take (i := 11) (v := ?_) rfl (by kernel_rfl) (by kernel_rfl) (by kernel_rfl) (fun _ _ _ h => h) (Tame.yes (by kernel_rfl) fun w hS => ?_) ?_
                rotate_left 1
                · go_simp
                  try simp only [hqq]
                  refine gives_mk ?_ hS
                  with_reducible rfl
                refine all_done ?_ ?_ _
                · kernel_rfl
                intro w2 hw2
                go_simp
                clear hwr hb1 hb2 hb3
                go_wp2_with fail
                go_ret3
                rw [HM.out, if_neg HQ.out]
                exact ⟨rfl, hw2⟩
    · have hj2 : a + j = s.size := by omega
      have hall2 : ∀ c ∈ (s.data.toList.drop a).take j, 128 ≤ c.toNat := Va.high_mem (by omega) HA.out
      have HJ := Lib.hid hj2
      have hcmp : ((a : Int) + (j : Int) == (s.size : Int)) = true := by simp; omega
      by_cases h9 : j < 9
      · have HT : Hid (Va.take (s.data.toList.drop a) = (0, 0, 10)) := Lib.hid (Va.tk_high 9 0 0 _ rfl (fun c hc => hall2 c (by rw [List.take_of_length_le (by simp; omega)]; exact hc)) (by simp; omega))
        clear hall2 hj2
        go_wp2
        go_ret3
        rw [HT.out]
        exact ⟨rfl, Ext.refl _⟩
      · have HT : Hid (Va.take (s.data.toList.drop a) = (0, 0, 11)) := Lib.hid (Va.tk_long 9 0 0 _ rfl (fun c hc => hall2 c (Va.take_sub (by omega) hc)) (by simp; omega))
        clear hall2 hj2
        go_wp2
        go_ret3
        rw [HT.out]
        exact ⟨rfl, Ext.refl _⟩

/-- What Take answers, part by part, at every place. -/
def Va.tx (s : ByteArray) (a : Int) : Int := if a < 0 ∨ (s.size : Int) < a then 0 else ((Va.take (s.data.toList.drop a.toNat)).1 : Int)
def Va.ty (s : ByteArray) (a : Int) : Int := if a < 0 ∨ (s.size : Int) < a then 0 else if (Va.take (s.data.toList.drop a.toNat)).2.2 = 0 then ((a.toNat + (Va.take (s.data.toList.drop a.toNat)).2.1 : Nat) : Int) else 0
def Va.tz (s : ByteArray) (a : Int) : Int := if a < 0 ∨ (s.size : Int) < a then 1 else ((Va.take (s.data.toList.drop a.toNat)).2.2 : Int)
theorem take_all (s : ByteArray) (a : Int) (w : World) (hs : s.size ≤ maxLen) :
    Calls Try.prog 9 #[.string s, .int .i64 a] w fun e w' => e = .returned (.tuple #[.int .i64 (Va.tx s a), .int .i64 (Va.ty s a), .int .i64 (Va.tz s a)]) ∧ Ext w w' := by
  unfold Va.tx Va.ty Va.tz
  by_cases h : a < 0 ∨ (s.size : Int) < a
  · rw [if_pos h, if_pos h, if_pos h]
    exact (take_arg s a w h).mono fun e w' ⟨he, hw⟩ => ⟨he, hw ▸ Ext.refl _⟩
  · rw [if_neg h, if_neg h, if_neg h]
    obtain ⟨k, rfl⟩ := Int.eq_ofNat_of_zero_le (show 0 ≤ a by omega)
    rw [Int.toNat_natCast]
    exact (take_in s k w hs (by omega)).mono fun e w' ⟨he, hw⟩ => ⟨he, hw ▸ Ext.refl _⟩
set_option maxRecDepth 100000 in
set_option maxHeartbeats 4000000 in
theorem rtake_arg (s : ByteArray) (a : Int) (w : World) (h : a < 0 ∨ (s.size : Int) < a) :
    Calls Try.prog 10 #[.string s, .int .i64 a] w fun e w' => e = .returned (.tuple #[.int .i64 0, .int .i64 0, .int .i64 1]) ∧ w = w' := by
  by_cases h0 : a < 0
  · go_enter Try.func10, Try.ntmps10
    go_wp2
    go_ret3
    exact ⟨rfl, rfl⟩
  · have h1 : (s.size : Int) < a := by omega
    go_enter Try.func10, Try.ntmps10
    go_wp2
    go_ret3
    exact ⟨rfl, rfl⟩
theorem rtake_all (s : ByteArray) (a : Int) (w : World) (hs : s.size ≤ maxLen) :
    Calls Try.prog 10 #[.string s, .int .i64 a] w fun e w' => e = .returned (.tuple #[.int .i64 (Va.tx s a), .int .i64 (Va.ty s a), .int .i64 (Va.tz s a)]) ∧ Ext w w' := by
  unfold Va.tx Va.ty Va.tz
  by_cases h : a < 0 ∨ (s.size : Int) < a
  · rw [if_pos h, if_pos h, if_pos h]
    exact (rtake_arg s a w h).mono fun e w' ⟨he, hw⟩ => ⟨he, hw ▸ Ext.refl _⟩
  · rw [if_neg h, if_neg h, if_neg h]
    obtain ⟨k, rfl⟩ := Int.eq_ofNat_of_zero_le (show 0 ≤ a by omega)
    rw [Int.toNat_natCast]
    exact rtake_in s k w hs (by omega)

set_option maxRecDepth 100000 in
set_option maxHeartbeats 4000000 in
theorem walk_VarintTells (n : Int) (s : ByteArray) (a : Int) (_ : (Lit.int .i64 n).wf = true) (hs : s.size ≤ maxLen) (_ : (Lit.int .i64 a).wf = true) (w : World) :
    Calls Try.prog 3 #[.int .i64 n, .string s, .int .i64 a] w fun e w' => e = .returned (.bool true) ∧ Ext w w' := by
  by_cases h : 10000 < s.size
  · unfold maxLen at hs
    go_enter Try.func3, Try.ntmps3
    go_wp2_with (go_at_call 8; refine (fixed_yes _).mono ?_; rintro e w1 ⟨rfl, hb1⟩)
    go_ret
    exact ⟨rfl, hb1⟩
  · go_enter Try.func3, Try.ntmps3
    go_wp2_with fail
    refine (take_all s a _ (by unfold maxLen; omega)).mono ?_
    rintro e w1 ⟨rfl, hb1⟩
    go_wp2_with fail
    refine (rtake_all s a _ (by unfold maxLen; omega)).mono ?_
    rintro e w2 ⟨rfl, hb2⟩
    go_wp2_with fail
    refine (fixed_yes _).mono ?_
    rintro e w3 ⟨rfl, hb3⟩
    go_wp2_with fail
    refine (put_any n _).mono ?_
    rintro e w4 ⟨rfl, hb4⟩
    go_wp2_with fail
    refine (rput_any n _).mono ?_
    rintro e w5 ⟨rfl, hb5⟩
    go_wp2_with fail
    refine (len_any n _).mono ?_
    rintro e w6 ⟨rfl, hb6⟩
    go_wp2_with fail
    refine (rlen_any n _).mono ?_
    rintro e w7 ⟨rfl, hb7⟩
    go_wp2_with fail
    go_ret
    exact ⟨rfl, (by repeat (first | exact Ext.refl _ | assumption | refine Ext.trans (by assumption) ?_))⟩

end Go.Proofs.Ytngfmnacjabloaa
