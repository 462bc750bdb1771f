/-
  The document's answers for layer 2's writers; and the walk of the statement WireWrites.
-/
import Derived.Test.YtfmbpajomedfnaaWe
import Derived.Test.YtfmbpajomedfnaaVl
import Derived.Test.YtfmbpajomedfnaaLp
namespace Go.Proofs.Ytfmbpajomedfnaa
open Go.RowKit

theorem ints_of_row {w : World} {a : Option Addr} {len cap : Nat} {zs : List Int} (h : IsRow .i64 w a len cap zs) : IntsAt w (.slice a len cap) (zs.take len) ∧ (zs.take len).length = len ∧ ∀ x ∈ zs.take len, (Lit.int .i64 x).wf = true := by
  rcases h with ⟨rfl, rfl, rfl, rfl⟩ | ⟨x, rfl, hl, hm, hz, hc, hw⟩
  · exact ⟨⟨none, 0, rfl, fun h => by simp at h⟩, rfl, fun x hx => by simp at hx⟩
  · have hlen : (zs.take len).length = len := by rw [List.length_take]; omega
    refine ⟨⟨some x, cap, by rw [hlen], fun h0 => ?_⟩, hlen, fun y hy => hw y (List.mem_of_mem_take hy)⟩
    rw [hlen] at h0
    obtain ⟨b, o, rfl, hc'⟩ := ints_at hc (by omega)
    refine ⟨b, o, rfl, block_lt_of_cell (hc' 0 (by omega)), fun j y hj => ?_⟩
    rw [List.getElem?_take] at hj
    split at hj
    · rename_i hjl
      rw [hc' j (by omega)]
      rw [List.getD, hj]
      rfl
    · simp at hj

set_option maxRecDepth 100000 in
set_option maxHeartbeats 1000000 in
theorem rtext_w (s : ByteArray) (w : World) (hs : s.size ≤ 1000000) : Calls Try.prog 26 #[.string s] w fun e w' => e = .returned (.string (Va.puts s.size ++ s)) ∧ Ext w w' := by
  have h9 : (Va.puts s.size).size ≤ 9 := by rw [Va.puts_size]; exact Va.put_len_most (by unfold Va.most; omega)
  go_enter Try.func26, Try.ntmps26
  go_wp2_with fail
  refine (rput_yes _ _ (by omega) (by omega)).mono ?_
  rintro e w1 ⟨rfl, hb1⟩
  rw [show (⟨(Va.put (s.size : Int).toNat).toArray⟩ : ByteArray) = Va.puts s.size from rfl]
  go_wp2_with fail
  go_ret
  exact ⟨rfl, hb1⟩
theorem rheader_w (w : World) : Calls Try.prog 30 #[] w fun e w' => e = .returned (.string ⟨#[83, 72, 84, 76, 1]⟩) ∧ w = w' := by
  go_enter Try.func30, Try.ntmps30
  go_wp2
  go_ret
  exact ⟨rfl, rfl⟩

/-- The bytes of numbers that have some. -/
def Wi.cats (l : List Int) : ByteArray := ⟨(Wi.cat l).toArray⟩
theorem Wi.cats_snoc (l : List Int) (x : Int) : Wi.cats l ++ Va.puts x.toNat = Wi.cats (l ++ [x]) := by
  apply ByteArray.ext
  rw [ByteArray.data_append]
  unfold Wi.cats Va.puts
  rw [Wi.cat_snoc]
  simp
theorem Wi.cats_size (l : List Int) (h : ∀ x ∈ l, Wi.ok x) : (Wi.cats l).size ≤ 9 * l.length := by
  show (Wi.cat l).toArray.size ≤ _
  rw [List.size_toArray]
  exact Wi.cat_len l h

set_option maxRecDepth 100000 in
set_option maxHeartbeats 1000000 in
theorem rnums_any (v : Value) (xs : List Int) (w : World) (h : IntsAt w v xs) (hn : xs.length ≤ 1000000) :
    Calls Try.prog 28 #[v] w fun e w' => e = .returned (.string (Wi.nums xs)) ∧ Ext w w' := by
  obtain ⟨A, c, rfl, hA⟩ := h
  have HA := Lib.hid hA; clear hA
  go_enter Try.func28, Try.ntmps28
  go_wp2
  go_loopw [3, 4] (fun s i wr => ∃ k : Nat, k ≤ xs.length ∧ i = .int .i64 k ∧ s = .string (Wi.cats (xs.take k)) ∧ (∀ x ∈ xs.take k, Wi.ok x) ∧ Ext w wr) (fun _ i _ => xs.length - (intOf i).toNat)
  case atStart => exact ⟨0, by omega, rfl, rfl, by simp, Ext.refl _⟩
  case round =>
    obtain ⟨k, hk, rfl, rfl, hall, hx⟩ := hrel
    have HL := Lib.hid hall; clear hall
    by_cases hlt : k < xs.length
    · obtain ⟨b, o, rfl, hb, hc⟩ := HA.out (by omega)
      have hcell : wr.cell? ⟨b, o + k, none⟩ = some (.int .i64 xs[k]) := by
        rw [Below.cell hx hb]; exact hc k _ (List.getElem?_eq_getElem hlt)
      have HC := Lib.hid (hc k _ (List.getElem?_eq_getElem hlt))
      clear hc
      have htk : xs.take (k + 1) = xs.take k ++ [xs[k]] := by rw [List.take_succ_eq_append_getElem hlt]
      have HT := Lib.hid htk; clear htk
      have hsz : (Wi.cats (xs.take k)).size ≤ 9000000 := by
        have := Wi.cats_size _ HL.out; rw [List.length_take] at this; omega
      by_cases ho : Wi.ok xs[k]
      · obtain ⟨o1, o2⟩ := ho
        have O1 := Lib.hid o1
        have O2 := Lib.hid o2
        have hne := Va.puts_ne xs[k].toNat
        have hnn := Va.puts_nn xs[k].toNat
        clear o1 o2
        have H9 : (Va.puts xs[k].toNat).size ≤ 9 := Va.puts_nine O1.out O2.out
        go_wp2_with fail
        refine (rput_yes _ _ O1.out O2.out).mono ?_
        rintro e w1 ⟨rfl, hx1⟩
        rw [show (⟨(Va.put (xs[k]).toNat).toArray⟩ : ByteArray) = Va.puts (xs[k]).toNat from rfl]
        have hcell1 : w1.cell? ⟨b, o + k, none⟩ = some (.int .i64 xs[k]) := by
          rw [Below.cell (hx.trans hx1) hb]; exact HC.out
        go_wp2_with fail
        refine (rput_yes _ _ O1.out O2.out).mono ?_
        rintro e w2 ⟨rfl, hx2⟩
        rw [show (⟨(Va.put (xs[k]).toNat).toArray⟩ : ByteArray) = Va.puts (xs[k]).toNat from rfl]
        go_wp2
        go_roundw
        case rel =>
          refine ⟨k + 1, by omega, by go_num, by rw [HT.out, Wi.cats_snoc], ?_, (hx.trans hx1).trans hx2⟩
          rw [HT.out]
          intro x hx
          rcases List.mem_append.1 hx with hx | hx
          · exact HL.out x hx
          · rw [List.mem_singleton.1 hx]; exact ⟨O1.out, O2.out⟩
        case measure => simp [intOf]; omega
      · have HO := Lib.hid ho; clear ho
        have HNO : Hid (Wi.nums xs = ⟨#[]⟩) := Lib.hid (by unfold Wi.nums; rw [Wi.numsL_no xs ⟨xs[k], List.getElem_mem hlt, HO.out⟩])
        go_wp2_with fail
        refine (rput_no _ _ (by have := HO.out; unfold Wi.ok at this; omega)).mono ?_
        rintro e w1 ⟨rfl, rfl⟩
        go_wp2
        go_ret
        rw [HNO.out]
        exact ⟨rfl, hx⟩
    · obtain rfl : k = xs.length := by omega
      have HNO : Hid (Wi.nums xs = Wi.cats xs) := Lib.hid (by
        unfold Wi.nums
        rw [Wi.numsL_ok xs (by have := HL.out; rwa [List.take_length] at this)]
        rfl)
      go_wp2
      go_ret
      rw [HNO.out, List.take_length]
      exact ⟨rfl, hx⟩

def Wi.H : List UInt8 := [83, 72, 84, 76, 1]
theorem Wi.head_is (L : List UInt8) (m : Nat) (hm : m = min L.length 5) : Wi.head L = if L.take m = Wi.H.take m then (if m < 5 then (0, 10) else (5, 0)) else (0, 20) := by
  unfold Wi.head Lib.hasPrefix
  have hH : Wi.H.length = 5 := rfl
  have iff1 : ∀ a b : List UInt8, a.isPrefixOf b = true ↔ b.take a.length = a := fun a b => by
    rw [List.isPrefixOf_iff_prefix, List.prefix_iff_eq_take]; exact eq_comm
  rw [show ([83, 72, 84, 76, 1] : List UInt8) = Wi.H from rfl]
  by_cases h5 : 5 ≤ L.length
  · have hm5 : m = 5 := by omega
    subst hm5
    have e5 : Wi.H.take 5 = Wi.H := rfl
    rw [e5]
    by_cases h : L.take 5 = Wi.H
    · rw [if_pos ((iff1 Wi.H L).2 h), if_pos h, if_neg (by omega)]
    · rw [if_neg (fun hp => h ((iff1 Wi.H L).1 hp)), if_neg h, if_neg]
      intro hp
      have h2 := (iff1 _ _).1 hp
      have h3 := congrArg List.length h2
      rw [List.length_take, hH] at h3
      apply h
      rw [← h2, show L.length = 5 by omega]
      rfl
  · have hms : m = L.length := by omega
    subst hms
    rw [List.take_length]
    rw [if_neg (fun hp => by
      have := congrArg List.length ((iff1 _ _).1 hp)
      rw [List.length_take, hH] at this
      omega)]
    by_cases h : L = Wi.H.take L.length
    · rw [if_pos ((iff1 _ _).2 h.symm), if_pos h, if_pos (by omega)]
    · rw [if_neg (fun hp => h ((iff1 _ _).1 hp).symm), if_neg h]

set_option maxRecDepth 100000 in
set_option maxHeartbeats 1000000 in
theorem rhead_m (s : ByteArray) (m : Nat) (w : World) (hms : m ≤ s.size) (hm5 : m ≤ 5) (hmin : min (s.size : Int) 5 = (m : Int)) (b : Bool)
    (hb : ((s.extract 0 m).toList == ((⟨#[83, 72, 84, 76, 1]⟩ : ByteArray).extract 0 m).toList) = b) :
    Calls Try.prog 24 #[.string s] w fun e w' => e = .returned (.tuple #[.int .i64 (if b then (if m < 5 then 0 else 5) else 0), .int .i64 (if b then (if m < 5 then 10 else 0) else 20)]) ∧ Ext w w' := by
  cases b
  · go_enter Try.func24, Try.ntmps24
    go_wp2_with fail
    refine (rheader_w _).mono ?_
    rintro e w1 ⟨rfl, rfl⟩
    go_wp2
    go_quiet (fail)
    go_wp2
    go_ret2
    exact ⟨rfl, (Ext.refl _).drewN _⟩
  · by_cases h5 : m < 5
    · rw [if_pos rfl, if_pos h5, if_pos rfl, if_pos h5]
      go_enter Try.func24, Try.ntmps24
      go_wp2_with fail
      refine (rheader_w _).mono ?_
      rintro e w1 ⟨rfl, rfl⟩
      go_wp2
      go_quiet (fail)
      go_wp2
      go_ret2
      exact ⟨rfl, (Ext.refl _).drewN _⟩
    · rw [if_pos rfl, if_neg h5, if_pos rfl, if_neg h5]
      go_enter Try.func24, Try.ntmps24
      go_wp2_with fail
      refine (rheader_w _).mono ?_
      rintro e w1 ⟨rfl, rfl⟩
      go_wp2
      go_quiet (fail)
      go_wp2
      go_ret2
      exact ⟨rfl, (Ext.refl _).drewN _⟩

theorem rhead_w (s : ByteArray) (w : World) : Calls Try.prog 24 #[.string s] w fun e w' => e = .returned (.tuple #[.int .i64 (Wi.head s.data.toList).1, .int .i64 (Wi.head s.data.toList).2]) ∧ Ext w w' := by
  have hlen : s.data.toList.length = s.size := by simp
  have hh := Wi.head_is s.data.toList (min s.size 5) (by rw [hlen])
  have hx : (s.extract 0 (min s.size 5)).toList = s.data.toList.take (min s.size 5) := by
    rw [ByteArray.toList_eq, Lib.extract_data, Nat.sub_zero, List.drop_zero]
  have hy : ((⟨#[83, 72, 84, 76, 1]⟩ : ByteArray).extract 0 (min s.size 5)).toList = Wi.H.take (min s.size 5) := by
    rw [ByteArray.toList_eq, Lib.extract_data, Nat.sub_zero, List.drop_zero]; rfl
  have := rhead_m s (min s.size 5) w (by omega) (by omega) (by omega) _ rfl
  rw [hx, hy] at this
  rw [hh]
  by_cases h : s.data.toList.take (min s.size 5) = Wi.H.take (min s.size 5)
  · rw [if_pos h]
    rw [show (s.data.toList.take (min s.size 5) == Wi.H.take (min s.size 5)) = true by simpa using h] at this
    by_cases h5 : min s.size 5 < 5
    · rw [if_pos h5]
      rw [if_pos rfl, if_pos h5, if_pos rfl, if_pos h5] at this
      exact this
    · rw [if_neg h5]
      rw [if_pos rfl, if_neg h5, if_pos rfl, if_neg h5] at this
      exact this
  · rw [if_neg h]
    rw [show (s.data.toList.take (min s.size 5) == Wi.H.take (min s.size 5)) = false by simpa using h] at this
    exact this.mono fun e w' ⟨he, hw⟩ => ⟨he, hw⟩

set_option maxRecDepth 100000 in
set_option maxHeartbeats 1000000 in
theorem wwrites_out (s : ByteArray) (A : Option Addr) (len cap : Nat) (w : World) (hs : s.size ≤ maxLen) (hl : len ≤ maxLen) (h : 5000 < s.size ∨ 200 < len) :
    Calls Try.prog 4 #[.string s, .slice A len cap] w fun e w' => e = .returned (.bool true) ∧ Ext w w' := by
  unfold maxLen at hs hl
  rcases h with h | h
  all_goals
    go_enter Try.func4, Try.ntmps4
    go_wp2_with (go_at_call 9; refine (wfixed_yes _).mono ?_; rintro e w1 ⟨rfl, hb1⟩)
    all_goals (go_ret; exact ⟨rfl, (by repeat (first | exact Ext.refl _ | assumption | refine Ext.trans (by assumption) ?_))⟩)
theorem IntsAt.ext {w w' : World} {v : Value} {xs : List Int} (h : IntsAt w v xs) (hx : Ext w w') : IntsAt w' v xs := by
  obtain ⟨A, c, rfl, hA⟩ := h
  refine ⟨A, c, rfl, fun h0 => ?_⟩
  obtain ⟨b, o, hb, hlt, hc⟩ := hA h0
  exact ⟨b, o, hb, Nat.lt_of_lt_of_le hlt hx.size, fun j x hj => by rw [Below.cell hx hlt]; exact hc j x hj⟩
set_option maxRecDepth 100000 in
set_option maxHeartbeats 1000000 in
theorem wwrites_in (s : ByteArray) (A : Option Addr) (len cap : Nat) (xs : List Int) (w : World) (hs : s.size ≤ 5000) (hl : len ≤ 200) (hx : IntsAt w (.slice A len cap) xs) (hxl : xs.length = len) :
    Calls Try.prog 4 #[.string s, .slice A len cap] w fun e w' => e = .returned (.bool true) ∧ Ext w w' := by
  have HX := Lib.hid hx; clear hx
  have HXL := Lib.hid (show xs.length ≤ 1000000 by omega); clear hxl
  go_enter Try.func4, Try.ntmps4
  go_wp2_with fail
  refine (head_w s _).mono ?_
  rintro e w1 ⟨rfl, rfl⟩
  go_wp2_with fail
  refine (rhead_w s _).mono ?_
  rintro e w2 ⟨rfl, hx2⟩
  go_wp2_with fail
  refine (wfixed_yes _).mono ?_
  rintro e w3 ⟨rfl, hx3⟩
  go_wp2_with fail
  refine (text_w s _ (by omega)).mono ?_
  rintro e w4 ⟨rfl, hx4⟩
  go_wp2_with fail
  refine (rtext_w s _ (by omega)).mono ?_
  rintro e w5 ⟨rfl, hx5⟩
  go_wp2_with fail
  refine (nums_any _ xs _ (HX.out.ext (((hx2.trans hx3).trans hx4).trans hx5)) HXL.out).mono ?_
  rintro e w6 ⟨rfl, hx6⟩
  go_wp2_with fail
  refine (rnums_any _ xs _ (HX.out.ext ((((hx2.trans hx3).trans hx4).trans hx5).trans hx6)) HXL.out).mono ?_
  rintro e w7 ⟨rfl, hx7⟩
  go_wp2_with fail
  refine (header_w _).mono ?_
  rintro e w8 ⟨rfl, rfl⟩
  go_wp2_with fail
  refine (rheader_w _).mono ?_
  rintro e w8 ⟨rfl, rfl⟩
  go_wp2_with fail
  go_ret
  exact ⟨rfl, (((((hx2.trans hx3).trans hx4).trans hx5).trans hx6).trans hx7)⟩

theorem walk_WireWrites (s : ByteArray) (A : Option Addr) (len cap : Nat) (zs : List Int) (w : World) (hs : s.size ≤ maxLen) (h : IsRow .i64 w A len cap zs) :
    Calls Try.prog 4 #[.string s, .slice A len cap] w fun e w' => e = .returned (.bool true) ∧ Ext w w' := by
  have hr := ints_of_row h
  have hl : len ≤ maxLen := by
    rcases h with ⟨_, rfl, _⟩ | ⟨_, _, hl, hm, _⟩
    · simp [maxLen]
    · omega
  by_cases hh : 5000 < s.size ∨ 200 < len
  · exact wwrites_out s A len cap w hs hl hh
  · exact wwrites_in s A len cap _ w (by omega) (by omega) hr.1 hr.2.1

end Go.Proofs.Ytfmbpajomedfnaa
