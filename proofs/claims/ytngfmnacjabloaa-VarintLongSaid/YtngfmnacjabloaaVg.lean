/-
  The walk of the statement VarintLong: for every two numbers and every text it returns true, and leaves what was there as it was.
-/
import Derived.Test.YtngfmnacjabloaaVd
namespace Go.Proofs.Ytngfmnacjabloaa
open Go.RowKit

/-- A text with so many bytes more. -/
def Va.tail (s : ByteArray) (b : UInt8) (k : Nat) : ByteArray := ⟨(s.data.toList ++ List.replicate k b).toArray⟩
theorem Va.tail_zero (s : ByteArray) (b : UInt8) : Va.tail s b 0 = s := by
  apply ByteArray.ext
  simp [Va.tail]
theorem Va.tail_size (s : ByteArray) (b : UInt8) (k : Nat) : (Va.tail s b k).size = s.size + k := by
  show (s.data.toList ++ List.replicate k b).toArray.size = s.data.size + k
  simp
theorem Va.tail_succ (s : ByteArray) (b : UInt8) (k : Nat) : Va.tail s b k ++ ⟨#[b]⟩ = Va.tail s b (k + 1) := by
  apply ByteArray.ext
  simp [Va.tail, List.replicate_succ']
theorem Va.tail_drop (s : ByteArray) (b : UInt8) (k : Nat) : (Va.tail s b k).data.toList.drop s.size = List.replicate k b := by
  show (s.data.toList ++ List.replicate k b).drop s.data.size = _
  rw [← Array.length_toList, List.drop_left]
theorem Va.take_few {b : UInt8} (hb : 128 ≤ b.toNat) {k : Nat} (hk : k < 9) : Va.take (List.replicate k b) = (0, 0, 10) :=
  Va.tk_high 9 0 0 _ rfl (fun c hc => by rw [(List.mem_replicate.1 hc).2]; exact hb) (by simpa using hk)
theorem Va.take_many {b : UInt8} (hb : 128 ≤ b.toNat) {k : Nat} (hk : 9 ≤ k) : Va.take (List.replicate k b) = (0, 0, 11) :=
  Va.tk_long 9 0 0 _ rfl (fun c hc => by rw [(List.mem_replicate.1 (List.mem_of_mem_take hc)).2]; exact hb) (by simpa using hk)

theorem run_convert_one {P : Program} (src dst e : TypeId) (b : Int) (h0 : 0 ≤ b) (h1 : b ≤ 255)
    (hs : P.underlying src = some (.slice e)) (he : P.underlying e = some (.int .u8)) (hd : P.underlying dst = some .string) (W : World) :
    (convert src dst (.slice (some ⟨W.heap.size, 0, none⟩) 1 1)).run P (W.alloc (.cells #[.int .u8 b] e)) = .ok (.string ⟨#[UInt8.ofNat b.toNat]⟩) (W.alloc (.cells #[.int .u8 b] e)) := by
  have := run_convert_bytes_back (P := P) (W.alloc (.cells #[.int .u8 b] e)) src dst e ⟨W.heap.size, 0, none⟩ 1 [UInt8.ofNat b.toNat] hs he hd (fun j hj => by
    have hj0 : j = 0 := by simpa using hj
    subst hj0
    refine one_new W _ e 0 _ ?_
    simp; omega)
  exact this

set_option maxRecDepth 100000 in
set_option maxHeartbeats 4000000 in
theorem vlong_out (n b : Int) (s : ByteArray) (hs : s.size ≤ maxLen) (w : World) (h : n < 0 ∨ 30 < n ∨ b < 128 ∨ 255 < b ∨ 1000 < s.size) :
    Calls Try.prog 7 #[.int .i64 n, .int .i64 b, .string s] w fun e w' => e = .returned (.bool true) ∧ Ext w w' := by
  unfold maxLen at hs
  rcases h with h | h | h | h | h
  all_goals
    go_enter Try.func7, Try.ntmps7
    go_wp2_with (go_at_call 8; refine (fixed_yes _).mono ?_; rintro e w1 ⟨rfl, hb1⟩)
    all_goals (go_ret; exact ⟨rfl, (by repeat (first | exact Ext.refl _ | assumption | refine Ext.trans (by assumption) ?_))⟩)

set_option maxRecDepth 100000 in
set_option maxHeartbeats 4000000 in
theorem vlong_in (n : Nat) (b : Int) (s : ByteArray) (w : World) (hn : n ≤ 30) (hb0 : 128 ≤ b) (hb1 : b ≤ 255) (hs : s.size ≤ 1000) :
    Calls Try.prog 7 #[.int .i64 n, .int .i64 b, .string s] w fun e w' => e = .returned (.bool true) ∧ Ext w w' := by
  have hcv := fun W => run_convert_one (P := Try.prog) 32 9 5 b (by omega) hb1 Try.underlying32 Try.underlying5 Try.underlying9 W
  have HB := Lib.hid (show 128 ≤ (UInt8.ofNat b.toNat).toNat by simp; omega)
  generalize hbb : UInt8.ofNat b.toNat = bb at *
  clear hbb
  have HS := Lib.hid (Va.tail_succ s bb)
  have HD := Lib.hid (Va.tail_drop s bb n)
  have HZ := Lib.hid (Va.tail_size s bb)
  go_enter Try.func7, Try.ntmps7
  go_wp2_with fail
  refine (fixed_yes _).mono ?_
  rintro e w1 ⟨rfl, hx1⟩
  go_wp2_with fail
  go_loopw [7, 8] (fun t i wr => ∃ k : Nat, k ≤ n ∧ t = .string (Va.tail s bb k) ∧ i = .int .i64 k ∧ Ext w wr) (fun _ i _ => n - (intOf i).toNat)
  case atStart => exact ⟨0, by omega, by rw [Va.tail_zero], rfl, hx1⟩
  case round =>
    obtain ⟨k, hk, rfl, rfl, hx⟩ := hrel
    by_cases hlt : k < n
    · have hsz : (Va.tail s bb k).size ≤ 1030 := by rw [HZ.out]; omega
      go_wp2
      go_roundw
      case rel => exact ⟨k + 1, by omega, by rw [HS.out], by go_num, hx.alloc _⟩
      case measure => simp [intOf]; omega
    · obtain rfl : k = n := by omega
      have hsz : (Va.tail s bb k).size ≤ 1030 := by rw [HZ.out]; omega
      by_cases h9 : k < 9
      · go_wp2_with (go_at_call 9; refine (take_bad_int _ _ 10 _ (by omega) (by rw [Int.toNat_natCast, HD.out]; exact Va.take_few HB.out h9) (by omega) (by unfold maxLen; omega) (by rw [Int.toNat_natCast, HZ.out]; omega)).mono ?_; rintro e w3 ⟨rfl, rfl⟩)
        go_ret
        exact ⟨rfl, hx⟩
      · go_wp2_with (go_at_call 9; refine (take_bad_int _ _ 11 _ (by omega) (by rw [Int.toNat_natCast, HD.out]; exact Va.take_many HB.out (by omega)) (by omega) (by unfold maxLen; omega) (by rw [Int.toNat_natCast, HZ.out]; omega)).mono ?_; rintro e w3 ⟨rfl, rfl⟩)
        go_ret
        exact ⟨rfl, hx⟩

theorem walk_VarintLong (n b : Int) (s : ByteArray) (_ : (Lit.int .i64 n).wf = true) (_ : (Lit.int .i64 b).wf = true) (hs : s.size ≤ maxLen) (w : World) :
    Calls Try.prog 7 #[.int .i64 n, .int .i64 b, .string s] w fun e w' => e = .returned (.bool true) ∧ Ext w w' := by
  by_cases h : n < 0 ∨ 30 < n ∨ b < 128 ∨ 255 < b ∨ 1000 < s.size
  · exact vlong_out n b s hs w h
  · obtain ⟨k, rfl⟩ := Int.eq_ofNat_of_zero_le (show 0 ≤ n by omega)
    exact vlong_in k b s w (by omega) (by omega) (by omega) (by omega)

end Go.Proofs.Ytngfmnacjabloaa
