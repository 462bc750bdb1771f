/-
  The contract of layer 2's own helper 'fixed': it returns true.
-/
import Derived.Test.YtfmbpajomedfnaaWc
namespace Go.Proofs.Ytfmbpajomedfnaa
open Go.RowKit

theorem ints_new (w : World) (t : TypeId) (xs : List Int) : IntsAt (w.alloc (.cells (xs.map (Value.int .i64)).toArray t)) (.slice (some ⟨w.heap.size, 0, none⟩) xs.length xs.length) xs :=
  ⟨_, _, rfl, fun _ => ⟨w.heap.size, 0, rfl, by simp, fun j x hj => by
    rw [Nat.zero_add, World.cell?_alloc_new]
    simp [hj]⟩⟩

theorem Va.put300 : Va.put 300 = [172, 2] := by
  rw [Va.put_big (by decide), Va.put_small (by decide)]; decide
theorem Va.put2 : Va.put 2 = [2] := by rw [Va.put_small (by decide)]; decide
theorem Wi.nums300 : Wi.nums [300] = ⟨#[172, 2]⟩ := by
  unfold Wi.nums
  rw [Wi.numsL_ok _ (by intro x hx; rw [List.mem_singleton.1 hx]; exact ⟨by omega, by omega⟩)]
  simp [Wi.cat, Va.put300]
theorem Wi.nums_neg : Wi.nums [1, -1] = ⟨#[]⟩ := by
  unfold Wi.nums
  rw [Wi.numsL_no _ ⟨-1, by simp, by unfold Wi.ok; omega⟩]
theorem Wi.ab : Va.puts (⟨#[97, 98]⟩ : ByteArray).size ++ ⟨#[97, 98]⟩ = ⟨#[2, 97, 98]⟩ := by
  apply ByteArray.ext
  rw [ByteArray.data_append]
  show (Va.put 2).toArray ++ _ = _
  rw [Va.put2]
  rfl

theorem new_eq (s r : ByteArray) (w : World) (h : s = r) : Calls Try.prog 10 #[.string s] w fun x w' => x = .returned (.pointer (some ⟨w.heap.size, 0, none⟩)) ∧ RD w' w.heap.size r 0 0 ∧ Ext w w' := by
  subst h; exact new_any s w
def Wi.S : ByteArray := ⟨#[172, 2, 2, 97, 98, 120]⟩
theorem Wi.S_size : Wi.S.size ≤ maxLen := by decide
theorem Wi.S1 : Wi.num Wi.S 0 0 = (300, 2, 0) := by decide +kernel
theorem Wi.S2 : Wi.text Wi.S 2 0 = (⟨#[97, 98]⟩, 5, 0) := by
  have h1 : Va.tz Wi.S 2 = 0 := by decide +kernel
  have h2 : Va.tx Wi.S 2 = 2 := by decide +kernel
  have h3 : Va.ty Wi.S 2 = 3 := by decide +kernel
  unfold Wi.text
  rw [if_pos rfl, if_pos h1, h2, h3]
  rfl
theorem Wi.S3 : Wi.byte Wi.S 5 0 = (120, 6, 0) := rfl
theorem Wi.S4 : Wi.num Wi.S 6 0 = (0, 6, 10) := by decide +kernel
theorem Wi.S5 : ((6 : Int) == (Wi.S.size : Int)) = true := rfl

set_option maxRecDepth 100000 in
set_option maxHeartbeats 1000000 in
theorem wfixed_yes (w : World) : Calls Try.prog 9 #[] w fun e w' => e = .returned (.bool true) ∧ Ext w w' := by
  go_enter Try.func9, Try.ntmps9
  go_wp2_with fail
  refine (nums_eq _ [300] _ _ (ints_new _ _ [300]) (by decide) Wi.nums300).mono ?_
  rintro e w1 ⟨rfl, hx1⟩
  go_wp2_with fail
  refine (text_weq _ _ _ (by decide) Wi.ab).mono ?_
  rintro e w2 ⟨rfl, hx2⟩
  go_wp2_with fail
  refine (new_eq _ Wi.S _ rfl).mono ?_
  rintro e w3 ⟨rfl, hr3, hx3⟩
  have hg : w.heap.size ≤ w2.heap.size := by have := hx1.size; have := hx2.size; simp at *; omega
  have HX : Hid (Ext w w3) := Lib.hid ((((Ext.refl w).alloc _).trans hx1).trans (hx2.trans hx3))
  clear hx1 hx2 hx3
  generalize w2.heap.size = g at *
  go_wp2_with fail
  refine (num_eq 300 hr3 Wi.S_size Wi.S1).mono ?_
  rintro e w4 ⟨rfl, hr4, hu4⟩
  go_wp2_with fail
  refine (text_eq ⟨#[97, 98]⟩ hr4 Wi.S_size Wi.S2).mono ?_
  rintro e w5 ⟨rfl, hr5, hu5⟩
  go_wp2_with fail
  refine (byte_eq 120 hr5 Wi.S_size (by omega) (by decide) Wi.S3).mono ?_
  rintro e w6 ⟨rfl, hr6, hu6⟩
  go_wp2_with fail
  refine (done_eq true hr6 Wi.S5).mono ?_
  rintro e w7 ⟨rfl, hr7, hu7⟩
  go_wp2_with fail
  refine (num_eq 0 hr7 Wi.S_size Wi.S4).mono ?_
  rintro e w8 ⟨rfl, hr8, hu8⟩
  go_wp2_with fail
  refine (err_ne hr8 (by omega)).mono ?_
  rintro e w9 ⟨rfl, hr9, hu9⟩
  go_wp2_with fail
  refine (head_eq _ 5 0 _ (by decide)).mono ?_
  rintro e wa ⟨rfl, rfl⟩
  go_wp2_with fail
  refine (head_eq _ 0 10 _ (by decide)).mono ?_
  rintro e wa ⟨rfl, rfl⟩
  go_wp2_with fail
  refine (head_eq _ 0 20 _ (by decide)).mono ?_
  rintro e wa ⟨rfl, rfl⟩
  go_wp2_with fail
  refine (err_nil _).mono ?_
  rintro e wa ⟨rfl, rfl⟩
  go_wp2_with fail
  refine (at_any _ _ _ _ _ hr9).mono ?_
  rintro e wa ⟨rfl, rfl⟩
  go_wp2_with fail
  refine (num_nil _).mono ?_
  rintro e wa ⟨rfl, rfl⟩
  go_wp2_with fail
  refine (done_nil _).mono ?_
  rintro e wa ⟨rfl, n, rfl⟩
  go_wp2_with fail
  refine (header_w _).mono ?_
  rintro e wa ⟨rfl, rfl⟩
  go_wp2_with fail
  refine (nums_eq _ [1, -1] _ _ (ints_new _ _ [1, -1]) (by decide) Wi.nums_neg).mono ?_
  rintro e wb ⟨rfl, hxb⟩
  go_wp2_with fail
  go_ret
  have hu : Upd g w3 w9 := ((((hu4.trans hu5).trans hu6).trans hu7).trans hu8).trans hu9
  exact ⟨rfl, (((HX.out.upd hu hg).drewN n).alloc _).trans hxb⟩

end Go.Proofs.Ytfmbpajomedfnaa
