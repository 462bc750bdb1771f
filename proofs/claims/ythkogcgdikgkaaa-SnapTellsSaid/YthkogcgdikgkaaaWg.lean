/-
  The document's answers for layer 2's writers; and the walk of the statement WireWrites.
-/
import Derived.Test.YthkogcgdikgkaaaWe
import Derived.Test.YthkogcgdikgkaaaVl
import Derived.Test.YthkogcgdikgkaaaLp
set_option linter.unusedVariables false
set_option linter.unusedSimpArgs false
namespace Go.Proofs.Ythkogcgdikgkaaa
open Go.RowKit

/-- The bytes of numbers that have some. -/
def Wi.cats (l : List Int) : ByteArray := ⟨(Wi.cat l).toArray⟩
theorem Wi.cats_snoc (l : List Int) (x : Int) : Wi.cats l ++ Va.puts x.toNat = Wi.cats (l ++ [x]) := by
  apply ByteArray.ext
  rw [ByteArray.data_append]
  unfold Wi.cats Va.puts
  rw [Wi.cat_snoc]
  simp
theorem Wi.cats_size (l : List Int) (h : ∀ x ∈ l, Wi.ok x) : (Wi.cats l).size ≤ 9 * l.length := by
  show (Wi.cat l).toArray.size ≤ _
  rw [List.size_toArray]
  exact Wi.cat_len l h

set_option maxRecDepth 100000 in
set_option maxHeartbeats 1000000 in
theorem rnums_any (v : Value) (xs : List Int) (w : World) (h : IntsAt w v xs) (hn : xs.length ≤ 1000000) :
    Calls Try.prog 32 #[v] w fun e w' => e = .returned (.string (Wi.nums xs)) ∧ Ext w w' := by
  obtain ⟨A, c, rfl, hA⟩ := h
  have HA := Lib.hid hA; clear hA
  go_enter Try.func32, Try.ntmps32
  go_wp2
  go_loopw [3, 4] (fun s i wr => ∃ k : Nat, k ≤ xs.length ∧ i = .int .i64 k ∧ s = .string (Wi.cats (xs.take k)) ∧ (∀ x ∈ xs.take k, Wi.ok x) ∧ Ext w wr) (fun _ i _ => xs.length - (intOf i).toNat)
  case atStart => exact ⟨0, by omega, rfl, rfl, by simp, Ext.refl _⟩
  case round =>
    obtain ⟨k, hk, rfl, rfl, hall, hx⟩ := hrel
    have HL := Lib.hid hall; clear hall
    by_cases hlt : k < xs.length
    · obtain ⟨b, o, rfl, hb, hc⟩ := HA.out (by omega)
      have hcell : wr.cell? ⟨b, o + k, none⟩ = some (.int .i64 xs[k]) := by
        rw [Below.cell hx hb]; exact hc k _ (List.getElem?_eq_getElem hlt)
      have HC := Lib.hid (hc k _ (List.getElem?_eq_getElem hlt))
      clear hc
      have htk : xs.take (k + 1) = xs.take k ++ [xs[k]] := by rw [List.take_succ_eq_append_getElem hlt]
      have HT := Lib.hid htk; clear htk
      have hsz : (Wi.cats (xs.take k)).size ≤ 9000000 := by
        have := Wi.cats_size _ HL.out; rw [List.length_take] at this; omega
      by_cases ho : Wi.ok xs[k]
      · obtain ⟨o1, o2⟩ := ho
        have O1 := Lib.hid o1
        have O2 := Lib.hid o2
        have hne := Va.puts_ne xs[k].toNat
        have hnn := Va.puts_nn xs[k].toNat
        clear o1 o2
        have H9 : (Va.puts xs[k].toNat).size ≤ 9 := Va.puts_nine O1.out O2.out
        go_wp2_with fail
        refine (rput_yes _ _ O1.out O2.out).mono ?_
        rintro e w1 ⟨rfl, hx1⟩
        rw [show (⟨(Va.put (xs[k]).toNat).toArray⟩ : ByteArray) = Va.puts (xs[k]).toNat from rfl]
        have hcell1 : w1.cell? ⟨b, o + k, none⟩ = some (.int .i64 xs[k]) := by
          rw [Below.cell (hx.trans hx1) hb]; exact HC.out
        go_wp2_with fail
        refine (rput_yes _ _ O1.out O2.out).mono ?_
        rintro e w2 ⟨rfl, hx2⟩
        rw [show (⟨(Va.put (xs[k]).toNat).toArray⟩ : ByteArray) = Va.puts (xs[k]).toNat from rfl]
        go_wp2
        go_roundw
        case rel =>
          refine ⟨k + 1, by omega, by go_num, by rw [HT.out, Wi.cats_snoc], ?_, (hx.trans hx1).trans hx2⟩
          rw [HT.out]
          intro x hx
          rcases List.mem_append.1 hx with hx | hx
          · exact HL.out x hx
          · rw [List.mem_singleton.1 hx]; exact ⟨O1.out, O2.out⟩
        case measure => simp [intOf]; omega
      · have HO := Lib.hid ho; clear ho
        have HNO : Hid (Wi.nums xs = ⟨#[]⟩) := Lib.hid (by unfold Wi.nums; rw [Wi.numsL_no xs ⟨xs[k], List.getElem_mem hlt, HO.out⟩])
        go_wp2_with fail
        refine (rput_no _ _ (by have := HO.out; unfold Wi.ok at this; omega)).mono ?_
        rintro e w1 ⟨rfl, rfl⟩
        go_wp2
        go_ret
        rw [HNO.out]
        exact ⟨rfl, hx⟩
    · obtain rfl : k = xs.length := by omega
      have HNO : Hid (Wi.nums xs = Wi.cats xs) := Lib.hid (by
        unfold Wi.nums
        rw [Wi.numsL_ok xs (by have := HL.out; rwa [List.take_length] at this)]
        rfl)
      go_wp2
      go_ret
      rw [HNO.out, List.take_length]
      exact ⟨rfl, hx⟩

def Wi.H : List UInt8 := [83, 72, 84, 76, 1]
theorem Wi.head_is (L : List UInt8) (m : Nat) (hm : m = min L.length 5) : Wi.head L = if L.take m = Wi.H.take m then (if m < 5 then (0, 10) else (5, 0)) else (0, 20) := by
  unfold Wi.head Lib.hasPrefix
  have hH : Wi.H.length = 5 := rfl
  have iff1 : ∀ a b : List UInt8, a.isPrefixOf b = true ↔ b.take a.length = a := fun a b => by
    rw [List.isPrefixOf_iff_prefix, List.prefix_iff_eq_take]; exact eq_comm
  rw [show ([83, 72, 84, 76, 1] : List UInt8) = Wi.H from rfl]
  by_cases h5 : 5 ≤ L.length
  · have hm5 : m = 5 := by omega
    subst hm5
    have e5 : Wi.H.take 5 = Wi.H := rfl
    rw [e5]
    by_cases h : L.take 5 = Wi.H
    · rw [if_pos ((iff1 Wi.H L).2 h), if_pos h, if_neg (by omega)]
    · rw [if_neg (fun hp => h ((iff1 Wi.H L).1 hp)), if_neg h, if_neg]
      intro hp
      have h2 := (iff1 _ _).1 hp
      have h3 := congrArg List.length h2
      rw [List.length_take, hH] at h3
      apply h
      rw [← h2, show L.length = 5 by omega]
      rfl
  · have hms : m = L.length := by omega
    subst hms
    rw [List.take_length]
    rw [if_neg (fun hp => by
      have := congrArg List.length ((iff1 _ _).1 hp)
      rw [List.length_take, hH] at this
      omega)]
    by_cases h : L = Wi.H.take L.length
    · rw [if_pos ((iff1 _ _).2 h.symm), if_pos h, if_pos (by omega)]
    · rw [if_neg (fun hp => h ((iff1 _ _).1 hp).symm), if_neg h]

end Go.Proofs.Ythkogcgdikgkaaa
