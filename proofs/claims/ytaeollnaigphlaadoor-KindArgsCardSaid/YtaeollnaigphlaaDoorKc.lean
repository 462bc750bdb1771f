/-
  The kind of a name: contract of the program's Of.
-/
import Derived.Test.YtaeollnaigphlaaDoorKb
set_option linter.unusedVariables false
set_option linter.unusedSimpArgs false
namespace Go.Proofs.YtaeollnaigphlaaDoor
open Go.RowKit

def Ki.hit (s : ByteArray) (k : Nat) : Bool := (Ki.known k || Ki.exp k) && ((Ki.name k).toList == s.toList)
def Ki.of (s : ByteArray) : Nat := ((List.range 256).find? (Ki.hit s)).getD 0
theorem Ki.of_some {s : ByteArray} {k : Nat} (hk : k < 256) (h : Ki.hit s k = true) (hn : ∀ j, j < k → Ki.hit s j = false) : Ki.of s = k := by
  unfold Ki.of
  rw [List.find?_range_eq_some.2 ⟨h, List.mem_range.2 hk, fun j hj => by simp [hn j hj]⟩]
  rfl
theorem Ki.of_none {s : ByteArray} (hn : ∀ j, j < 256 → Ki.hit s j = false) : Ki.of s = 0 := by
  unfold Ki.of
  rw [List.find?_range_eq_none.2 fun j hj => by simp [hn j hj]]
  rfl
set_option maxRecDepth 100000 in
set_option maxHeartbeats 1000000 in
theorem kof_any (s : ByteArray) (w : World) (ht : Tab w) (hs : s.size ≤ maxLen) : Calls Tryd.prog 17 #[.string s] w fun e w' => e = .returned (.int .i64 (Ki.of s : Nat)) ∧ Ext w w' := by
  have HT := Lib.hid ht
  obtain ⟨r, hr⟩ : ∃ r, Ki.of s = r := ⟨_, rfl⟩
  have HR := Lib.hid hr
  rw [hr]
  have HZ : Hid (∀ j, j < 1 → Ki.hit s j = false) := Lib.hid fun j hj => by
    obtain rfl : j = 0 := by omega
    rfl
  clear ht hr hs
  go_enter Tryd.func17, Tryd.ntmps17
  go_wp2
  go_loopw [3] (fun iv wr => ∃ k : Nat, 1 ≤ k ∧ k ≤ 256 ∧ iv = .int .i64 k ∧ Hid (∀ j, j < k → Ki.hit s j = false) ∧ Ext w wr) (fun iv _ => 256 - (intOf iv).toNat)
  case atStart => exact ⟨1, by omega, by omega, rfl, HZ, Ext.refl _⟩
  case round =>
    obtain ⟨k, hk1, hk2, rfl, HN, hx⟩ := hrel
    have HX := Lib.hid hx
    clear hx
    by_cases hlt : k ≤ 255
    · have hlt' : (k : Int) ≤ 255 := by omega
      have HM : Hid (Ki.hit s k = false → ∀ j, j < k + 1 → Ki.hit s j = false) := Lib.hid fun h j hj => by
        by_cases hjk : j < k
        · exact HN.out j hjk
        · obtain rfl : j = k := by omega
          exact h
      have HF : Hid (Ki.hit s k = true → r = k) := Lib.hid fun h => by rw [← HR.out]; exact Ki.of_some (by omega) h HN.out
      have HH : Hid (Ki.hit s k = ((Ki.known k || Ki.exp k) && ((Ki.name k).toList == s.toList))) := Lib.hid rfl
      generalize Ki.hit s k = hb at *
      have HKN := Lib.hid (known_any k wr)
      have HKE := Lib.hid (exp_any k wr)
      have HNM := Lib.hid fun v (hv : Ext wr v) => kname_any k v (HT.out.ext (HX.out.trans hv))
      generalize Ki.name k = nm at *
      generalize Ki.known k = kn at *
      generalize Ki.exp k = ke at *
      cases kn with
      | true =>
        cases hq : (nm.toList == s.toList) with
        | true =>
          obtain rfl := HF.out (by rw [HH.out, hq]; rfl)
          have HQ := Lib.hid hq
          clear hq
          go_wp2_with fail
          refine HKN.out.mono ?_
          rintro e w2 ⟨rfl, rfl⟩
          go_wp2_with fail
          refine (HNM.out wr (Ext.refl _)).mono ?_
          rintro e w2 ⟨rfl, hx2⟩
          have hq := HQ.out
          go_wp2
          go_ret
          exact ⟨rfl, HX.out.trans hx2⟩
        | false =>
          have HG := Lib.hid (HM.out (by rw [HH.out, hq]; rfl))
          have HQ := Lib.hid hq
          clear hq
          go_wp2_with fail
          refine HKN.out.mono ?_
          rintro e w2 ⟨rfl, rfl⟩
          go_wp2_with fail
          refine (HNM.out wr (Ext.refl _)).mono ?_
          rintro e w2 ⟨rfl, hx2⟩
          have hq := HQ.out
          go_wp2
          go_roundw
          case rel => exact ⟨k + 1, by omega, by omega, by go_num, HG, HX.out.trans hx2⟩
          case measure => simp [intOf]; omega
      | false =>
        cases ke with
        | true =>
          cases hq : (nm.toList == s.toList) with
          | true =>
            obtain rfl := HF.out (by rw [HH.out, hq]; rfl)
            have HQ := Lib.hid hq
            clear hq
            go_wp2_with fail
            refine HKN.out.mono ?_
            rintro e w2 ⟨rfl, rfl⟩
            go_wp2_with fail
            refine HKE.out.mono ?_
            rintro e w2 ⟨rfl, rfl⟩
            go_wp2_with fail
            refine (HNM.out wr (Ext.refl _)).mono ?_
            rintro e w2 ⟨rfl, hx2⟩
            have hq := HQ.out
            go_wp2
            go_ret
            exact ⟨rfl, HX.out.trans hx2⟩
          | false =>
            have HG := Lib.hid (HM.out (by rw [HH.out, hq]; rfl))
            have HQ := Lib.hid hq
            clear hq
            go_wp2_with fail
            refine HKN.out.mono ?_
            rintro e w2 ⟨rfl, rfl⟩
            go_wp2_with fail
            refine HKE.out.mono ?_
            rintro e w2 ⟨rfl, rfl⟩
            go_wp2_with fail
            refine (HNM.out wr (Ext.refl _)).mono ?_
            rintro e w2 ⟨rfl, hx2⟩
            have hq := HQ.out
            go_wp2
            go_roundw
            case rel => exact ⟨k + 1, by omega, by omega, by go_num, HG, HX.out.trans hx2⟩
            case measure => simp [intOf]; omega
        | false =>
          have HG := Lib.hid (HM.out (by rw [HH.out]; rfl))
          go_wp2_with fail
          refine HKN.out.mono ?_
          rintro e w2 ⟨rfl, rfl⟩
          go_wp2_with fail
          refine HKE.out.mono ?_
          rintro e w2 ⟨rfl, rfl⟩
          go_wp2
          go_roundw
          case rel => exact ⟨k + 1, by omega, by omega, by go_num, HG, HX.out⟩
          case measure => simp [intOf]; omega
    · obtain rfl : k = 256 := by omega
      obtain rfl : r = 0 := by rw [← HR.out]; exact Ki.of_none HN.out
      go_wp2
      go_ret
      exact ⟨rfl, HX.out⟩

end Go.Proofs.YtaeollnaigphlaaDoor
