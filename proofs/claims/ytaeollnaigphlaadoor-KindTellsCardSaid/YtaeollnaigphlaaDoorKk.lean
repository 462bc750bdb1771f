/-
  KindTells.
-/
import Derived.Test.YtaeollnaigphlaaDoorKj
import Derived.Test.YtaeollnaigphlaaDoorGb
set_option linter.unusedVariables false
set_option linter.unusedSimpArgs false
namespace Go.Proofs.YtaeollnaigphlaaDoor
open Go.RowKit Go.Maps

theorem rknown_eq (k : Int) (b : Bool) (h : Ki.known k = b) (w : World) : Calls Tryd.prog 14 #[.int .i64 k] w fun e w' => e = .returned (.bool b) ∧ w = w' := by subst h; exact rknown_any k w
theorem rexp_eq (k : Int) (b : Bool) (h : Ki.exp k = b) (w : World) : Calls Tryd.prog 16 #[.int .i64 k] w fun e w' => e = .returned (.bool b) ∧ w = w' := by subst h; exact rexp_any k w
set_option maxRecDepth 100000 in
set_option maxHeartbeats 4000000 in
theorem walk_KindTells (k : Int) (s : ByteArray) (W : World) (wk : (Lit.int .i64 k).wf = true) (ws : s.size ≤ maxLen) (ht : Tab W) :
    Calls Tryd.prog 3 #[.int .i64 k, .string s] W fun e W' => e = .returned (.bool true) ∧ Ext W W' := by
  have HT := Lib.hid ht
  have HF := Lib.hid (kfixed_yes W ht)
  have HS := Lib.hid ws
  clear ht wk ws
  by_cases hs : 100 < s.size
  · go_enter Tryd.func3, Tryd.ntmps3
    go_wp2_with fail
    refine HF.out.mono ?_
    rintro e w1 ⟨rfl, h1⟩
    have H1 := Lib.hid h1
    clear h1
    go_wp2
    go_ret
    exact ⟨rfl, H1.out⟩
  · obtain ⟨nm, hnm⟩ : ∃ nm, Ki.name k = nm := ⟨_, rfl⟩
    obtain ⟨kn, hkn⟩ : ∃ b, Ki.known k = b := ⟨_, rfl⟩
    obtain ⟨ke, hke⟩ : ∃ b, Ki.exp k = b := ⟨_, rfl⟩
    obtain ⟨xs, hxs⟩ : ∃ xs, Ki.args k = xs := ⟨_, rfl⟩
    obtain ⟨n, hn⟩ : ∃ n, Ki.of s = n := ⟨_, rfl⟩
    have HL : Hid (xs.length ≤ 3) := Lib.hid (by rw [← hxs]; exact Ki.args_le k)
    have HNM := Lib.hid fun v (h : Ext W v) => kname_any k v (HT.out.ext h)
    have HRN := Lib.hid fun v => rkname_any k v
    have HKN := Lib.hid fun v => known_eq k kn hkn v
    have HRKN := Lib.hid fun v => rknown_eq k kn hkn v
    have HKE := Lib.hid fun v => exp_eq k ke hke v
    have HRKE := Lib.hid fun v => rexp_eq k ke hke v
    have HA := Lib.hid fun v => args_any k v
    have HRA := Lib.hid fun v => rargs_any k v
    have HO := Lib.hid fun v (h : Ext W v) => kof_any s v (HT.out.ext h) HS.out
    have HRO := Lib.hid fun v => rkof_any s v HS.out
    unfold ArgsPost at HA HRA
    rw [hnm] at HNM HRN
    rw [hxs] at HA HRA
    rw [hn] at HO HRO
    clear hnm hkn hke hxs hn
    go_enter Tryd.func3, Tryd.ntmps3
    go_wp2_with fail
    refine HF.out.mono ?_
    rintro e w1 ⟨rfl, h1⟩
    have H1 := Lib.hid h1
    clear h1
    go_wp2_with fail
    refine (HNM.out w1 H1.out).mono ?_
    rintro e w2 ⟨rfl, h2⟩
    have H2 := Lib.hid (H1.out.trans h2)
    clear h2
    go_wp2_with fail
    refine (HRN.out w2).mono ?_
    rintro e w3 ⟨rfl, h3⟩
    have H3 := Lib.hid (H2.out.trans h3)
    clear h3
    go_wp2_with fail
    refine (HA.out w3).mono ?_
    rintro e w4 ⟨v, rfl, A, c, rfl, _, hA, hx, _⟩
    have H4 := Lib.hid (H3.out.trans hx)
    have HV := Lib.hid hA
    clear hA hx
    go_wp2_with fail
    refine (HRA.out w4).mono ?_
    rintro e w5 ⟨v, rfl, A2, c2, rfl, _, hA, hx, _⟩
    have H5 := Lib.hid (H4.out.trans hx)
    have HV1 := Lib.hid (HV.out.ext hx)
    have HV2 := Lib.hid hA
    clear hA hx
    go_wp2_with fail
    refine (rints_eq _ _ xs xs true (by simp) w5 HV1.out HV2.out (by have := HL.out; omega)).mono ?_
    rintro e w6 ⟨rfl, hx⟩
    have H6 := Lib.hid (H5.out.trans hx)
    clear hx
    go_wp2_with fail
    refine (HKN.out w6).mono ?_
    rintro e w7 ⟨rfl, rfl⟩
    go_wp2_with fail
    refine (HRKN.out w6).mono ?_
    rintro e w7 ⟨rfl, rfl⟩
    go_wp2_with fail
    refine (HKE.out w6).mono ?_
    rintro e w7 ⟨rfl, rfl⟩
    go_wp2_with fail
    refine (HRKE.out w6).mono ?_
    rintro e w7 ⟨rfl, rfl⟩
    go_wp2_with fail
    refine (HO.out w6 H6.out).mono ?_
    rintro e w7 ⟨rfl, hx⟩
    have H7 := Lib.hid (H6.out.trans hx)
    clear hx
    go_wp2_with fail
    refine (HRO.out w7).mono ?_
    rintro e w8 ⟨rfl, hx⟩
    have H8 := Lib.hid (H7.out.trans hx)
    clear hx
    go_wp2
    go_ret
    exact ⟨rfl, H8.out⟩

end Go.Proofs.YtaeollnaigphlaaDoor
