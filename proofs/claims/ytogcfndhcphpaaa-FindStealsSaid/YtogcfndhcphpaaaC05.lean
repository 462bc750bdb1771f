/-
  Several texts in one: Nn, Tc, Td, Tp, Tzf, Gf, Te, Tf.
-/
import Derived.Test.YtogcfndhcphpaaaC04
import Derived.Test.YtogcfndhcphpaaaC01
import Derived.Test.YtogcfndhcphpaaaC02
import Derived.Test.YtogcfndhcphpaaaC03
import Derived.Lib.SliceRun
import Derived.ChangeKeysEq
set_option linter.unusedVariables false
set_option linter.unusedSimpArgs false
namespace Go.Proofs.Ytogcfndhcphpaaa
open Go.RowKit
set_option maxRecDepth 100000 in
set_option maxHeartbeats 1000000 in
theorem rrmay_out (b0 b1 b2 b3 b4 b5 b6 b7 hd nn : Int) (w : World) (h : hd < 0 ∨ (0 ≤ hd ∧ (7 < hd ∨ (hd ≤ 7 ∧ (nn < 0 ∨ (0 ≤ nn ∧ 8 < nn)))))) :
    Calls Try.prog 70 #[.agg #[.int .i64 b0, .int .i64 b1, .int .i64 b2, .int .i64 b3, .int .i64 b4, .int .i64 b5, .int .i64 b6, .int .i64 b7, .int .i64 hd, .int .i64 nn]] w fun e w' => e = .returned (.bool false) ∧ Ext w w' := by
  rcases h with h | ⟨h1, h | ⟨h2, h | ⟨h3, h⟩⟩⟩
  all_goals
    go_enter Try.func70, Try.ntmps70
    go_wp2
    go_ret
    exact ⟨rfl, (Ext.refl w).alloc _⟩
set_option maxRecDepth 100000 in
set_option maxHeartbeats 1000000 in
theorem rrmay_in (b0 b1 b2 b3 b4 b5 b6 b7 : Int) (hd nn : Nat) (hhd : hd < 8) (hnn : nn ≤ 8) (m : Bool) (hm : Ri.may ⟨[b0, b1, b2, b3, b4, b5, b6, b7], hd, nn⟩ = m) (w : World) :
    Calls Try.prog 70 #[.agg #[.int .i64 b0, .int .i64 b1, .int .i64 b2, .int .i64 b3, .int .i64 b4, .int .i64 b5, .int .i64 b6, .int .i64 b7, .int .i64 (hd : Int), .int .i64 (nn : Int)]] w fun e w' => e = .returned (.bool m) ∧ Ext w w' := by
  have hmi := Ri.may_nat hhd hnn (bs := [b0, b1, b2, b3, b4, b5, b6, b7])
  rw [hm] at hmi
  have HMI := Lib.hid hmi
  clear hmi hm
  have i0 : (0 : Int) ≤ (hd : Int) := by omega
  have i1 : (hd : Int) ≤ 7 := by omega
  have i2 : (0 : Int) ≤ (nn : Int) := by omega
  have i3 : (nn : Int) ≤ 8 := by omega
  have HB := Lib.hid (blk_new w (.cells #[.int .i64 b0, .int .i64 b1, .int .i64 b2, .int .i64 b3, .int .i64 b4, .int .i64 b5, .int .i64 b6, .int .i64 b7, .int .i64 (hd : Int), .int .i64 (nn : Int)] 38))
  go_enter Try.func70, Try.ntmps70
  go_wp2
  go_loop [3] (fun iv => ∃ k : Nat, k ≤ 8 ∧ iv = .int .i64 k ∧ Hid (∀ j < k, if (j + 8 - hd) % 8 < nn then 0 < ([b0, b1, b2, b3, b4, b5, b6, b7])[j]?.getD 0 else ([b0, b1, b2, b3, b4, b5, b6, b7])[j]?.getD 0 = 0)) (fun iv => 8 - (intOf iv).toNat)
  case atStart => exact ⟨0, by omega, rfl, Lib.hid fun j hj => by omega⟩
  case round =>
    obtain ⟨k, hk, rfl, HK⟩ := hrel
    by_cases hlt : k < 8
    · have e1 : IntKind.i64.wrap ((k : Int) - (hd : Int)) = (k : Int) - (hd : Int) := IntWalk.i64_in _ (by omega)
      have e2 : IntKind.i64.wrap ((k : Int) - (hd : Int) + 8) = ((k + 8 - hd : Nat) : Int) := by rw [IntWalk.i64_in _ (by omega)]; omega
      obtain ⟨q, hq⟩ : ∃ q, (k + 8 - hd) % 8 = q := ⟨_, rfl⟩
      have e3 : ((k + 8 - hd : Nat) : Int).tmod 8 = (q : Int) := by rw [Int.tmod_eq_emod_of_nonneg (by omega)]; omega
      have e4 : ((k + 8 - hd : Nat) : Int) % 8 = (q : Int) := by omega
      have e5 : IntKind.i64.wrap (q : Int) = (q : Int) := IntWalk.i64_in _ (by omega)
      have pj := blk_cell HB.out k _ (Ri.cells_buf (r := ⟨[b0, b1, b2, b3, b4, b5, b6, b7], hd, nn⟩) rfl k hlt)
      simp only at pj
      obtain ⟨x, hx⟩ : ∃ x, ([b0, b1, b2, b3, b4, b5, b6, b7])[k]?.getD 0 = x := ⟨_, rfl⟩
      rw [hx] at pj
      have HXX := Lib.hid hx
      clear hx
      have HNX : Hid (∀ j < k + 1, (j = k → if (k + 8 - hd) % 8 < nn then 0 < x else x = 0) → if (j + 8 - hd) % 8 < nn then 0 < ([b0, b1, b2, b3, b4, b5, b6, b7])[j]?.getD 0 else ([b0, b1, b2, b3, b4, b5, b6, b7])[j]?.getD 0 = 0) := Lib.hid fun j hj hjk => by
        by_cases he : j = k
        · subst he; rw [HXX.out]; exact hjk rfl
        · exact HK.out j (by omega)
      have HBAD : Hid (¬ (if (k + 8 - hd) % 8 < nn then 0 < x else x = 0) → m = false) := Lib.hid fun hn => by
        cases m with
        | false => rfl
        | true => exact absurd (by have := HMI.out.1 rfl k hlt; rw [HXX.out] at this; exact this) hn
      rw [hq] at HNX HBAD
      clear hq
      by_cases hin : q < nn
      · have d1 : decide (q < nn) = true := decide_eq_true hin
        by_cases hx1 : x < 1
        · obtain rfl := HBAD.out (by rw [if_pos hin]; omega)
          clear hin
          go_wp2
          go_ret
          exact ⟨rfl, (Ext.refl w).alloc _⟩
        · have HQ : Hid (if q < nn then 0 < x else x = 0) := Lib.hid (by rw [if_pos hin]; omega)
          clear hin
          go_wp2
          go_round
          case rel => exact ⟨k + 1, by omega, by go_num, Lib.hid fun j hj => HNX.out j hj fun _ => HQ.out⟩
          case measure => simp [intOf]; omega
      · have d1 : decide (q < nn) = false := decide_eq_false hin
        by_cases hx1 : x = 0
        · have HQ : Hid (if q < nn then 0 < x else x = 0) := Lib.hid (by rw [if_neg hin]; exact hx1)
          have d2 : (x != 0) = false := by simp [hx1]
          clear hin hx1
          go_wp2
          go_round
          case rel => exact ⟨k + 1, by omega, by go_num, Lib.hid fun j hj => HNX.out j hj fun _ => HQ.out⟩
          case measure => simp [intOf]; omega
        · obtain rfl := HBAD.out (by rw [if_neg hin]; exact hx1)
          have d2 : (x != 0) = true := by simp [hx1]
          clear hin hx1
          go_wp2
          go_ret
          exact ⟨rfl, (Ext.refl w).alloc _⟩
    · obtain rfl : k = 8 := by omega
      obtain rfl : m = true := HMI.out.2 HK.out
      go_wp2
      go_ret
      exact ⟨rfl, (Ext.refl w).alloc _⟩
theorem rrmay_k (b0 b1 b2 b3 b4 b5 b6 b7 hd nn : Int) (m : Bool) (hm : Ri.may ⟨[b0, b1, b2, b3, b4, b5, b6, b7], hd, nn⟩ = m) (w : World) :
    Calls Try.prog 70 #[.agg #[.int .i64 b0, .int .i64 b1, .int .i64 b2, .int .i64 b3, .int .i64 b4, .int .i64 b5, .int .i64 b6, .int .i64 b7, .int .i64 hd, .int .i64 nn]] w fun e w' => e = .returned (.bool m) ∧ Ext w w' := by
  cases hi : Ri.inside ⟨[b0, b1, b2, b3, b4, b5, b6, b7], hd, nn⟩ with
  | true =>
    obtain ⟨h, n, rfl, rfl, h1, h2⟩ := Ri.inside_nat hi
    exact rrmay_in b0 b1 b2 b3 b4 b5 b6 b7 h n h1 h2 m hm w
  | false =>
    have h0 : m = false := by rw [← hm]; unfold Ri.may; rw [hi]; rfl
    subst h0
    refine rrmay_out b0 b1 b2 b3 b4 b5 b6 b7 hd nn w ?_
    have : ¬ ((0 ≤ hd ∧ hd < 8) ∧ 0 ≤ nn ∧ nn ≤ 8) := fun h => by rw [(Ri.inside_iff ⟨[b0, b1, b2, b3, b4, b5, b6, b7], hd, nn⟩).2 h] at hi; cases hi
    omega
theorem OwnInts.lower {w : World} {B C : Nat} {v : Value} {xs : List Int} (h : OwnInts w B v xs) (hb : C ≤ B) : OwnInts w C v xs := by
  refine ⟨h.1, ?_⟩
  rcases h.2 with hv | ⟨g, cap, cur, hv, hb', rest⟩
  · exact .inl hv
  · exact .inr ⟨g, cap, cur, hv, by omega, rest⟩
set_option maxRecDepth 100000 in
set_option maxHeartbeats 1000000 in
theorem rrlist_no (b0 b1 b2 b3 b4 b5 b6 b7 hd nn : Int) (hm : Ri.may ⟨[b0, b1, b2, b3, b4, b5, b6, b7], hd, nn⟩ = false) (w : World) :
    Calls Try.prog 31 #[.agg #[.int .i64 b0, .int .i64 b1, .int .i64 b2, .int .i64 b3, .int .i64 b4, .int .i64 b5, .int .i64 b6, .int .i64 b7, .int .i64 hd, .int .i64 nn]] w fun e w' => ∃ v, e = .returned v ∧ OwnInts w' w.heap.size v [] ∧ Ext w w' := by
  have HM := Lib.hid hm
  clear hm
  have HB := Lib.hid (blk_alloc (blk_new w (.cells #[.int .i64 b0, .int .i64 b1, .int .i64 b2, .int .i64 b3, .int .i64 b4, .int .i64 b5, .int .i64 b6, .int .i64 b7, .int .i64 hd, .int .i64 nn] 38)) (.cells #[] 3))
  have HO0 : Hid (OwnInts ((w.alloc (.cells #[.int .i64 b0, .int .i64 b1, .int .i64 b2, .int .i64 b3, .int .i64 b4, .int .i64 b5, .int .i64 b6, .int .i64 b7, .int .i64 hd, .int .i64 nn] 38)).alloc (.cells #[] 3)) w.heap.size (.slice (some ⟨w.heap.size + 1, 0, none⟩) 0 0) []) := Lib.hid (by
    have := World.ownsRow_made (base := w.heap.size) (e := 3) (size := 1) (w.alloc (.cells #[.int .i64 b0, .int .i64 b1, .int .i64 b2, .int .i64 b3, .int .i64 b4, .int .i64 b5, .int .i64 b6, .int .i64 b7, .int .i64 hd, .int .i64 nn] 38)) #[] 0 (by simp) (by decide) rfl
    rw [World.size_alloc] at this
    exact this)
  go_enter Try.func31, Try.ntmps31
  go_wp2
  go_loopw [3, 4] (fun ov iv wr => ov = .slice (some ⟨w.heap.size + 1, 0, none⟩) 0 0 ∧ iv = .int .i64 0 ∧ OwnInts wr w.heap.size (.slice (some ⟨w.heap.size + 1, 0, none⟩) 0 0) [] ∧ wr.heap[w.heap.size]? = some (.cells #[.int .i64 b0, .int .i64 b1, .int .i64 b2, .int .i64 b3, .int .i64 b4, .int .i64 b5, .int .i64 b6, .int .i64 b7, .int .i64 hd, .int .i64 nn] 38 (0, 0)) ∧ Ext w wr) (fun _ iv _ => 0)
  case atStart => exact ⟨rfl, rfl, HO0.out, HB.out, ((Ext.refl w).alloc _).alloc _⟩
  case round =>
    obtain ⟨rfl, rfl, ho, hb, hx⟩ := hrel
    have HO0 := Lib.hid ho
    clear ho
    obtain ⟨⟨q0, q1, q2, q3, q4⟩, q5, q6, q7, q8, q9⟩ := cells10 hb
    clear hb
    go_wp2_with fail
    refine (rrmay_k b0 b1 b2 b3 b4 b5 b6 b7 hd nn _ HM.out _).mono ?_
    rintro r w1 ⟨rfl, hx1⟩
    go_wp2
    go_ret
    exact ⟨_, rfl, HO0.out.ext hx1, hx.trans hx1⟩
set_option maxRecDepth 100000 in
set_option maxHeartbeats 2000000 in
theorem rrlist_in (b0 b1 b2 b3 b4 b5 b6 b7 : Int) (hd nn : Nat) (hhd : hd < 8) (hnn : nn ≤ 8) (hm : Ri.may ⟨[b0, b1, b2, b3, b4, b5, b6, b7], hd, nn⟩ = true) (l : List Int) (hl : l = (List.range nn).map fun i => ([b0, b1, b2, b3, b4, b5, b6, b7])[(hd + i) % 8]?.getD 0) (w : World) :
    Calls Try.prog 31 #[.agg #[.int .i64 b0, .int .i64 b1, .int .i64 b2, .int .i64 b3, .int .i64 b4, .int .i64 b5, .int .i64 b6, .int .i64 b7, .int .i64 (hd : Int), .int .i64 (nn : Int)]] w fun e w' => ∃ v, e = .returned v ∧ OwnInts w' w.heap.size v l ∧ Ext w w' := by
  have HM := Lib.hid hm
  have HL := Lib.hid hl
  have hn : l.length = nn := by rw [hl]; simp
  have HN := Lib.hid hn
  clear hm hl hn
  have HB := Lib.hid (blk_alloc (blk_new w (.cells #[.int .i64 b0, .int .i64 b1, .int .i64 b2, .int .i64 b3, .int .i64 b4, .int .i64 b5, .int .i64 b6, .int .i64 b7, .int .i64 (hd : Int), .int .i64 (nn : Int)] 38)) (.cells #[] 3))
  have HO0 : Hid (OwnInts ((w.alloc (.cells #[.int .i64 b0, .int .i64 b1, .int .i64 b2, .int .i64 b3, .int .i64 b4, .int .i64 b5, .int .i64 b6, .int .i64 b7, .int .i64 (hd : Int), .int .i64 (nn : Int)] 38)).alloc (.cells #[] 3)) (w.heap.size + 1) (.slice (some ⟨w.heap.size + 1, 0, none⟩) 0 0) []) := Lib.hid (by
    have := World.ownsRow_made (base := w.heap.size + 1) (e := 3) (size := 1) (w.alloc (.cells #[.int .i64 b0, .int .i64 b1, .int .i64 b2, .int .i64 b3, .int .i64 b4, .int .i64 b5, .int .i64 b6, .int .i64 b7, .int .i64 (hd : Int), .int .i64 (nn : Int)] 38)) #[] 0 (by simp) (by decide) rfl
    rw [World.size_alloc] at this
    exact this)
  go_enter Try.func31, Try.ntmps31
  go_wp2
  go_loopw [3, 4] (fun ov iv wr => ∃ (u : Value) (j : Nat) (m : List Int), u = ov ∧ j ≤ nn ∧ iv = .int .i64 j ∧ m = l.take j ∧ OwnInts wr (w.heap.size + 1) u m ∧ wr.heap[w.heap.size]? = some (.cells #[.int .i64 b0, .int .i64 b1, .int .i64 b2, .int .i64 b3, .int .i64 b4, .int .i64 b5, .int .i64 b6, .int .i64 b7, .int .i64 (hd : Int), .int .i64 (nn : Int)] 38 (0, 0)) ∧ Ext w wr ∧ w.heap.size + 2 ≤ wr.heap.size) (fun _ iv _ => nn - (intOf iv).toNat)
  case atStart => exact ⟨_, 0, [], rfl, by omega, rfl, by simp, HO0.out, HB.out, ((Ext.refl w).alloc _).alloc _, by simp⟩
  case round =>
    obtain ⟨u, j, m, hu, hj, rfl, hmm, hown, hb, hx, hsr⟩ := hrel
    subst hu
    have HOWN := Lib.hid hown
    have HMM := Lib.hid hmm
    have HTL : Hid (m.length = j) := Lib.hid (by rw [hmm, List.length_take, HN.out]; omega)
    have HBR := Lib.hid hb
    have HX := Lib.hid hx
    obtain ⟨A0, a0, rfl⟩ := OwnInts.form HOWN.out
    clear hown hmm hb hx
    obtain ⟨⟨q0, q1, q2, q3, q4⟩, q5, q6, q7, q8, q9⟩ := cells10 HBR.out
    by_cases hlt : j < nn
    · skip
      go_wp2_with fail
      refine (rrmay_k b0 b1 b2 b3 b4 b5 b6 b7 hd nn _ HM.out _).mono ?_
      rintro r wq ⟨rfl, hx5⟩
      clear q0 q1 q2 q3 q4 q5 q6 q7 q8 q9
      obtain ⟨x, hxg⟩ : ∃ x, ([b0, b1, b2, b3, b4, b5, b6, b7])[(hd + j) % 8]?.getD 0 = x := ⟨_, rfl⟩
      have pj := blk_cell (hx5.blk HBR.out) ((hd + j) % 8) _ (Ri.cells_buf (r := ⟨[b0, b1, b2, b3, b4, b5, b6, b7], hd, nn⟩) rfl _ (by omega))
      have p8 := blk_cell (hx5.blk HBR.out) 8 (.int .i64 (hd : Int)) rfl
      have p9 := blk_cell (hx5.blk HBR.out) 9 (.int .i64 (nn : Int)) rfl
      simp only at pj
      rw [hxg] at pj
      have htk : m ++ [x] = l.take (j + 1) := by
        have hlj : j < l.length := by rw [HN.out]; exact hlt
        rw [HMM.out, List.take_succ_eq_append_getElem hlj]
        congr 2
        have := HL.out
        subst this
        simp [hxg]
      have HTK := Lib.hid htk
      have e1 : IntKind.i64.wrap ((hd : Int) + (j : Int)) = ((hd + j : Nat) : Int) := IntWalk.i64_in _ (by omega)
      have e2 : ((hd + j : Nat) : Int).tmod 8 = (((hd + j) % 8 : Nat) : Int) := by rw [Int.tmod_eq_emod_of_nonneg (by omega)]; omega
      have e3 : (0 : Int) ≤ (((hd + j) % 8 : Nat) : Int) := by omega
      have e4 : (((hd + j) % 8 : Nat) : Int) < 8 := by omega
      have hszq := hx5.size
      have hub : ∀ k, (Value.slice A0 m.length a0).ownBlock = some k → w.heap.size + 1 ≤ k := fun k hk => (World.ownsRow.lt HOWN.out k hk).1
      have HO5 := Lib.hid (HOWN.out.ext hx5)
      have HX5 := Lib.hid (HX.out.trans hx5)
      have HB5 := Lib.hid (hx5.blk HBR.out)
      clear hxg htk hx5 HOWN HMM HX HBR
      obtain ⟨u, w8, hr8, ho8, hg8⟩ := OwnInts.appendS 27 (OwnInts.alloc HO5.out (.cells #[.int .i64 x] 3)) (m := [x]) (ints_one wq x) (by have := HTL.out; simp; omega) (by simp; omega)
      simp only [List.length_singleton] at hr8
      have HR8 := Lib.hid hr8
      have hX8 := Below.grown (HX5.out.alloc (.cells #[.int .i64 x] 3)) hg8 (by rw [World.size_alloc]; omega) (fun k hk => by have := hub k hk; omega)
      have hb8 : w8.heap[w.heap.size]? = some (.cells #[.int .i64 b0, .int .i64 b1, .int .i64 b2, .int .i64 b3, .int .i64 b4, .int .i64 b5, .int .i64 b6, .int .i64 b7, .int .i64 (hd : Int), .int .i64 (nn : Int)] 38 (0, 0)) := (hg8.block w.heap.size (by rw [World.size_alloc]; omega) (fun hk => by have := hub _ hk.symm; omega)).trans (blk_alloc HB5.out _)
      have hs8 := hg8.size
      rw [World.size_alloc] at hs8
      have HEND : Hid (OwnInts w8 (w.heap.size + 1) u (m ++ [x]) ∧ w8.heap[w.heap.size]? = some (.cells #[.int .i64 b0, .int .i64 b1, .int .i64 b2, .int .i64 b3, .int .i64 b4, .int .i64 b5, .int .i64 b6, .int .i64 b7, .int .i64 (hd : Int), .int .i64 (nn : Int)] 38 (0, 0)) ∧ Ext w w8 ∧ w.heap.size + 2 ≤ w8.heap.size) := Lib.hid ⟨ho8, hb8, hX8, by omega⟩
      clear hr8 ho8 hg8 hub hX8 hb8
      go_wp2_with (at_builtin; refine wpList_append_run rfl _ _ 27 rfl _ _ rfl rfl HR8.out ?_)
      go_roundw
      case rel => exact ⟨u, j + 1, m ++ [x], rfl, by omega, by go_num, HTK.out, HEND.out⟩
      case measure => simp [intOf]; omega
    · obtain rfl : j = nn := by omega
      have hml := HMM.out
      rw [← HN.out, List.take_length] at hml
      obtain rfl : l = m := hml.symm
      have HO9 := Lib.hid (OwnInts.lower HOWN.out (show w.heap.size ≤ w.heap.size + 1 by omega))
      clear HMM HOWN hml
      go_wp2_with fail
      refine (rrmay_k b0 b1 b2 b3 b4 b5 b6 b7 hd j _ HM.out _).mono ?_
      rintro r wq ⟨rfl, hx5⟩
      clear q0 q1 q2 q3 q4 q5 q6 q7 q8 q9
      have p9 := blk_cell (hx5.blk HBR.out) 9 (.int .i64 (j : Int)) rfl
      go_wp2
      go_ret
      exact ⟨_, rfl, HO9.out.ext hx5, HX.out.trans hx5⟩
theorem rrlist_k (b0 b1 b2 b3 b4 b5 b6 b7 hd nn : Int) (l : List Int) (h : Ri.list ⟨[b0, b1, b2, b3, b4, b5, b6, b7], hd, nn⟩ = l) (w : World) :
    Calls Try.prog 31 #[.agg #[.int .i64 b0, .int .i64 b1, .int .i64 b2, .int .i64 b3, .int .i64 b4, .int .i64 b5, .int .i64 b6, .int .i64 b7, .int .i64 hd, .int .i64 nn]] w fun e w' => ∃ v, e = .returned v ∧ OwnInts w' w.heap.size v l ∧ Ext w w' := by
  subst h
  cases hm : Ri.may ⟨[b0, b1, b2, b3, b4, b5, b6, b7], hd, nn⟩ with
  | false =>
    have : Ri.list ⟨[b0, b1, b2, b3, b4, b5, b6, b7], hd, nn⟩ = [] := by unfold Ri.list; rw [hm]; rfl
    rw [this]
    exact rrlist_no b0 b1 b2 b3 b4 b5 b6 b7 hd nn hm w
  | true =>
    have hi : Ri.inside ⟨[b0, b1, b2, b3, b4, b5, b6, b7], hd, nn⟩ = true := by have := hm; unfold Ri.may at this; rw [Bool.and_eq_true] at this; exact this.1
    obtain ⟨a, n, rfl, rfl, h1, h2⟩ := Ri.inside_nat hi
    refine rrlist_in b0 b1 b2 b3 b4 b5 b6 b7 a n h1 h2 hm _ ?_ w
    unfold Ri.list
    rw [if_pos hm]
    rfl
theorem ints_made (w : World) : OwnInts (w.alloc (.cells #[] 3)) w.heap.size (.slice (some ⟨w.heap.size, 0, none⟩) 0 0) [] := World.ownsRow_made (base := w.heap.size) (e := 3) (size := 1) w #[] 0 (Nat.le_refl _) (by decide) rfl
theorem ints_push {W w : World} {B n : Nat} {u : Value} {l : List Int} (h : OwnInts w B u l) (hn : n = l.length) (hB : W.heap.size ≤ B) (hw : B ≤ w.heap.size) (hx : Ext W w) (x : Int) (hl : l.length ≤ 10000000) :
    ∃ A c w', (Builtin.append_ #[27, 27] 27 #[u, .slice (some ⟨w.heap.size, 0, none⟩) 1 1]).run Try.prog (w.alloc (.cells #[.int .i64 x] 3)) = .ok (.slice A (n + 1) c) w' ∧ OwnInts w' B (.slice A (n + 1) c) (l ++ [x]) ∧ Ext W w' ∧ w.heap.size ≤ w'.heap.size := by
  subst hn
  obtain ⟨u', w', hr, ho, hg⟩ := OwnInts.appendS 27 (OwnInts.alloc h (.cells #[.int .i64 x] 3)) (m := [x]) (ints_one w x) (by simp; omega) (by simp; omega)
  obtain ⟨A, c, hu⟩ := ho.form
  rw [List.length_append, List.length_singleton] at hu
  subst hu
  refine ⟨A, c, w', hr, ho, Below.grown (hx.alloc _) hg (hx.alloc _).size fun k hk => ?_, ?_⟩
  · have := (World.ownsRow.lt h k hk).1; omega
  · have := hg.size; rw [World.size_alloc] at this; omega
theorem ints_more {W w : World} {B n k c0 : Nat} {u : Value} {l m : List Int} {A0 : Option Addr} (h : OwnInts w B u l) (hn : n = l.length) (hk : k = m.length) (hv : IntsAt w (.slice A0 k c0) m) (hB : W.heap.size ≤ B) (hw : B ≤ w.heap.size) (hx : Ext W w) (hl : l.length + m.length ≤ 100000000) :
    ∃ A c w', (Builtin.append_ #[27, 27] 27 #[u, .slice A0 k c0]).run Try.prog w = .ok (.slice A (n + k) c) w' ∧ OwnInts w' B (.slice A (n + k) c) (l ++ m) ∧ Ext W w' ∧ w.heap.size ≤ w'.heap.size := by
  subst hn hk
  obtain ⟨u', w', hr, ho, hg⟩ := OwnInts.appendS 27 h hv hl hw
  obtain ⟨A, c, hu⟩ := ho.form
  rw [List.length_append] at hu
  subst hu
  exact ⟨A, c, w', hr, ho, Below.grown hx hg hx.size fun k hk => by have := (World.ownsRow.lt h k hk).1; omega, hg.size⟩
theorem OwnInts.at {w : World} {B n c : Nat} {A : Option Addr} {xs : List Int} (h : OwnInts w B (.slice A n c) xs) : n = xs.length ∧ IntsAt w (.slice A n c) xs := by
  obtain ⟨A', c', hv, hi⟩ := h.ints
  simp only [Value.slice.injEq] at hv
  obtain ⟨rfl, rfl, rfl⟩ := hv
  exact ⟨rfl, hi⟩
theorem ints_get {w : World} {A : Option Addr} {n c : Nat} {xs : List Int} (h : IntsAt w (.slice A n c) xs) {k : Nat} {x : Int} (hk : xs[k]? = some x) : ∃ b o, A = some ⟨b, o, none⟩ ∧ b < w.heap.size ∧ w.cell? ⟨b, o + k, none⟩ = some (.int .i64 x) := by
  obtain ⟨A', c', hv, hA⟩ := h
  simp only [Value.slice.injEq] at hv
  obtain ⟨rfl, _, rfl⟩ := hv
  obtain ⟨b, o, hb, hlt, hc⟩ := hA (by have := (List.getElem?_eq_some_iff.1 hk).1; omega)
  exact ⟨b, o, hb, hlt, hc k x hk⟩
set_option maxHeartbeats 1000000 in
theorem rlow_k (n : Int) (r : Bool) (hr : St.low n = r) (w : World) : Calls Try.prog 74 #[.int .i64 n] w fun e w' => e = .returned (.bool r) ∧ w' = w := by
  subst hr
  unfold St.low
  have h63 : Hid ((2305843009213693952 : Int) = 2305843009213693952) := Lib.hid rfl
  by_cases h0 : 0 ≤ n
  · by_cases h1 : n < 2305843009213693952
    · rw [decide_eq_true (show 0 ≤ n ∧ n < 2305843009213693952 from ⟨h0, h1⟩)]
      go_enter Try.func74, Try.ntmps74
      go_wp2
      go_ret
      exact ⟨rfl, rfl⟩
    · rw [decide_eq_false (fun h => h1 h.2)]
      have h1' : decide (n < 2305843009213693952) = false := by simpa using h1
      go_enter Try.func74, Try.ntmps74
      go_wp2
      go_ret
      exact ⟨rfl, rfl⟩
  · rw [decide_eq_false (fun h => h0 h.1)]
    have h0' : n < 0 := by omega
    go_enter Try.func74, Try.ntmps74
    go_wp2
    go_ret
    exact ⟨rfl, rfl⟩
theorem times_snoc (l : List Int) (x n : Int) : St.times (l ++ [x]) n = St.times l n + if x = n then 1 else 0 := by
  unfold St.times
  rw [List.count_append]
  congr 1
  by_cases h : x = n <;> simp [h]
theorem times_le (l : List Int) (n : Int) : St.times l n ≤ l.length := List.count_le_length
set_option maxRecDepth 100000 in
set_option maxHeartbeats 1000000 in
theorem rtimes_any (v : Value) (l : List Int) (n : Int) (w : World) (h : IntsAt w v l) (hl : l.length ≤ 100000000) : Calls Try.prog 32 #[v, .int .i64 n] w fun e w' => e = .returned (.int .i64 (St.times l n)) ∧ w' = w := by
  have H := Lib.hid h
  obtain ⟨A, c, rfl, -⟩ := h
  have hl' : (l.length : Int) ≤ 100000000 := by omega
  go_enter Try.func32, Try.ntmps32
  go_wp2
  go_loop [5, 6] (fun m i => ∃ k : Nat, k ≤ l.length ∧ i = .int .i64 k ∧ ∃ j : Nat, j = St.times (l.take k) n ∧ m = .int .i64 j) (fun _ i => l.length - (intOf i).toNat)
  case atStart => exact ⟨0, Nat.zero_le _, rfl, 0, rfl, rfl⟩
  case round =>
    obtain ⟨k, hk, rfl, j, hj, rfl⟩ := hrel
    have hjk : j ≤ k := by have := times_le (l.take k) n; rw [List.length_take] at this; omega
    have HJ := Lib.hid hj
    clear hj
    by_cases hlt : k < l.length
    · obtain ⟨x, hx⟩ : ∃ x, l[k]? = some x := ⟨_, List.getElem?_eq_getElem hlt⟩
      have HT : Hid (St.times (l.take (k + 1)) n = j + if x = n then 1 else 0) := Lib.hid (by
        rw [List.take_succ_eq_append_getElem hlt, times_snoc, ← HJ.out, (List.getElem?_eq_some_iff.1 hx).2])
      obtain ⟨b, o, rfl, hb, hc⟩ := ints_get H.out hx
      clear hx hb
      by_cases he : x = n
      · have HT2 : Hid (St.times (l.take (k + 1)) n = j + 1) := Lib.hid (by rw [HT.out, if_pos he])
        have heb : (x == n) = true := by simpa using he
        clear he
        go_wp2
        go_round
        case rel => exact ⟨k + 1, by omega, by go_num, j + 1, HT2.out.symm, by go_num⟩
        case measure => simp [intOf]; omega
      · have HT2 : Hid (St.times (l.take (k + 1)) n = j) := Lib.hid (by rw [HT.out, if_neg he]; rfl)
        have heb : (x == n) = false := by simpa using he
        clear he
        go_wp2
        go_round
        case rel => exact ⟨k + 1, by omega, by go_num, j, HT2.out.symm, rfl⟩
        case measure => simp [intOf]; omega
    · obtain rfl : k = l.length := by omega
      have hj := HJ.out
      rw [List.take_length] at hj
      subst hj
      go_wp2
      go_ret
      exact ⟨rfl, rfl⟩
set_option maxRecDepth 100000 in
set_option maxHeartbeats 1000000 in
theorem rwithin_any (v : Value) (l : List Int) (n : Int) (r : Bool) (hr : St.within l n = r) (w : World) (h : IntsAt w v l) (hl : l.length ≤ 100000000) : Calls Try.prog 78 #[v, .int .i64 n] w fun e w' => e = .returned (.bool r) ∧ w' = w := by
  subst hr
  have H := Lib.hid h
  obtain ⟨A, c, rfl, -⟩ := h
  have hl' : (l.length : Int) ≤ 100000000 := by omega
  go_enter Try.func78, Try.ntmps78
  go_wp2
  go_loop [5] (fun i => ∃ k : Nat, k ≤ l.length ∧ i = .int .i64 k ∧ ∀ (j : Nat) x, l[j]? = some x → j < k → 1 ≤ x ∧ x ≤ n) (fun i => l.length - (intOf i).toNat)
  case atStart => exact ⟨0, Nat.zero_le _, rfl, fun j x _ h => by omega⟩
  case round =>
    obtain ⟨k, hk, rfl, hall⟩ := hrel
    have HA := Lib.hid hall
    clear hall
    by_cases hlt : k < l.length
    · obtain ⟨x, hx⟩ : ∃ x, l[k]? = some x := ⟨_, List.getElem?_eq_getElem hlt⟩
      have HX := Lib.hid hx
      obtain ⟨b, o, rfl, hb, hc⟩ := ints_get H.out hx
      clear hx hb
      by_cases h1 : x < 1
      · have HN : Hid (St.within l n = false) := Lib.hid (all_no HX.out (by simp; omega))
        go_wp2
        go_ret
        rw [HN.out]
        exact ⟨rfl, rfl⟩
      · have h1' : 1 ≤ x := by omega
        clear h1
        by_cases h2 : n < x
        · have HN : Hid (St.within l n = false) := Lib.hid (all_no HX.out (by simp; omega))
          go_wp2
          go_ret
          rw [HN.out]
          exact ⟨rfl, rfl⟩
        · have h2' : x ≤ n := by omega
          clear h2
          go_wp2
          go_round
          case rel =>
            refine ⟨k + 1, by omega, by go_num, fun j y hy hj => ?_⟩
            by_cases hjk : j < k
            · exact HA.out j y hy hjk
            · obtain rfl : j = k := by omega
              have := HX.out
              rw [hy] at this
              injection this with this
              omega
          case measure => simp [intOf]; omega
    · obtain rfl : k = l.length := by omega
      have HY : Hid (St.within l n = true) := Lib.hid (all_yes fun j x hj => by
        have := HA.out j x hj (List.getElem?_eq_some_iff.1 hj).1
        simpa using this)
      go_wp2
      go_ret
      rw [HY.out]
      exact ⟨rfl, rfl⟩
theorem Ri.list_len (r : Ri) : r.list.length ≤ 8 := by
  unfold Ri.list
  split
  · rename_i h
    have hi : r.inside = true := by unfold Ri.may at h; rw [Bool.and_eq_true] at h; exact h.1
    have := (Ri.inside_iff r).1 hi
    simp; omega
  · simp
theorem queueOf_len (p : Pr) : (St.queueOf p).length ≤ 9 := by
  unfold St.queueOf
  have := Ri.list_len p.ring
  rw [List.length_append]
  split <;> simp <;> omega
def IntsP (l : List Int) (w : World) (e : Ending) (w' : World) : Prop := ∃ A c, e = .returned (.slice A l.length c) ∧ OwnInts w' w.heap.size (.slice A l.length c) l ∧ Ext w w'
theorem IntsP.mk' {l : List Int} {w w' : World} {B n c : Nat} {A : Option Addr} (h : OwnInts w' B (.slice A n c) l) (hB : w.heap.size ≤ B) (hx : Ext w w') : IntsP l w (.returned (.slice A n c)) w' := by
  obtain ⟨rfl, _⟩ := h.at
  exact ⟨A, c, rfl, OwnInts.lower h hB, hx⟩
theorem cells13 {v : World} {x : Nat} {c0 c1 c2 c3 c4 c5 c6 c7 c8 c9 c10 c11 c12 : Value} {t : TypeId} (h : v.heap[x]? = some (.cells #[c0, c1, c2, c3, c4, c5, c6, c7, c8, c9, c10, c11, c12] t (0, 0))) :
    (v.cell? ⟨x, 0, none⟩ = some c0 ∧ v.cell? ⟨x, 1, none⟩ = some c1 ∧ v.cell? ⟨x, 2, none⟩ = some c2 ∧ v.cell? ⟨x, 3, none⟩ = some c3 ∧ v.cell? ⟨x, 4, none⟩ = some c4 ∧ v.cell? ⟨x, 5, none⟩ = some c5 ∧ v.cell? ⟨x, 6, none⟩ = some c6) ∧ v.cell? ⟨x, 7, none⟩ = some c7 ∧ v.cell? ⟨x, 8, none⟩ = some c8 ∧ v.cell? ⟨x, 9, none⟩ = some c9 ∧ v.cell? ⟨x, 10, none⟩ = some c10 ∧ v.cell? ⟨x, 11, none⟩ = some c11 ∧ v.cell? ⟨x, 12, none⟩ = some c12 :=
  ⟨⟨blk_cell h 0 _ rfl, blk_cell h 1 _ rfl, blk_cell h 2 _ rfl, blk_cell h 3 _ rfl, blk_cell h 4 _ rfl, blk_cell h 5 _ rfl, blk_cell h 6 _ rfl⟩, blk_cell h 7 _ rfl, blk_cell h 8 _ rfl, blk_cell h 9 _ rfl, blk_cell h 10 _ rfl, blk_cell h 11 _ rfl, blk_cell h 12 _ rfl⟩
set_option maxRecDepth 100000 in
set_option maxHeartbeats 2000000 in
theorem rqueueOf_any (m nx b0 b1 b2 b3 b4 b5 b6 b7 hd nn sq : Int) (w : World) : Calls Try.prog 61 #[.agg #[.int .i64 m, .int .i64 nx, .int .i64 b0, .int .i64 b1, .int .i64 b2, .int .i64 b3, .int .i64 b4, .int .i64 b5, .int .i64 b6, .int .i64 b7, .int .i64 hd, .int .i64 nn, .int .i64 sq]] w (IntsP (St.queueOf ⟨m, nx, ⟨[b0, b1, b2, b3, b4, b5, b6, b7], hd, nn⟩, sq⟩) w) := by
  obtain ⟨w1, hw1⟩ : ∃ w1, w.alloc (.cells #[.int .i64 m, .int .i64 nx, .int .i64 b0, .int .i64 b1, .int .i64 b2, .int .i64 b3, .int .i64 b4, .int .i64 b5, .int .i64 b6, .int .i64 b7, .int .i64 hd, .int .i64 nn, .int .i64 sq] 40) = w1 := ⟨_, rfl⟩
  obtain ⟨w2, hw2⟩ : ∃ w2, w1.alloc (.cells #[] 3) = w2 := ⟨_, rfl⟩
  have HX1 : Hid (Ext w w1) := Lib.hid (by rw [← hw1]; exact (Ext.refl w).alloc _)
  have HB1 : Hid (w1.heap[w.heap.size]? = some (.cells #[.int .i64 m, .int .i64 nx, .int .i64 b0, .int .i64 b1, .int .i64 b2, .int .i64 b3, .int .i64 b4, .int .i64 b5, .int .i64 b6, .int .i64 b7, .int .i64 hd, .int .i64 nn, .int .i64 sq] 40 (0, 0))) := Lib.hid (by rw [← hw1]; exact blk_new w _)
  have HX2 : Hid (Ext w1 w2) := Lib.hid (by rw [← hw2]; exact (Ext.refl w1).alloc _)
  have HO2 : Hid (OwnInts w2 w1.heap.size (.slice (some ⟨w1.heap.size, 0, none⟩) 0 0) []) := Lib.hid (by rw [← hw2]; exact ints_made w1)
  have HW1 := Lib.hid hw1
  have HW2 := Lib.hid hw2
  obtain ⟨l, hl⟩ : ∃ l, Ri.list ⟨[b0, b1, b2, b3, b4, b5, b6, b7], hd, nn⟩ = l := ⟨_, rfl⟩
  have HL := Lib.hid hl
  have hl8 : l.length ≤ 8 := by rw [← hl]; exact Ri.list_len _
  clear hw1 hw2 hl
  by_cases h0 : nx = 0
  · subst h0
    have HQ : Hid (St.queueOf ⟨m, 0, ⟨[b0, b1, b2, b3, b4, b5, b6, b7], hd, nn⟩, sq⟩ = l) := Lib.hid (by unfold St.queueOf; simp only [HL.out]; simp)
    obtain ⟨⟨p0, p1, p2, p3, p4, p5, p6⟩, p7, p8, p9, p10, p11, p12⟩ := cells13 (HX2.out.blk HB1.out)
    go_enter Try.func61, Try.ntmps61
    go_wp2_with (first | rw [HW1.out] | rw [HW2.out])
    refine (rrlist_k b0 b1 b2 b3 b4 b5 b6 b7 hd nn l HL.out _).mono ?_
    rintro e w3 ⟨v3, rfl, ho3, hx3⟩
    obtain ⟨A3, c3, rfl⟩ := ho3.form
    obtain ⟨A, c, w4, hr, ho, hx, hz⟩ := ints_more (HO2.out.ext hx3) rfl rfl ho3.at.2 (Nat.le_refl _) (by have := HX2.out.size; have := hx3.size; omega) (HX2.out.trans hx3) (by simp; omega)
    have HR := Lib.hid hr
    have HE : Hid (IntsP l w (.returned (.slice A (0 + l.length) c)) w4) := Lib.hid (IntsP.mk' (by simpa using ho) HX1.out.size (HX1.out.trans hx))
    simp only [List.length_nil, Nat.zero_add] at HR HE
    clear hr ho hx hz ho3 hx3
    clear p0 p1 p2 p3 p4 p5 p6 p7 p8 p9 p10 p11 p12
    go_wp2_with (at_builtin; refine wpList_append_run rfl _ _ 27 rfl _ _ rfl rfl HR.out ?_)
    go_ret
    rw [HQ.out]
    exact HE.out
  · have HQ : Hid (St.queueOf ⟨m, nx, ⟨[b0, b1, b2, b3, b4, b5, b6, b7], hd, nn⟩, sq⟩ = [nx] ++ l) := Lib.hid (by unfold St.queueOf; simp only [HL.out]; rw [if_pos h0])
    have hne : (nx != 0) = true := by simpa using h0
    clear h0
    obtain ⟨A3, c3, w3, hr3, ho3, hx3, hz3⟩ := ints_push (W := w1) HO2.out rfl (Nat.le_refl _) HX2.out.size HX2.out nx (by simp)
    obtain ⟨w2', hw2'⟩ : ∃ w2', w2.alloc (.cells #[.int .i64 nx] 3) = w2' := ⟨_, rfl⟩
    rw [hw2'] at hr3
    have HW3 := Lib.hid hw2'
    have HR3 := Lib.hid hr3
    have HO3 := Lib.hid ho3
    have HX3 := Lib.hid hx3
    simp only [List.length_nil, Nat.zero_add, List.nil_append] at HR3 HO3
    have q1 := blk_cell (HX2.out.blk HB1.out) 1 _ rfl
    obtain ⟨⟨p0, p1, p2, p3, p4, p5, p6⟩, p7, p8, p9, p10, p11, p12⟩ := cells13 (HX3.out.blk HB1.out)
    clear hr3 ho3 hx3 hz3 hw2'
    go_enter Try.func61, Try.ntmps61
    go_wp2_with (first | rw [HW1.out] | rw [HW2.out] | rw [HW3.out] | (at_builtin; refine wpList_append_run rfl _ _ 27 rfl _ _ rfl rfl HR3.out ?_))
    refine (rrlist_k b0 b1 b2 b3 b4 b5 b6 b7 hd nn l HL.out _).mono ?_
    rintro e w4 ⟨v4, rfl, ho4, hx4⟩
    obtain ⟨A4, c4, rfl⟩ := ho4.form
    obtain ⟨A, c, w5, hr, ho, hx, hz⟩ := ints_more (HO3.out.ext hx4) rfl rfl ho4.at.2 (Nat.le_refl _) (by have := HX3.out.size; have := hx4.size; omega) (HX3.out.trans hx4) (by simp; omega)
    have HR := Lib.hid hr
    have HE : Hid (IntsP ([nx] ++ l) w (.returned (.slice A (1 + l.length) c)) w5) := Lib.hid (IntsP.mk' ho HX1.out.size (HX1.out.trans hx))
    simp only [List.length_singleton] at HR
    clear hr ho hx hz ho4 hx4
    clear p0 p1 p2 p3 p4 p5 p6 p7 p8 p9 p10 p11 p12
    go_wp2_with (at_builtin; refine wpList_append_run rfl _ _ 27 rfl _ _ rfl rfl HR.out ?_)
    go_ret
    rw [HQ.out]
    exact HE.out
theorem flatMap_next {α β : Type} (f : α → List β) {l : List α} {k : Nat} {x : α} (h : l[k]? = some x) : (l.take (k + 1)).flatMap f = (l.take k).flatMap f ++ f x := by
  obtain ⟨h1, h2⟩ := List.getElem?_eq_some_iff.1 h
  rw [List.take_succ_eq_append_getElem h1, List.flatMap_append, h2]
  simp
theorem flatMap_len9 (l : List Pr) : (l.flatMap St.queueOf).length ≤ l.length * 9 := by
  induction l with
  | nil => simp
  | cons p l ih =>
    rw [List.flatMap_cons, List.length_append, List.length_cons]
    have := queueOf_len p
    omega
set_option maxRecDepth 100000 in
set_option maxHeartbeats 2000000 in
theorem rruns_any (h : StH) (s : St) (w : World) (hk : StOk w h s) (hf : StFew s) : Calls Try.prog 33 #[stV h s] w (IntsP s.runs w) := by
  have f1 := hf.ps
  have f2 := hf.glob
  have HK := Lib.hid hk
  obtain ⟨w1, hw1⟩ : ∃ w1, w.alloc (.cells #[.slice h.pa s.prog.length h.pc, .slice h.ga s.gs.length h.gc, .slice h.qa s.ps.length h.qc, .slice h.ma s.ms.length h.mc, .slice h.la s.glob.length h.lc, .int .i64 s.c0, .int .i64 s.c1, .int .i64 s.c2, .int .i64 s.c3, .slice h.a0 s.w0.length h.k0, .slice h.a1 s.w1.length h.k1, .slice h.a2 s.w2.length h.k2, .slice h.a3 s.w3.length h.k3, .slice h.ta s.timers.length h.tc, .int .i64 s.clock, .int .i64 s.procs] 32) = w1 := ⟨_, rfl⟩
  have HX1 : Hid (Ext w w1) := Lib.hid (by rw [← hw1]; exact (Ext.refl w).alloc _)
  have HB1 : Hid (w1.heap[w.heap.size]? = some (.cells (stC h s) 32 (0, 0))) := Lib.hid (by rw [← hw1]; exact blk_new w _)
  have HK1 := Lib.hid (hk.ext HX1.out)
  have HW1 := Lib.hid hw1
  clear hw1 hk
  obtain ⟨w2, hw2⟩ : ∃ w2, w1.alloc (.cells #[] 3) = w2 := ⟨_, rfl⟩
  have HX2 : Hid (Ext w1 w2) := Lib.hid (by rw [← hw2]; exact (Ext.refl w1).alloc _)
  have HO2 : Hid (OwnInts w2 w1.heap.size (.slice (some ⟨w1.heap.size, 0, none⟩) 0 0) []) := Lib.hid (by rw [← hw2]; exact ints_made w1)
  have HW2 := Lib.hid hw2
  clear hw2 hf
  unfold stV
  go_enter Try.func33, Try.ntmps33
  go_upto_region 1 with fail
  rw [HW1.out]
  generalize Value.agg #[.slice h.pa s.prog.length h.pc, .slice h.ga s.gs.length h.gc, .slice h.qa s.ps.length h.qc, .slice h.ma s.ms.length h.mc, .slice h.la s.glob.length h.lc, .int .i64 s.c0, .int .i64 s.c1, .int .i64 s.c2, .int .i64 s.c3, .slice h.a0 s.w0.length h.k0, .slice h.a1 s.w1.length h.k1, .slice h.a2 s.w2.length h.k2, .slice h.a3 s.w3.length h.k3, .slice h.ta s.timers.length h.tc, .int .i64 s.clock, .int .i64 s.procs] = sv0
  go_wp2_with (rw [HW2.out])
  go_loopw [3, 4] (fun ov iv wr => ∃ k : Nat, k ≤ s.ps.length ∧ iv = .int .i64 k ∧ ∃ A n c, ov = .slice A n c ∧ OwnInts wr w1.heap.size (.slice A n c) ((s.ps.take k).flatMap St.queueOf) ∧ Ext w1 wr) (fun _ iv _ => s.ps.length - (intOf iv).toNat)
  case atStart => exact ⟨0, by omega, rfl, _, _, _, rfl, HO2.out, HX2.out⟩
  case round =>
    obtain ⟨k, hk, rfl, A, n, c, rfl, ho, hx⟩ := hrel
    have HO := Lib.hid ho
    have HX := Lib.hid hx
    have hl9 := flatMap_len9 (s.ps.take k)
    rw [List.length_take] at hl9
    have HL9 : Hid (((s.ps.take k).flatMap St.queueOf).length ≤ 900000) := Lib.hid (by omega)
    have q2 := st2 (hx.blk HB1.out)
    clear ho hx hl9
    by_cases hlt : k < s.ps.length
    · obtain ⟨p, hp⟩ : ∃ p, s.ps[k]? = some p := ⟨_, List.getElem?_eq_getElem hlt⟩
      obtain ⟨m, nx, r, sq⟩ := p
      obtain ⟨b0, b1, b2, b3, b4, b5, b6, b7, hd, nn, rfl⟩ := Ri.open8 (HK.out.buf _ (List.mem_of_getElem? hp))
      have HF := Lib.hid (flatMap_next St.queueOf hp)
      obtain ⟨b, o, hA, hb, hc⟩ := ps_get (HK1.out.ext HX.out).ps hp
      obtain ⟨⟨p0, p1, p2, p3, p4, p5, p6⟩, p7, p8, p9, p10, p11, p12⟩ := hc
      have hl9q := queueOf_len ⟨m, nx, ⟨[b0, b1, b2, b3, b4, b5, b6, b7], hd, nn⟩, sq⟩
      have HQ9 := Lib.hid hl9q
      clear hp hb hl9q
      go_wp2_with fail
      refine (rqueueOf_any m nx b0 b1 b2 b3 b4 b5 b6 b7 hd nn sq wr).mono ?_
      rintro e w3 ⟨A3, c3, rfl, ho3, hx3⟩
      obtain ⟨A5, c5, w5, hr, ho, hx, hz⟩ := ints_more (HO.out.ext hx3) HO.out.at.1 rfl ho3.at.2 (Nat.le_refl _) (by have := HX.out.size; have := hx3.size; omega) (HX.out.trans hx3) (by have := HL9.out; have := HQ9.out; omega)
      rw [← HF.out] at ho
      have HR := Lib.hid hr
      have HE := Lib.hid ho
      have HX5 := Lib.hid hx
      clear hr ho hx hz ho3 hx3
      clear p0 p1 p2 p3 p4 p5 p6 p7 p8 p9 p10 p11 p12
      go_wp2_with (at_builtin; refine wpList_append_run rfl _ _ 27 rfl _ _ rfl rfl HR.out ?_)
      go_roundw
      case rel => exact ⟨k + 1, by omega, by go_num, A5, _, c5, by simp, HE.out, HX5.out⟩
      case measure => simp [intOf]; omega
    · obtain rfl : k = s.ps.length := by omega
      rw [List.take_length] at HO HL9
      have q4 := st4 (HX.out.blk HB1.out)
      obtain ⟨A5, c5, w5, hr, ho, hx, hz⟩ := ints_more HO.out HO.out.at.1 rfl (HK1.out.ext HX.out).glob (Nat.le_refl _) HX.out.size HX.out (by have := HL9.out; omega)
      have HR := Lib.hid hr
      have HE : Hid (IntsP s.runs w (.returned (.slice A5 (n + s.glob.length) c5)) w5) := Lib.hid (IntsP.mk' ho HX1.out.size (HX1.out.trans hx))
      clear hr ho hx hz
      go_wp2_with (at_builtin; refine wpList_append_run rfl _ _ 27 rfl _ _ rfl rfl HR.out ?_)
      go_ret
      exact HE.out
theorem flatten_next {α : Type} {l : List (List α)} {k : Nat} {x : List α} (h : l[k]? = some x) : (l.take (k + 1)).flatten = (l.take k).flatten ++ x := by
  obtain ⟨h1, h2⟩ := List.getElem?_eq_some_iff.1 h
  rw [List.take_succ_eq_append_getElem h1, List.flatten_append, h2]
  simp
theorem flatten_few {l : List (List Int)} (h : ∀ x ∈ l, x.length ≤ 100000) : l.flatten.length ≤ l.length * 100000 := by
  induction l with
  | nil => simp
  | cons x l ih =>
    rw [List.flatten_cons, List.length_append, List.length_cons]
    have h1 := h x (by simp)
    have h2 := ih fun y hy => h y (by simp [hy])
    omega
theorem St.wts_flatten (s : St) : s.wts.flatten = s.waits := by simp [St.wts, St.waits]
set_option maxRecDepth 100000 in
set_option maxHeartbeats 2000000 in
theorem rwaiters_any (h : StH) (s : St) (w : World) (hk : StOk w h s) (hf : StFew s) : Calls Try.prog 79 #[stV h s] w (IntsP s.waiters w) := by
  have f1 := hf.timers
  have F2 := Lib.hid hf.w
  have HFL : Hid (∀ k, ((s.wts.take k).flatten).length ≤ 400000) := Lib.hid fun k => by
    have := flatten_few (l := s.wts.take k) fun x hx => by
      obtain ⟨j, hj⟩ := List.mem_iff_getElem?.1 (List.mem_of_mem_take hx)
      exact wts_few hf.w hj
    have h4 : (s.wts.take k).length ≤ 4 := by rw [List.length_take]; simp [St.wts]; omega
    omega
  have HK := Lib.hid hk
  obtain ⟨w1, hw1⟩ : ∃ w1, w.alloc (.cells #[.slice h.pa s.prog.length h.pc, .slice h.ga s.gs.length h.gc, .slice h.qa s.ps.length h.qc, .slice h.ma s.ms.length h.mc, .slice h.la s.glob.length h.lc, .int .i64 s.c0, .int .i64 s.c1, .int .i64 s.c2, .int .i64 s.c3, .slice h.a0 s.w0.length h.k0, .slice h.a1 s.w1.length h.k1, .slice h.a2 s.w2.length h.k2, .slice h.a3 s.w3.length h.k3, .slice h.ta s.timers.length h.tc, .int .i64 s.clock, .int .i64 s.procs] 32) = w1 := ⟨_, rfl⟩
  have HX1 : Hid (Ext w w1) := Lib.hid (by rw [← hw1]; exact (Ext.refl w).alloc _)
  have HB1 : Hid (w1.heap[w.heap.size]? = some (.cells (stC h s) 32 (0, 0))) := Lib.hid (by rw [← hw1]; exact blk_new w _)
  have HK1 := Lib.hid (hk.ext HX1.out)
  have HW1 := Lib.hid hw1
  clear hw1 hk
  obtain ⟨w2, hw2⟩ : ∃ w2, w1.alloc (.cells #[] 3) = w2 := ⟨_, rfl⟩
  have HX2 : Hid (Ext w1 w2) := Lib.hid (by rw [← hw2]; exact (Ext.refl w1).alloc _)
  have HO2 : Hid (OwnInts w2 w1.heap.size (.slice (some ⟨w1.heap.size, 0, none⟩) 0 0) []) := Lib.hid (by rw [← hw2]; exact ints_made w1)
  have HW2 := Lib.hid hw2
  clear hw2 hf
  unfold stV
  go_enter Try.func79, Try.ntmps79
  go_upto_region 1 with fail
  rw [HW1.out]
  generalize Value.agg #[.slice h.pa s.prog.length h.pc, .slice h.ga s.gs.length h.gc, .slice h.qa s.ps.length h.qc, .slice h.ma s.ms.length h.mc, .slice h.la s.glob.length h.lc, .int .i64 s.c0, .int .i64 s.c1, .int .i64 s.c2, .int .i64 s.c3, .slice h.a0 s.w0.length h.k0, .slice h.a1 s.w1.length h.k1, .slice h.a2 s.w2.length h.k2, .slice h.a3 s.w3.length h.k3, .slice h.ta s.timers.length h.tc, .int .i64 s.clock, .int .i64 s.procs] = sv0
  go_wp2_with (rw [HW2.out])
  go_loopw [3, 4] (fun ov iv wr => ∃ k : Nat, k ≤ 4 ∧ iv = .int .i64 k ∧ ∃ A n c, ov = .slice A n c ∧ OwnInts wr w1.heap.size (.slice A n c) ((s.wts.take k).flatten) ∧ Ext w1 wr) (fun _ iv _ => 4 - (intOf iv).toNat)
  case atStart => exact ⟨0, by omega, rfl, _, _, _, rfl, HO2.out, HX2.out⟩
  case round =>
    obtain ⟨k, hk, rfl, A, n, c, rfl, ho, hx⟩ := hrel
    have HO := Lib.hid ho
    have HX := Lib.hid hx
    clear ho hx
    by_cases hlt : k < 4
    · obtain ⟨A0, c0, l, hcell, hI, hl⟩ := HK1.out.wait hlt
      have q9 := blk_cell (HX.out.blk HB1.out) (9 + k) _ hcell
      have HF := Lib.hid (flatten_next hl)
      have HL := Lib.hid (wts_few F2.out hl)
      obtain ⟨A5, c5, w5, hr, ho, hx, hz⟩ := ints_more HO.out HO.out.at.1 rfl (hI.ext HX.out) (Nat.le_refl _) HX.out.size HX.out (by have := HFL.out k; have := HL.out; omega)
      rw [← HF.out] at ho
      have HR := Lib.hid hr
      have HE := Lib.hid ho
      have HX5 := Lib.hid hx
      clear hr ho hx hz hI hl hcell
      go_wp2_with (at_builtin; refine wpList_append_run rfl _ _ 27 rfl _ _ rfl rfl HR.out ?_)
      go_roundw
      case rel => exact ⟨k + 1, by omega, by go_num, A5, _, c5, by simp, HE.out, HX5.out⟩
      case measure => simp [intOf]; omega
    · have HW : Hid ((s.wts.take k).flatten = s.waits) := Lib.hid (by rw [List.take_of_length_le (by simp [St.wts]; omega), St.wts_flatten])
      have HWL : Hid (s.waits.length ≤ 400000) := Lib.hid (by rw [← HW.out]; exact HFL.out k)
      rw [HW.out] at HO
      obtain ⟨wo, rfl⟩ : ∃ wo, wo = wr := ⟨_, rfl⟩
      go_wp2_with fail
      go_loopw [3, 5] (fun ov iv wr => ∃ k : Nat, k ≤ s.timers.length ∧ iv = .int .i64 k ∧ ∃ A n c, ov = .slice A n c ∧ OwnInts wr w1.heap.size (.slice A n c) (s.waits ++ (s.timers.take k).map Prod.snd) ∧ Ext w1 wr) (fun _ iv _ => s.timers.length - (intOf iv).toNat)
      case atStart => exact ⟨0, by omega, rfl, _, _, _, rfl, by simpa using HO.out, HX.out⟩
      case round =>
        clear HO HX
        obtain ⟨k, hk, rfl, A, n, c, rfl, ho, hx⟩ := hrel
        have HO := Lib.hid ho
        have HX := Lib.hid hx
        have q13 := st13 (hx.blk HB1.out)
        clear ho hx
        by_cases hlt2 : k < s.timers.length
        · obtain ⟨t, ht⟩ : ∃ t, s.timers[k]? = some t := ⟨_, List.getElem?_eq_getElem hlt2⟩
          obtain ⟨b, o, hA, hb, -, c1⟩ := frs2_get (HK1.out.ext HX.out).timers.rows ht
          have HF : Hid ((s.timers.take (k + 1)).map Prod.snd = (s.timers.take k).map Prod.snd ++ [t.2]) := Lib.hid (by
            rw [List.take_succ_eq_append_getElem hlt2, List.map_append, (List.getElem?_eq_some_iff.1 ht).2]; rfl)
          have hlo := HO.out.at.1
          rw [List.length_append, List.length_map, List.length_take] at hlo
          obtain ⟨A5, c5, w5, hr, ho, hx, hz⟩ := ints_push (W := w1) HO.out HO.out.at.1 (Nat.le_refl _) HX.out.size HX.out t.2 (by rw [← HO.out.at.1]; have := HWL.out; omega)
          obtain ⟨w4, hw4⟩ : ∃ w4, wr.alloc (.cells #[.int .i64 t.2] 3) = w4 := ⟨_, rfl⟩
          rw [hw4] at hr
          rw [List.append_assoc, ← HF.out] at ho
          have HR := Lib.hid hr
          have HE := Lib.hid ho
          have HX5 := Lib.hid hx
          have HW4 := Lib.hid hw4
          clear hr ho hx hz hw4 ht hb hlo
          go_wp2_with (first | rw [HW4.out] | (at_builtin; refine wpList_append_run rfl _ _ 27 rfl _ _ rfl rfl HR.out ?_))
          go_roundw
          case rel => exact ⟨k + 1, by omega, by go_num, A5, _, c5, by simp, HE.out, HX5.out⟩
          case measure => simp [intOf]; omega
        · obtain rfl : k = s.timers.length := by omega
          rw [List.take_length] at HO
          have HE : Hid (IntsP s.waiters w (.returned (.slice A n c)) wr) := Lib.hid (IntsP.mk' HO.out HX1.out.size (HX1.out.trans HX.out))
          go_wp2
          go_ret
          exact HE.out
theorem onM_next {ms : List (Int × Int)} {k : Nat} {x : Int × Int} (b : Bool) (h : ms[k]? = some x) : (ms.take (k + 1)).filter (fun m => m.2 != 0 && ((m.1 != 0) == b)) = (ms.take k).filter (fun m => m.2 != 0 && ((m.1 != 0) == b)) ++ (if (x.2 != 0 && ((x.1 != 0) == b)) = true then [x] else []) := by
  obtain ⟨h1, h2⟩ := List.getElem?_eq_some_iff.1 h
  rw [List.take_succ_eq_append_getElem h1, List.filter_append, h2]
  congr 1
  simp only [List.filter_cons, List.filter_nil]
set_option maxRecDepth 100000 in
set_option maxHeartbeats 2000000 in
theorem ronM_any (h : StH) (s : St) (bw : Bool) (w : World) (hk : StOk w h s) (hf : StFew s) : Calls Try.prog 80 #[stV h s, .bool bw] w (IntsP (s.onM bw) w) := by
  have f1 := hf.ms
  have HK := Lib.hid hk
  obtain ⟨w1, hw1⟩ : ∃ w1, w.alloc (.cells #[.slice h.pa s.prog.length h.pc, .slice h.ga s.gs.length h.gc, .slice h.qa s.ps.length h.qc, .slice h.ma s.ms.length h.mc, .slice h.la s.glob.length h.lc, .int .i64 s.c0, .int .i64 s.c1, .int .i64 s.c2, .int .i64 s.c3, .slice h.a0 s.w0.length h.k0, .slice h.a1 s.w1.length h.k1, .slice h.a2 s.w2.length h.k2, .slice h.a3 s.w3.length h.k3, .slice h.ta s.timers.length h.tc, .int .i64 s.clock, .int .i64 s.procs] 32) = w1 := ⟨_, rfl⟩
  have HX1 : Hid (Ext w w1) := Lib.hid (by rw [← hw1]; exact (Ext.refl w).alloc _)
  have HB1 : Hid (w1.heap[w.heap.size]? = some (.cells (stC h s) 32 (0, 0))) := Lib.hid (by rw [← hw1]; exact blk_new w _)
  have HK1 := Lib.hid (hk.ext HX1.out)
  have HW1 := Lib.hid hw1
  clear hw1 hk
  obtain ⟨w2, hw2⟩ : ∃ w2, w1.alloc (.cells #[] 3) = w2 := ⟨_, rfl⟩
  have HX2 : Hid (Ext w1 w2) := Lib.hid (by rw [← hw2]; exact (Ext.refl w1).alloc _)
  have HO2 : Hid (OwnInts w2 w1.heap.size (.slice (some ⟨w1.heap.size, 0, none⟩) 0 0) []) := Lib.hid (by rw [← hw2]; exact ints_made w1)
  have HW2 := Lib.hid hw2
  clear hw2 hf
  unfold stV
  go_enter Try.func80, Try.ntmps80
  go_upto_region 1 with fail
  rw [HW1.out]
  generalize Value.agg #[.slice h.pa s.prog.length h.pc, .slice h.ga s.gs.length h.gc, .slice h.qa s.ps.length h.qc, .slice h.ma s.ms.length h.mc, .slice h.la s.glob.length h.lc, .int .i64 s.c0, .int .i64 s.c1, .int .i64 s.c2, .int .i64 s.c3, .slice h.a0 s.w0.length h.k0, .slice h.a1 s.w1.length h.k1, .slice h.a2 s.w2.length h.k2, .slice h.a3 s.w3.length h.k3, .slice h.ta s.timers.length h.tc, .int .i64 s.clock, .int .i64 s.procs] = sv0
  go_wp2_with (rw [HW2.out])
  go_loopw [5, 6] (fun ov iv wr => ∃ k : Nat, k ≤ s.ms.length ∧ iv = .int .i64 k ∧ ∃ A n c, ov = .slice A n c ∧ OwnInts wr w1.heap.size (.slice A n c) (((s.ms.take k).filter fun m => m.2 != 0 && ((m.1 != 0) == bw)).map Prod.snd) ∧ Ext w1 wr) (fun _ iv _ => s.ms.length - (intOf iv).toNat)
  case atStart => exact ⟨0, by omega, rfl, _, _, _, rfl, HO2.out, HX2.out⟩
  case round =>
    obtain ⟨k, hk, rfl, A, n, c, rfl, ho, hx⟩ := hrel
    have HO := Lib.hid ho
    have HX := Lib.hid hx
    have q3 := st3 (hx.blk HB1.out)
    clear ho hx
    by_cases hlt : k < s.ms.length
    · obtain ⟨x, hx⟩ : ∃ x, s.ms[k]? = some x := ⟨_, List.getElem?_eq_getElem hlt⟩
      obtain ⟨b, o, hA, hb, c0, c1⟩ := frs2_get (HK1.out.ext HX.out).ms hx
      have HF := Lib.hid (onM_next bw hx)
      obtain ⟨xp, xg⟩ := x
      simp only at HF c0 c1
      have HLE : Hid ((((s.ms.take k).filter fun m => m.2 != 0 && ((m.1 != 0) == bw)).map Prod.snd).length ≤ 100000) := Lib.hid (by
        rw [List.length_map]
        have := List.length_filter_le (fun m : Int × Int => m.2 != 0 && ((m.1 != 0) == bw)) (s.ms.take k)
        rw [List.length_take] at this
        omega)
      clear hx hb
      by_cases h0 : xg = 0
      · subst h0
        have HS : Hid (((s.ms.take (k + 1)).filter fun m => m.2 != 0 && ((m.1 != 0) == bw)).map Prod.snd = ((s.ms.take k).filter fun m => m.2 != 0 && ((m.1 != 0) == bw)).map Prod.snd) := Lib.hid (by rw [HF.out]; simp)
        go_wp2
        go_roundw
        case rel => exact ⟨k + 1, by omega, by go_num, A, n, c, by simp, by rw [HS.out]; exact HO.out, HX.out⟩
        case measure => simp [intOf]; omega
      · have h0' : (xg != 0) = true := by simpa using h0
        obtain ⟨bb, hbb⟩ : ∃ bb, (xp != 0) = bb := ⟨_, rfl⟩
        obtain ⟨bc, hbc⟩ : ∃ bc, (bb == bw) = bc := ⟨_, rfl⟩
        rw [h0', hbb, hbc, Bool.true_and] at HF
        clear h0
        cases bc with
        | false =>
          have HS : Hid (((s.ms.take (k + 1)).filter fun m => m.2 != 0 && ((m.1 != 0) == bw)).map Prod.snd = ((s.ms.take k).filter fun m => m.2 != 0 && ((m.1 != 0) == bw)).map Prod.snd) := Lib.hid (by rw [HF.out]; simp)
          go_wp2
          go_roundw
          case rel => exact ⟨k + 1, by omega, by go_num, A, n, c, by simp, by rw [HS.out]; exact HO.out, HX.out⟩
          case measure => simp [intOf]; omega
        | true =>
          have HS : Hid (((s.ms.take (k + 1)).filter fun m => m.2 != 0 && ((m.1 != 0) == bw)).map Prod.snd = ((s.ms.take k).filter fun m => m.2 != 0 && ((m.1 != 0) == bw)).map Prod.snd ++ [xg]) := Lib.hid (by rw [HF.out]; simp)
          obtain ⟨A5, c5, w5, hr, ho, hx, hz⟩ := ints_push (W := w1) HO.out HO.out.at.1 (Nat.le_refl _) HX.out.size HX.out xg (by have := HLE.out; omega)
          obtain ⟨w4, hw4⟩ : ∃ w4, wr.alloc (.cells #[.int .i64 xg] 3) = w4 := ⟨_, rfl⟩
          rw [hw4] at hr
          rw [← HS.out] at ho
          have HR := Lib.hid hr
          have HE := Lib.hid ho
          have HX5 := Lib.hid hx
          have HW4 := Lib.hid hw4
          clear hr ho hx hz hw4
          go_wp2_with (first | rw [HW4.out] | (at_builtin; refine wpList_append_run rfl _ _ 27 rfl _ _ rfl rfl HR.out ?_))
          go_roundw
          case rel => exact ⟨k + 1, by omega, by go_num, A5, _, c5, by simp, HE.out, HX5.out⟩
          case measure => simp [intOf]; omega
    · obtain rfl : k = s.ms.length := by omega
      rw [List.take_length] at HO
      have HE : Hid (IntsP (s.onM bw) w (.returned (.slice A n c)) wr) := Lib.hid (IntsP.mk' HO.out HX1.out.size (HX1.out.trans HX.out))
      go_wp2
      go_ret
      exact HE.out
theorem ints_made1 (w : World) (x : Int) : OwnInts (w.alloc (.cells #[.int .i64 x] 3)) w.heap.size (.slice (some ⟨w.heap.size, 0, none⟩) 1 1) [x] :=
  ⟨by simp [intsV], .inr ⟨w.heap.size, 1, #[.int .i64 x], rfl, Nat.le_refl _, blk_new w _, Nat.le_refl _, by decide, rfl, rfl⟩⟩
theorem IntsAt.form {w : World} {v : Value} {l : List Int} (h : IntsAt w v l) : ∃ A c, v = .slice A l.length c := by
  obtain ⟨A, c, rfl, _⟩ := h
  exact ⟨A, c, rfl⟩
set_option maxRecDepth 100000 in
set_option maxHeartbeats 2000000 in
theorem squeue_any (m nx b0 b1 b2 b3 b4 b5 b6 b7 hd nn sq : Int) (w : World) : Calls Try.prog 96 #[.agg #[.int .i64 m, .int .i64 nx, .int .i64 b0, .int .i64 b1, .int .i64 b2, .int .i64 b3, .int .i64 b4, .int .i64 b5, .int .i64 b6, .int .i64 b7, .int .i64 hd, .int .i64 nn, .int .i64 sq]] w (IntsP (St.queueOf ⟨m, nx, ⟨[b0, b1, b2, b3, b4, b5, b6, b7], hd, nn⟩, sq⟩) w) := by
  obtain ⟨w1, hw1⟩ : ∃ w1, w.alloc (.cells #[.int .i64 m, .int .i64 nx, .int .i64 b0, .int .i64 b1, .int .i64 b2, .int .i64 b3, .int .i64 b4, .int .i64 b5, .int .i64 b6, .int .i64 b7, .int .i64 hd, .int .i64 nn, .int .i64 sq] 40) = w1 := ⟨_, rfl⟩
  have HX1 : Hid (Ext w w1) := Lib.hid (by rw [← hw1]; exact (Ext.refl w).alloc _)
  have HB1 : Hid (w1.heap[w.heap.size]? = some (.cells #[.int .i64 m, .int .i64 nx, .int .i64 b0, .int .i64 b1, .int .i64 b2, .int .i64 b3, .int .i64 b4, .int .i64 b5, .int .i64 b6, .int .i64 b7, .int .i64 hd, .int .i64 nn, .int .i64 sq] 40 (0, 0))) := Lib.hid (by rw [← hw1]; exact blk_new w _)
  have HW1 := Lib.hid hw1
  obtain ⟨l, hl⟩ : ∃ l, Ri.list ⟨[b0, b1, b2, b3, b4, b5, b6, b7], hd, nn⟩ = l := ⟨_, rfl⟩
  have HL := Lib.hid hl
  have hl8 : l.length ≤ 8 := by rw [← hl]; exact Ri.list_len _
  clear hw1 hl
  by_cases h0 : nx = 0
  · subst h0
    have HQ : Hid (St.queueOf ⟨m, 0, ⟨[b0, b1, b2, b3, b4, b5, b6, b7], hd, nn⟩, sq⟩ = l) := Lib.hid (by unfold St.queueOf; simp only [HL.out]; simp)
    obtain ⟨⟨p0, p1, p2, p3, p4, p5, p6⟩, p7, p8, p9, p10, p11, p12⟩ := cells13 HB1.out
    go_enter Try.func96, Try.ntmps96
    go_wp2_with (rw [HW1.out])
    refine (rlist_k b0 b1 b2 b3 b4 b5 b6 b7 hd nn l HL.out _).mono ?_
    rintro e w3 ⟨v3, rfl, hi3, hx3⟩
    obtain ⟨A3, c3, rfl⟩ := hi3.form
    obtain ⟨A, c, w4, hr, ho, hx, hz⟩ := ints_more (OwnInts.nil w3 w1.heap.size) rfl rfl hi3 (Nat.le_refl _) hx3.size hx3 (by simp; omega)
    have HR := Lib.hid hr
    have HE : Hid (IntsP l w (.returned (.slice A (0 + l.length) c)) w4) := Lib.hid (IntsP.mk' (by simpa using ho) HX1.out.size (HX1.out.trans hx))
    simp only [List.length_nil, Nat.zero_add] at HR HE
    clear hr ho hx hz hi3 hx3
    clear p0 p1 p2 p3 p4 p5 p6 p7 p8 p9 p10 p11 p12
    go_wp2_with (at_builtin; refine wpList_append_run rfl _ _ 27 rfl _ _ rfl rfl HR.out ?_)
    go_ret
    rw [HQ.out]
    exact HE.out
  · have HQ : Hid (St.queueOf ⟨m, nx, ⟨[b0, b1, b2, b3, b4, b5, b6, b7], hd, nn⟩, sq⟩ = [nx] ++ l) := Lib.hid (by unfold St.queueOf; simp only [HL.out]; rw [if_pos h0])
    have hne : (nx != 0) = true := by simpa using h0
    clear h0
    obtain ⟨w2, hw2⟩ : ∃ w2, w1.alloc (.cells #[.int .i64 nx] 3) = w2 := ⟨_, rfl⟩
    have HX2 : Hid (Ext w1 w2) := Lib.hid (by rw [← hw2]; exact (Ext.refl w1).alloc _)
    have HO2 : Hid (OwnInts w2 w1.heap.size (.slice (some ⟨w1.heap.size, 0, none⟩) 1 1) [nx]) := Lib.hid (by rw [← hw2]; exact ints_made1 w1 nx)
    have HW2 := Lib.hid hw2
    clear hw2
    have q1 := blk_cell HB1.out 1 _ rfl
    obtain ⟨⟨p0, p1, p2, p3, p4, p5, p6⟩, p7, p8, p9, p10, p11, p12⟩ := cells13 (HX2.out.blk HB1.out)
    go_enter Try.func96, Try.ntmps96
    go_wp2_with (first | rw [HW1.out] | rw [HW2.out])
    refine (rlist_k b0 b1 b2 b3 b4 b5 b6 b7 hd nn l HL.out _).mono ?_
    rintro e w3 ⟨v3, rfl, hi3, hx3⟩
    obtain ⟨A3, c3, rfl⟩ := hi3.form
    obtain ⟨A, c, w4, hr, ho, hx, hz⟩ := ints_more (HO2.out.ext hx3) rfl rfl hi3 (Nat.le_refl _) (Nat.le_trans HX2.out.size hx3.size) (HX2.out.trans hx3) (by simp; omega)
    have HR := Lib.hid hr
    have HE : Hid (IntsP ([nx] ++ l) w (.returned (.slice A (1 + l.length) c)) w4) := Lib.hid (IntsP.mk' ho HX1.out.size (HX1.out.trans hx))
    simp only [List.length_singleton] at HR
    clear hr ho hx hz hi3 hx3
    clear p0 p1 p2 p3 p4 p5 p6 p7 p8 p9 p10 p11 p12
    go_wp2_with (at_builtin; refine wpList_append_run rfl _ _ 27 rfl _ _ rfl rfl HR.out ?_)
    go_ret
    rw [HQ.out]
    exact HE.out
theorem Try.infoG : (Try.prog.info? 55).map (fun i => (i.zero, i.size, i.bytes)) = some (some (.agg #[.int .i64 0, .int .i64 0, .int .i64 0, .int .i64 0, .int .i64 0]), 5, 40) := by kernel_rfl
theorem Try.infoP : (Try.prog.info? 40).map (fun i => (i.zero, i.size, i.bytes)) = some (some (.agg #[.int .i64 0, .int .i64 0, .int .i64 0, .int .i64 0, .int .i64 0, .int .i64 0, .int .i64 0, .int .i64 0, .int .i64 0, .int .i64 0, .int .i64 0, .int .i64 0, .int .i64 0]), 13, 104) := by kernel_rfl
theorem Try.infoM : (Try.prog.info? 57).map (fun i => (i.zero, i.size, i.bytes)) = some (some (.agg #[.int .i64 0, .int .i64 0]), 2, 16) := by kernel_rfl
theorem Try.infoInstr : (Try.prog.info? 68).map (fun i => (i.zero, i.size, i.bytes)) = some (some (.agg #[.int .i64 0, .int .i64 0]), 2, 16) := by kernel_rfl
theorem Try.infoCode : (Try.prog.info? 69).map (fun i => (i.zero, i.size, i.bytes)) = some (some (.slice none 0 0), 1, 24) := by kernel_rfl
def hdrL (x : Option Addr × Nat × Nat) : List Value := [.slice x.1 x.2.1 x.2.2]
theorem hdrL_len (x : Option Addr × Nat × Nat) : (hdrL x).length = 1 := rfl
theorem hdrL_one (x : Option Addr × Nat × Nat) : ∀ u ∈ hdrL x, u.oneCell' = true := by intro u hu; simp [hdrL] at hu; subst hu; rfl
def numL (x : Int) : List Value := [.int .i64 x]
theorem numL_len (x : Int) : (numL x).length = 1 := rfl
set_option maxRecDepth 100000 in
set_option maxHeartbeats 1000000 in
theorem cloneG_any (v : Value) (xs : List Gr) (w : World) (hR : RowsAt 5 gL w v xs) (hn : xs.length ≤ 1000000) : Calls Try.prog 97 #[v] w fun e w' => ∃ u, e = .returned u ∧ OwnRows 55 5 gL w' w.heap.size u xs ∧ Ext w w' := by
  obtain ⟨i0, I0, I1, I2, I3⟩ := info_parts Try.infoG
  obtain ⟨A, c, rfl, hc⟩ := hR.form
  cases A with
  | none =>
    have h0 : xs = [] := by
      obtain ⟨A', c', hv, _, hA⟩ := hR
      simp only [Value.slice.injEq] at hv
      cases xs with
      | nil => rfl
      | cons x xs => obtain ⟨b, o, hb, _⟩ := hA (by simp); rw [hb] at hv; simp at hv
    subst h0
    have hnil := fun (wx : World) (a : Option Addr) (n c : Nat) => Lib.run_eql_slice_nil (P := Try.prog) wx 24 55 a n c 0 0 Try.underlying24
    clear hR I0 I1 I2 I3
    go_enter Try.func97, Try.ntmps97
    go_wp2
    go_ret
    exact ⟨_, rfl, OwnRows.nil w _, Ext.refl _⟩
  | some a =>
    have hmade : OwnRows 55 5 gL (w.alloc (.cells #[] 55)) w.heap.size (.slice (some ⟨w.heap.size, 0, none⟩) 0 0) [] := World.ownsRow_made (base := w.heap.size) (e := 55) (size := 5) w #[] 0 (Nat.le_refl _) (by decide) rfl
    obtain ⟨u, w1, hr, ho, hg⟩ := OwnRows.append (P := Try.prog) (e := 55) (m := 5) (f := gL) (xs := []) 24 Try.underlying24 I0 I1 I2 I3 rfl (by decide) gL_len gL_one hmade (hR.ext ((Ext.refl w).alloc _)) (by simp [maxLen]; omega) (by simp; omega) (by simp)
    have HR := Lib.hid hr
    have HO := Lib.hid ho
    have HX : Hid (Ext w w1) := Lib.hid (OwnRows.grown (W := w) hmade ((Ext.refl w).alloc _) hg)
    have hnil := fun (wx : World) (a : Option Addr) (n c : Nat) => Lib.run_eql_slice_nil (P := Try.prog) wx 24 55 a n c 0 0 Try.underlying24
    clear hr ho hg hmade hR I0 I1 I2 I3
    go_enter Try.func97, Try.ntmps97
    go_wp2_with (at_builtin; refine wpList_append_run rfl _ _ 24 rfl _ _ rfl rfl HR.out ?_)
    go_ret
    exact ⟨_, rfl, HO.out, HX.out⟩
set_option maxRecDepth 100000 in
set_option maxHeartbeats 1000000 in
theorem cloneP_any (v : Value) (xs : List Pr) (w : World) (hR : RowsAt 13 pL w v xs) (hn : xs.length ≤ 1000000) : Calls Try.prog 98 #[v] w fun e w' => ∃ u, e = .returned u ∧ OwnRows 40 13 pL w' w.heap.size u xs ∧ Ext w w' := by
  obtain ⟨i0, I0, I1, I2, I3⟩ := info_parts Try.infoP
  obtain ⟨A, c, rfl, hc⟩ := hR.form
  cases A with
  | none =>
    have h0 : xs = [] := by
      obtain ⟨A', c', hv, _, hA⟩ := hR
      simp only [Value.slice.injEq] at hv
      cases xs with
      | nil => rfl
      | cons x xs => obtain ⟨b, o, hb, _⟩ := hA (by simp); rw [hb] at hv; simp at hv
    subst h0
    have hnil := fun (wx : World) (a : Option Addr) (n c : Nat) => Lib.run_eql_slice_nil (P := Try.prog) wx 25 40 a n c 0 0 Try.underlying25
    clear hR I0 I1 I2 I3
    go_enter Try.func98, Try.ntmps98
    go_wp2
    go_ret
    exact ⟨_, rfl, OwnRows.nil w _, Ext.refl _⟩
  | some a =>
    have hmade : OwnRows 40 13 pL (w.alloc (.cells #[] 40)) w.heap.size (.slice (some ⟨w.heap.size, 0, none⟩) 0 0) [] := World.ownsRow_made (base := w.heap.size) (e := 40) (size := 13) w #[] 0 (Nat.le_refl _) (by decide) rfl
    obtain ⟨u, w1, hr, ho, hg⟩ := OwnRows.append (P := Try.prog) (e := 40) (m := 13) (f := pL) (xs := []) 25 Try.underlying25 I0 I1 I2 I3 rfl (by decide) pL_len pL_one hmade (hR.ext ((Ext.refl w).alloc _)) (by simp [maxLen]; omega) (by simp; omega) (by simp)
    have HR := Lib.hid hr
    have HO := Lib.hid ho
    have HX : Hid (Ext w w1) := Lib.hid (OwnRows.grown (W := w) hmade ((Ext.refl w).alloc _) hg)
    have hnil := fun (wx : World) (a : Option Addr) (n c : Nat) => Lib.run_eql_slice_nil (P := Try.prog) wx 25 40 a n c 0 0 Try.underlying25
    clear hr ho hg hmade hR I0 I1 I2 I3
    go_enter Try.func98, Try.ntmps98
    go_wp2_with (at_builtin; refine wpList_append_run rfl _ _ 25 rfl _ _ rfl rfl HR.out ?_)
    go_ret
    exact ⟨_, rfl, HO.out, HX.out⟩
set_option maxRecDepth 100000 in
set_option maxHeartbeats 1000000 in
theorem cloneM_any (v : Value) (xs : List (Int × Int)) (w : World) (hR : RowsAt 2 pairL w v xs) (hn : xs.length ≤ 1000000) : Calls Try.prog 99 #[v] w fun e w' => ∃ u, e = .returned u ∧ OwnRows 57 2 pairL w' w.heap.size u xs ∧ Ext w w' := by
  obtain ⟨i0, I0, I1, I2, I3⟩ := info_parts Try.infoM
  obtain ⟨A, c, rfl, hc⟩ := hR.form
  cases A with
  | none =>
    have h0 : xs = [] := by
      obtain ⟨A', c', hv, _, hA⟩ := hR
      simp only [Value.slice.injEq] at hv
      cases xs with
      | nil => rfl
      | cons x xs => obtain ⟨b, o, hb, _⟩ := hA (by simp); rw [hb] at hv; simp at hv
    subst h0
    have hnil := fun (wx : World) (a : Option Addr) (n c : Nat) => Lib.run_eql_slice_nil (P := Try.prog) wx 26 57 a n c 0 0 Try.underlying26
    clear hR I0 I1 I2 I3
    go_enter Try.func99, Try.ntmps99
    go_wp2
    go_ret
    exact ⟨_, rfl, OwnRows.nil w _, Ext.refl _⟩
  | some a =>
    have hmade : OwnRows 57 2 pairL (w.alloc (.cells #[] 57)) w.heap.size (.slice (some ⟨w.heap.size, 0, none⟩) 0 0) [] := World.ownsRow_made (base := w.heap.size) (e := 57) (size := 2) w #[] 0 (Nat.le_refl _) (by decide) rfl
    obtain ⟨u, w1, hr, ho, hg⟩ := OwnRows.append (P := Try.prog) (e := 57) (m := 2) (f := pairL) (xs := []) 26 Try.underlying26 I0 I1 I2 I3 rfl (by decide) pairL_len pairL_one hmade (hR.ext ((Ext.refl w).alloc _)) (by simp [maxLen]; omega) (by simp; omega) (by simp)
    have HR := Lib.hid hr
    have HO := Lib.hid ho
    have HX : Hid (Ext w w1) := Lib.hid (OwnRows.grown (W := w) hmade ((Ext.refl w).alloc _) hg)
    have hnil := fun (wx : World) (a : Option Addr) (n c : Nat) => Lib.run_eql_slice_nil (P := Try.prog) wx 26 57 a n c 0 0 Try.underlying26
    clear hr ho hg hmade hR I0 I1 I2 I3
    go_enter Try.func99, Try.ntmps99
    go_wp2_with (at_builtin; refine wpList_append_run rfl _ _ 26 rfl _ _ rfl rfl HR.out ?_)
    go_ret
    exact ⟨_, rfl, HO.out, HX.out⟩
set_option maxRecDepth 100000 in
set_option maxHeartbeats 1000000 in
theorem cloneI_any (v : Value) (xs : List (Int × Int)) (w : World) (hR : RowsAt 2 pairL w v xs) (hn : xs.length ≤ 1000000) : Calls Try.prog 122 #[v] w fun e w' => ∃ u, e = .returned u ∧ OwnRows 68 2 pairL w' w.heap.size u xs ∧ Ext w w' := by
  obtain ⟨i0, I0, I1, I2, I3⟩ := info_parts Try.infoInstr
  obtain ⟨A, c, rfl, hc⟩ := hR.form
  cases A with
  | none =>
    have h0 : xs = [] := by
      obtain ⟨A', c', hv, _, hA⟩ := hR
      simp only [Value.slice.injEq] at hv
      cases xs with
      | nil => rfl
      | cons x xs => obtain ⟨b, o, hb, _⟩ := hA (by simp); rw [hb] at hv; simp at hv
    subst h0
    have hnil := fun (wx : World) (a : Option Addr) (n c : Nat) => Lib.run_eql_slice_nil (P := Try.prog) wx 69 68 a n c 0 0 Try.underlying69
    clear hR I0 I1 I2 I3
    go_enter Try.func122, Try.ntmps122
    go_wp2
    go_ret
    exact ⟨_, rfl, OwnRows.nil w _, Ext.refl _⟩
  | some a =>
    have hmade : OwnRows 68 2 pairL (w.alloc (.cells #[] 68)) w.heap.size (.slice (some ⟨w.heap.size, 0, none⟩) 0 0) [] := World.ownsRow_made (base := w.heap.size) (e := 68) (size := 2) w #[] 0 (Nat.le_refl _) (by decide) rfl
    obtain ⟨u, w1, hr, ho, hg⟩ := OwnRows.append (P := Try.prog) (e := 68) (m := 2) (f := pairL) (xs := []) 69 Try.underlying69 I0 I1 I2 I3 rfl (by decide) pairL_len pairL_one hmade (hR.ext ((Ext.refl w).alloc _)) (by simp [maxLen]; omega) (by simp; omega) (by simp)
    have HR := Lib.hid hr
    have HO := Lib.hid ho
    have HX : Hid (Ext w w1) := Lib.hid (OwnRows.grown (W := w) hmade ((Ext.refl w).alloc _) hg)
    have hnil := fun (wx : World) (a : Option Addr) (n c : Nat) => Lib.run_eql_slice_nil (P := Try.prog) wx 69 68 a n c 0 0 Try.underlying69
    clear hr ho hg hmade hR I0 I1 I2 I3
    go_enter Try.func122, Try.ntmps122
    go_wp2_with (at_builtin; refine wpList_append_run rfl _ _ 69 rfl _ _ rfl rfl HR.out ?_)
    go_ret
    exact ⟨_, rfl, HO.out, HX.out⟩
set_option maxRecDepth 100000 in
set_option maxHeartbeats 1000000 in
theorem cloneH_any (v : Value) (xs : List (Option Addr × Nat × Nat)) (w : World) (hR : RowsAt 1 hdrL w v xs) (hn : xs.length ≤ 1000000) : Calls Try.prog 121 #[v] w fun e w' => ∃ u, e = .returned u ∧ OwnRows 69 1 hdrL w' w.heap.size u xs ∧ Ext w w' := by
  obtain ⟨i0, I0, I1, I2, I3⟩ := info_parts Try.infoCode
  obtain ⟨A, c, rfl, hc⟩ := hR.form
  cases A with
  | none =>
    have h0 : xs = [] := by
      obtain ⟨A', c', hv, _, hA⟩ := hR
      simp only [Value.slice.injEq] at hv
      cases xs with
      | nil => rfl
      | cons x xs => obtain ⟨b, o, hb, _⟩ := hA (by simp); rw [hb] at hv; simp at hv
    subst h0
    have hnil := fun (wx : World) (a : Option Addr) (n c : Nat) => Lib.run_eql_slice_nil (P := Try.prog) wx 23 69 a n c 0 0 Try.underlying23
    clear hR I0 I1 I2 I3
    go_enter Try.func121, Try.ntmps121
    go_wp2
    go_ret
    exact ⟨_, rfl, OwnRows.nil w _, Ext.refl _⟩
  | some a =>
    have hmade : OwnRows 69 1 hdrL (w.alloc (.cells #[] 69)) w.heap.size (.slice (some ⟨w.heap.size, 0, none⟩) 0 0) [] := World.ownsRow_made (base := w.heap.size) (e := 69) (size := 1) w #[] 0 (Nat.le_refl _) (by decide) rfl
    obtain ⟨u, w1, hr, ho, hg⟩ := OwnRows.append (P := Try.prog) (e := 69) (m := 1) (f := hdrL) (xs := []) 23 Try.underlying23 I0 I1 I2 I3 rfl (by decide) hdrL_len hdrL_one hmade (hR.ext ((Ext.refl w).alloc _)) (by simp [maxLen]; omega) (by simp; omega) (by simp)
    have HR := Lib.hid hr
    have HO := Lib.hid ho
    have HX : Hid (Ext w w1) := Lib.hid (OwnRows.grown (W := w) hmade ((Ext.refl w).alloc _) hg)
    have hnil := fun (wx : World) (a : Option Addr) (n c : Nat) => Lib.run_eql_slice_nil (P := Try.prog) wx 23 69 a n c 0 0 Try.underlying23
    clear hr ho hg hmade hR I0 I1 I2 I3
    go_enter Try.func121, Try.ntmps121
    go_wp2_with (at_builtin; refine wpList_append_run rfl _ _ 23 rfl _ _ rfl rfl HR.out ?_)
    go_ret
    exact ⟨_, rfl, HO.out, HX.out⟩
set_option maxRecDepth 100000 in
set_option maxHeartbeats 1000000 in
theorem cloneN_any (v : Value) (xs : List Int) (w : World) (hR : IntsAt w v xs) (hn : xs.length ≤ 1000000) : Calls Try.prog 100 #[v] w fun e w' => ∃ u, e = .returned u ∧ OwnInts w' w.heap.size u xs ∧ Ext w w' := by
  obtain ⟨A, c, rfl⟩ := hR.form
  cases A with
  | none =>
    have h0 : xs = [] := by
      obtain ⟨A', c', hv, hA⟩ := hR
      simp only [Value.slice.injEq] at hv
      cases xs with
      | nil => rfl
      | cons x xs => obtain ⟨b, o, hb, _⟩ := hA (by simp); rw [hb] at hv; simp at hv
    subst h0
    have hnil := fun (wx : World) (a : Option Addr) (n c : Nat) => Lib.run_eql_slice_nil (P := Try.prog) wx 27 3 a n c 0 0 Try.underlying27
    clear hR
    go_enter Try.func100, Try.ntmps100
    go_wp2
    go_ret
    exact ⟨_, rfl, OwnInts.nil w _, Ext.refl _⟩
  | some a =>
    obtain ⟨w1, hw1⟩ : ∃ w1, w.alloc (.cells #[] 3) = w1 := ⟨_, rfl⟩
    have hmade : OwnInts w1 w.heap.size (.slice (some ⟨w.heap.size, 0, none⟩) 0 0) [] := by rw [← hw1]; exact ints_made w
    have hx1 : Ext w w1 := by rw [← hw1]; exact (Ext.refl w).alloc _
    obtain ⟨A2, c2, w2, hr, ho, hx, hz⟩ := ints_more hmade rfl rfl (hR.ext hx1) (Nat.le_refl _) hx1.size hx1 (by simp; omega)
    have HR := Lib.hid hr
    have HO := Lib.hid ho
    have HX := Lib.hid hx
    have HW1 := Lib.hid hw1
    have hnil := fun (wx : World) (a : Option Addr) (n c : Nat) => Lib.run_eql_slice_nil (P := Try.prog) wx 27 3 a n c 0 0 Try.underlying27
    clear hr ho hx hz hmade hx1 hR hw1
    go_enter Try.func100, Try.ntmps100
    go_wp2_with (first | rw [HW1.out] | (at_builtin; refine wpList_append_run rfl _ _ 27 rfl _ _ rfl rfl HR.out ?_))
    go_ret
    exact ⟨_, rfl, by simpa using HO.out, HX.out⟩
section
variable {P : Program} {ti : TypeId}
theorem run_eqFields_ints (hi : P.underlying ti = some (.int .i64)) (hp : P.plainKey ti = true) (d : Nat) (xs ys : Array Value) (f g : Nat → Int) (w : World) : ∀ fs : List Field, (∀ e ∈ fs, e.name ≠ "_" ∧ e.type = ti ∧ xs[e.offset]? = some (.int .i64 (f e.offset)) ∧ ys[e.offset]? = some (.int .i64 (g e.offset))) →
    (Op.eqFields (d + 1) xs ys fs).run P w = .ok (fs.all fun e => f e.offset == g e.offset) w
  | [], _ => by simp [Op.eqFields]
  | e :: fs, h => by
    obtain ⟨hn, ht, h1, h2⟩ := h e (by simp)
    have ih := run_eqFields_ints hi hp d xs ys f g w fs fun j hj => h j (by simp [hj])
    have p1 := run_part_plain (P := P) w (e := ti) hp h1
    have p2 := run_part_plain (P := P) w (e := ti) hp h2
    simp only [Op.eqFields, hn, ne_eq, not_false_eq_true, if_true, ht, Sem.run_bind, p1, p2, Result.andThen_ok, run_equalIn_int w d ti .i64 .i64 (f e.offset) (g e.offset) hi, List.all_cons]
    cases hb : (f e.offset == g e.offset) with
    | false => simp
    | true => simpa using ih
def IntStruct (P : Program) (t ti : TypeId) (n : Nat) : Bool := !P.stoodInHeld t && (P.fieldsOf t).toList.all (fun e => e.name != "_" && e.type == ti && decide (e.offset < n)) && (P.fieldsOf t).toList.map (·.offset) == List.range n
theorem run_eqInts {t : TypeId} (hi : P.underlying ti = some (.int .i64)) (hp : P.plainKey ti = true) (ht : P.underlying t = some (.struct (P.fieldsOf t))) (n : Nat) (hs : IntStruct P t ti n = true) (f g : List Int) (hf : f.length = n) (hg : g.length = n) (w : World) :
    (Op.equal t (.agg (f.map (Value.int .i64)).toArray) (.agg (g.map (Value.int .i64)).toArray)).run P w = .ok (decide (f = g)) w := by
  unfold IntStruct at hs
  simp only [Bool.and_eq_true, Bool.not_eq_true', beq_iff_eq] at hs
  obtain ⟨⟨h1, h2⟩, h3⟩ := hs
  show (Op.equalIn (9999 + 1) _ _ _).run _ _ = _
  rw [run_equalIn_struct w 9999 _ _ _ ht h1]
  rw [run_eqFields_ints hi hp 9998 _ _ (fun i => f.getD i 0) (fun i => g.getD i 0) w _ fun e he => by
    have := List.all_eq_true.1 h2 e he
    simp only [Bool.and_eq_true, bne_iff_ne, ne_eq, beq_iff_eq, decide_eq_true_eq] at this
    obtain ⟨⟨a1, a2⟩, a3⟩ := this
    refine ⟨a1, a2, ?_, ?_⟩
    · rw [List.getElem?_toArray, List.getElem?_map, List.getElem?_eq_getElem (by omega)]; simp [List.getD, List.getElem?_eq_getElem (show e.offset < f.length by omega)]
    · rw [List.getElem?_toArray, List.getElem?_map, List.getElem?_eq_getElem (by omega)]; simp [List.getD, List.getElem?_eq_getElem (show e.offset < g.length by omega)]]
  congr 1
  have e1 : ((P.fieldsOf t).toList.all fun e => f.getD e.offset 0 == g.getD e.offset 0) = ((List.range n).all fun i => f.getD i 0 == g.getD i 0) := by rw [← h3, List.all_map]; rfl
  rw [e1, Bool.eq_iff_iff, List.all_eq_true, decide_eq_true_eq]
  constructor
  · intro h
    apply List.ext_getElem (by omega)
    intro i hi1 hi2
    have := h i (List.mem_range.2 (by omega))
    simpa [List.getD, List.getElem?_eq_getElem hi1, List.getElem?_eq_getElem hi2] using this
  · rintro rfl i _
    simp
end
theorem NestAt.get {α : Type} {m : Nat} {f : α → List Value} {w : World} {A : Option Addr} {n c : Nat} {xss : List (List α)} (h : NestAt m f w (.slice A n c) xss) {k : Nat} {xs : List α} (hk : xss[k]? = some xs) :
    ∃ b o B d, A = some ⟨b, o, none⟩ ∧ b < w.heap.size ∧ w.cell? ⟨b, o + k, none⟩ = some (.slice B xs.length d) ∧ RowsAt m f w (.slice B xs.length d) xs := by
  obtain ⟨b, o, u, hA, hb, hc, hr⟩ := h.one hk
  obtain ⟨B, d, rfl, _⟩ := hr.form
  exact ⟨b, o, B, d, hA, hb, hc, hr⟩
theorem NestAt.form2 {α : Type} {m : Nat} {f : α → List Value} {w : World} {v : Value} {xss : List (List α)} (h : NestAt m f w v xss) : ∃ A c, v = .slice A xss.length c := by
  obtain ⟨vs, hl, hr, _⟩ := h
  obtain ⟨A, c, rfl, _⟩ := hr.form
  exact ⟨A, c, by rw [hl]⟩
set_option maxHeartbeats 1000000 in
theorem rmost_any (A : Option Addr) (n c : Nat) (d : Int) (hn : n ≤ 100000) (w : World) : Calls Try.prog 115 #[.slice A n c, .int .i64 d] w fun e w' => e = .returned (.int .i64 (Pg.most n d)) ∧ w' = w := by
  unfold Pg.most
  have hn' : (n : Int) ≤ 100000 := by omega
  by_cases h1 : d = 1
  · subst h1
    rw [if_pos rfl]
    go_enter Try.func115, Try.ntmps115
    go_wp2
    go_ret
    exact ⟨rfl, rfl⟩
  · rw [if_neg h1]
    have e1 : (d == 1) = false := by simpa using h1
    by_cases h3 : d = 3
    · subst h3
      rw [if_pos (.inl rfl)]
      clear h1 e1
      go_enter Try.func115, Try.ntmps115
      go_wp2
      go_ret
      exact ⟨rfl, rfl⟩
    · have e3 : (d == 3) = false := by simpa using h3
      by_cases h4 : d = 4
      · subst h4
        rw [if_pos (.inr rfl)]
        clear h1 e1 h3 e3
        go_enter Try.func115, Try.ntmps115
        go_wp2
        go_ret
        exact ⟨rfl, rfl⟩
      · have e4 : (d == 4) = false := by simpa using h4
        rw [if_neg (by omega)]
        by_cases h6 : d = 6
        · subst h6
          rw [if_pos rfl]
          clear h1 e1 h3 e3 h4 e4
          go_enter Try.func115, Try.ntmps115
          go_wp2
          go_ret
          exact ⟨rfl, rfl⟩
        · have e6 : (d == 6) = false := by simpa using h6
          rw [if_neg h6]
          clear h1 h3 h4 h6
          go_enter Try.func115, Try.ntmps115
          go_wp2
          go_ret
          exact ⟨rfl, rfl⟩
set_option maxRecDepth 100000 in
set_option maxHeartbeats 2000000 in
theorem rpmay_any (v : Value) (p : List (List (Int × Int))) (r : Bool) (hr : Pg.may p = r) (w : World) (h : NestAt 2 pairL w v p) (h1 : p.length ≤ 100000) (h2 : ∀ l ∈ p, l.length ≤ 100000) :
    Calls Try.prog 73 #[v] w fun e w' => e = .returned (.bool r) ∧ Ext w w' := by
  subst hr
  have H := Lib.hid h
  have H2 := Lib.hid h2
  obtain ⟨A, c, rfl⟩ := h.form2
  clear h h2
  by_cases a1 : p.length < 1
  · have HT : Hid (Pg.may p = false) := Lib.hid (by unfold Pg.may; rw [decide_eq_false (by omega)]; rfl)
    have a1' : (p.length : Int) < 1 := by omega
    go_enter Try.func73, Try.ntmps73
    go_wp2
    go_ret
    rw [HT.out]
    exact ⟨rfl, Ext.refl _⟩
  by_cases a2 : 8 < p.length
  · have HT : Hid (Pg.may p = false) := Lib.hid (by unfold Pg.may; rw [decide_eq_false (by omega)]; rfl)
    have a1' : (1 : Int) ≤ (p.length : Int) := by omega
    have a2' : (8 : Int) < (p.length : Int) := by omega
    go_enter Try.func73, Try.ntmps73
    go_wp2
    go_ret
    rw [HT.out]
    exact ⟨rfl, Ext.refl _⟩
  have a1' : (1 : Int) ≤ (p.length : Int) := by omega
  have a2' : (p.length : Int) ≤ 8 := by omega
  have HST : Hid (∀ (j : Nat) l, p[j]? = some l → Pg.okC p.length l = false → Pg.may p = false) := Lib.hid fun j l hj hl => by
    unfold Pg.may; rw [all_no hj hl, Bool.and_false]
  have HOK : Hid ((∀ (j : Nat) l, p[j]? = some l → Pg.okC p.length l = true) → Pg.may p = true) := Lib.hid fun h => by
    unfold Pg.may; rw [all_yes h, decide_eq_true (by omega)]; rfl
  have HMO : Hid (∀ (d : Int) (w : World), Calls Try.prog 115 #[.slice A p.length c, .int .i64 d] w fun e w' => e = .returned (.int .i64 (Pg.most p.length d)) ∧ w' = w) := Lib.hid fun d w => rmost_any A p.length c d h1 w
  clear a1 a2
  go_enter Try.func73, Try.ntmps73
  go_wp2
  go_loopw [3] (fun iv wr => ∃ k : Nat, k ≤ p.length ∧ iv = .int .i64 k ∧ (∀ (j : Nat) l, p[j]? = some l → j < k → Pg.okC p.length l = true) ∧ Ext w wr) (fun iv _ => p.length - (intOf iv).toNat)
  case atStart => exact ⟨0, by omega, rfl, fun j l _ h => by omega, Ext.refl _⟩
  case round =>
    obtain ⟨k, hk, rfl, hall, hx⟩ := hrel
    have HALL := Lib.hid hall
    have HX := Lib.hid hx
    clear hall hx
    by_cases hlt : k < p.length
    · obtain ⟨l, hl⟩ : ∃ l, p[k]? = some l := ⟨_, List.getElem?_eq_getElem hlt⟩
      have hl2 := H2.out l (List.mem_of_getElem? hl)
      obtain ⟨b, o, B, d, rfl, hb, hcu, hrow⟩ := H.out.get hl
      have HCU := Lib.hid hcu
      have HB := Lib.hid hb
      have HR := Lib.hid hrow
      have HL := Lib.hid hl
      clear hl hb hcu hrow
      have c0 : wr.cell? ⟨b, o + k, none⟩ = some (.slice B l.length d) := (Below.cell HX.out HB.out).trans HCU.out
      by_cases b1 : 20 < l.length
      · have HT : Hid (Pg.may p = false) := Lib.hid (HST.out k l HL.out (by unfold Pg.okC; rw [decide_eq_false (by omega)]; rfl))
        have b1' : (20 : Int) < (l.length : Int) := by omega
        go_wp2
        go_ret
        rw [HT.out]
        exact ⟨rfl, HX.out⟩
      have b1' : (l.length : Int) ≤ 20 := by omega
      have HNI : Hid (∀ (j : Nat) x, l[j]? = some x → Pg.okI p.length x = false → Pg.may p = false) := Lib.hid fun j x hj hx => HST.out k l HL.out (by unfold Pg.okC; rw [all_no hj hx, Bool.and_false])
      have HYI : Hid ((∀ (j : Nat) x, l[j]? = some x → Pg.okI p.length x = true) → Pg.okC p.length l = true) := Lib.hid fun h => by unfold Pg.okC; rw [all_yes h, decide_eq_true (by omega)]; rfl
      obtain ⟨wo, rfl⟩ : ∃ wo, wo = wr := ⟨_, rfl⟩
      go_wp2_with fail
      clear c0
      go_loopw [4] (fun iv wr => ∃ j : Nat, j ≤ l.length ∧ iv = .int .i64 j ∧ (∀ (i : Nat) x, l[i]? = some x → i < j → Pg.okI p.length x = true) ∧ Ext w wr) (fun iv _ => l.length - (intOf iv).toNat)
      case atStart => exact ⟨0, by omega, rfl, fun j l _ h => by omega, HX.out⟩
      case round =>
        clear HX
        obtain ⟨j, hj, rfl, hin, hx⟩ := hrel
        have HIN := Lib.hid hin
        have HX := Lib.hid hx
        clear hin hx
        have c0 : wr.cell? ⟨b, o + k, none⟩ = some (.slice B l.length d) := (Below.cell HX.out HB.out).trans HCU.out
        by_cases hlt2 : j < l.length
        · obtain ⟨x, hx⟩ : ∃ x, l[j]? = some x := ⟨_, List.getElem?_eq_getElem hlt2⟩
          obtain ⟨b3, o3, rfl, hb3, e0, e1⟩ := frs2_get (HR.out.ext HX.out) hx
          have HXX := Lib.hid hx
          obtain ⟨d, a⟩ := x
          simp only at e0 e1
          obtain ⟨w3, hw3⟩ : ∃ w3, wr.alloc (.cells #[.int .i64 d, .int .i64 a] 68) = w3 := ⟨_, rfl⟩
          have HW3 := Lib.hid hw3
          have HX3 : Hid (Ext w w3) := Lib.hid (by rw [← hw3]; exact HX.out.alloc _)
          have hq : w3.heap[wr.heap.size]? = some (.cells #[.int .i64 d, .int .i64 a] 68 (0, 0)) := by rw [← hw3]; exact blk_new wr _
          have q0 := blk_cell hq 0 _ rfl
          have q1 := blk_cell hq 1 _ rfl
          clear hx hb3 hq hw3
          by_cases t1 : d < 0
          · have HNO : Hid (Pg.may p = false) := Lib.hid (HNI.out j _ HXX.out (by unfold Pg.okI; rw [decide_eq_false (by simp only; omega)]))
            (go_upto_region 12 with fail; rw [HW3.out]; go_quiet ((go_at_call 115; exact Calls.quiet_of_same (HMO.out _))); go_wp2; go_ret; exact ⟨by rw [HNO.out] <;> rfl, HX3.out.drewN _⟩)
          by_cases t2 : 6 < d
          · have HNO : Hid (Pg.may p = false) := Lib.hid (HNI.out j _ HXX.out (by unfold Pg.okI; rw [decide_eq_false (by simp only; omega)]))
            (go_upto_region 12 with fail; rw [HW3.out]; go_quiet ((go_at_call 115; exact Calls.quiet_of_same (HMO.out _))); go_wp2; go_ret; exact ⟨by rw [HNO.out] <;> rfl, HX3.out.drewN _⟩)
          by_cases t3 : a < 0
          · have HNO : Hid (Pg.may p = false) := Lib.hid (HNI.out j _ HXX.out (by unfold Pg.okI; rw [decide_eq_false (by simp only; omega)]))
            (go_upto_region 12 with fail; rw [HW3.out]; go_quiet ((go_at_call 115; exact Calls.quiet_of_same (HMO.out _))); go_wp2; go_ret; exact ⟨by rw [HNO.out] <;> rfl, HX3.out.drewN _⟩)
          obtain ⟨mo, hmo⟩ : ∃ mo, Pg.most p.length d = mo := ⟨_, rfl⟩
          have HMS : Hid (Pg.most p.length d = mo) := Lib.hid hmo
          have HM := HMO
          have HMO := Lib.hid (HM.out d)
          rw [hmo] at HMO
          by_cases t4 : mo < a
          · have HNO : Hid (Pg.may p = false) := Lib.hid (HNI.out j _ HXX.out (by unfold Pg.okI; rw [decide_eq_false (by simp only [HMS.out]; omega)]))
            clear hmo HM
            (go_upto_region 12 with fail; rw [HW3.out]; go_quiet ((go_at_call 115; exact Calls.quiet_of_same (HMO.out _))); go_wp2; go_ret; exact ⟨by rw [HNO.out] <;> rfl, HX3.out.drewN _⟩)
          · have t4' : a ≤ mo := by omega
            have HYES : Hid (Pg.okI p.length (d, a) = true) := Lib.hid (by unfold Pg.okI; rw [decide_eq_true (by simp only [HMS.out]; omega)])
            clear hmo HM
            go_upto_region 12 with fail
            rw [HW3.out]
            go_quiet ((go_at_call 115; exact Calls.quiet_of_same (HMO.out _)))
            go_wp2
            go_roundw
            case rel =>
              refine ⟨j + 1, by omega, by go_num, fun i y hi hij => ?_, HX3.out.drewN _⟩
              by_cases hij2 : i < j
              · exact HIN.out i y hi hij2
              · obtain rfl : i = j := by omega
                rw [HXX.out] at hi
                injection hi with hi
                rw [← hi]
                exact HYES.out
            case measure => simp [intOf]; omega
        · obtain rfl : j = l.length := by omega
          have HKC : Hid (Pg.okC p.length l = true) := Lib.hid (HYI.out fun i x hi => HIN.out i x hi (List.getElem?_eq_some_iff.1 hi).1)
          go_wp2
          go_roundw
          case rel =>
            refine ⟨k + 1, by omega, by go_num, fun i y hi hij => ?_, HX.out⟩
            by_cases hij2 : i < k
            · exact HALL.out i y hi hij2
            · obtain rfl : i = k := by omega
              rw [HL.out] at hi
              injection hi with hi
              rw [← hi]
              exact HKC.out
          case measure => simp [intOf]; omega
    · obtain rfl : k = p.length := by omega
      have HY : Hid (Pg.may p = true) := Lib.hid (HOK.out fun j l hj => HALL.out j l hj (List.getElem?_eq_some_iff.1 hj).1)
      go_wp2
      go_ret
      rw [HY.out]
      exact ⟨rfl, HX.out⟩
theorem some_eq {α : Type} {l : List α} {k : Nat} {x y : α} (h : l[k]? = some x) (h' : l[k]? = some y) : x = y := by rw [h] at h'; injection h'
set_option maxRecDepth 100000 in
set_option maxHeartbeats 4000000 in
theorem rgoods_any (h : StH) (s : St) (r : Bool) (hr : s.goods = r) (w : World) (hk : StOk w h s) (hf : StFew s) : Calls Try.prog 76 #[stV h s] w fun e w' => e = .returned (.bool r) ∧ Ext w w' := by
  subst hr
  have f1 := hf.gs
  have f2 := hf.prog.1
  have HPL := Lib.hid hf.prog.2
  have HK := Lib.hid hk
  obtain ⟨w1, hw1⟩ : ∃ w1, w.alloc (.cells #[.slice h.pa s.prog.length h.pc, .slice h.ga s.gs.length h.gc, .slice h.qa s.ps.length h.qc, .slice h.ma s.ms.length h.mc, .slice h.la s.glob.length h.lc, .int .i64 s.c0, .int .i64 s.c1, .int .i64 s.c2, .int .i64 s.c3, .slice h.a0 s.w0.length h.k0, .slice h.a1 s.w1.length h.k1, .slice h.a2 s.w2.length h.k2, .slice h.a3 s.w3.length h.k3, .slice h.ta s.timers.length h.tc, .int .i64 s.clock, .int .i64 s.procs] 32) = w1 := ⟨_, rfl⟩
  have HX1 : Hid (Ext w w1) := Lib.hid (by rw [← hw1]; exact (Ext.refl w).alloc _)
  have HB1 : Hid (w1.heap[w.heap.size]? = some (.cells (stC h s) 32 (0, 0))) := Lib.hid (by rw [← hw1]; exact blk_new w _)
  have HK1 := Lib.hid (hk.ext HX1.out)
  have HW1 := Lib.hid hw1
  clear hw1 hk
  clear hf
  unfold stV
  go_enter Try.func76, Try.ntmps76
  go_upto_region 1 with fail
  rw [HW1.out]
  generalize Value.agg #[.slice h.pa s.prog.length h.pc, .slice h.ga s.gs.length h.gc, .slice h.qa s.ps.length h.qc, .slice h.ma s.ms.length h.mc, .slice h.la s.glob.length h.lc, .int .i64 s.c0, .int .i64 s.c1, .int .i64 s.c2, .int .i64 s.c3, .slice h.a0 s.w0.length h.k0, .slice h.a1 s.w1.length h.k1, .slice h.a2 s.w2.length h.k2, .slice h.a3 s.w3.length h.k3, .slice h.ta s.timers.length h.tc, .int .i64 s.clock, .int .i64 s.procs] = sv0
  go_wp2_with fail
  go_loopw [3] (fun iv wr => ∃ k : Nat, k ≤ s.gs.length ∧ iv = .int .i64 k ∧ (∀ (j : Nat) g, s.gs[j]? = some g → j < k → s.good g = true) ∧ Ext w1 wr) (fun iv _ => s.gs.length - (intOf iv).toNat)
  case atStart => exact ⟨0, by omega, rfl, fun j l _ h => by omega, Ext.refl _⟩
  case round =>
    obtain ⟨k, hk, rfl, hall, hx⟩ := hrel
    have HALL := Lib.hid hall
    have HX := Lib.hid hx
    clear hall hx
    have q1 := st1 (HX.out.blk HB1.out)
    by_cases hlt : k < s.gs.length
    · obtain ⟨g, hg⟩ : ∃ g, s.gs[k]? = some g := ⟨_, List.getElem?_eq_getElem hlt⟩
      have HG := Lib.hid hg
      obtain ⟨b, o, hA, hb, p0, p1, p2, p3, p4⟩ := gs_get (HK1.out.ext HX.out).gs hg
      have HST : Hid (s.good g = false → s.goods = false) := Lib.hid fun h => all_no hg h
      obtain ⟨fn, pc, st, m, sq⟩ := g
      simp only at p0 p1 p2 p3 p4
      obtain ⟨w3, hw3⟩ : ∃ w3, wr.alloc (.cells #[.int .i64 fn, .int .i64 pc, .int .i64 st, .int .i64 m, .int .i64 sq] 55) = w3 := ⟨_, rfl⟩
      have HW3 := Lib.hid hw3
      have HX3 : Hid (Ext w1 w3) := Lib.hid (by rw [← hw3]; exact HX.out.alloc _)
      have hq : w3.heap[wr.heap.size]? = some (.cells #[.int .i64 fn, .int .i64 pc, .int .i64 st, .int .i64 m, .int .i64 sq] 55 (0, 0)) := by rw [← hw3]; exact blk_new wr _
      have z0 := blk_cell hq 0 _ rfl
      have z1 := blk_cell hq 1 _ rfl
      have z4 := blk_cell hq 4 _ rfl
      have y0 := st0 (HX3.out.blk HB1.out)
      clear hg hb hq hw3
      by_cases a1 : fn < 0
      · have HNO : Hid (s.goods = false) := Lib.hid (HST.out (by unfold St.good; rw [decide_eq_false (by simp only; omega)]; rfl))
        go_wp2_with (rw [HW3.out])
        (go_ret; exact ⟨by rw [HNO.out] <;> rfl, HX1.out.trans HX3.out⟩)
      obtain ⟨f, rfl⟩ : ∃ f : Nat, fn = f := ⟨fn.toNat, by omega⟩
      clear a1
      by_cases a2 : s.prog.length ≤ f
      · have HNO : Hid (s.goods = false) := Lib.hid (HST.out (by unfold St.good; rw [decide_eq_false (by simp only; omega)]; rfl))
        have a2' : (s.prog.length : Int) ≤ (f : Int) := by omega
        go_wp2_with (rw [HW3.out])
        (go_ret; exact ⟨by rw [HNO.out] <;> rfl, HX1.out.trans HX3.out⟩)
      have a2' : (f : Int) < (s.prog.length : Int) := by omega
      by_cases a3 : pc < 0
      · have HNO : Hid (s.goods = false) := Lib.hid (HST.out (by unfold St.good; rw [decide_eq_false (by simp only; omega)]; rfl))
        go_wp2_with (rw [HW3.out])
        (go_ret; exact ⟨by rw [HNO.out] <;> rfl, HX1.out.trans HX3.out⟩)
      have a3' : 0 ≤ pc := by omega
      cases hlow : St.low sq with
      | false =>
        have HNO : Hid (s.goods = false) := Lib.hid (HST.out (by unfold St.good; simp only [hlow]; simp))
        go_wp2_with (rw [HW3.out])
        refine (rlow_k sq false hlow _).mono ?_
        rintro e w' ⟨rfl, rfl⟩
        go_wp2
        (go_ret; exact ⟨by rw [HNO.out] <;> rfl, HX1.out.trans HX3.out⟩)
      | true =>
        obtain ⟨l, hl⟩ : ∃ l, s.prog[f]? = some l := ⟨_, List.getElem?_eq_getElem (by omega)⟩
        obtain ⟨b2, o2, B, d, hA2, hb2, hcu, hrow⟩ := (HK1.out.ext HX3.out).prog.get hl
        have hll := HPL.out l (List.mem_of_getElem? hl)
        have HGD : Hid (s.good ⟨f, pc, st, m, sq⟩ = decide (pc ≤ (l.length : Int))) := Lib.hid (by
          unfold St.good
          simp only [hlow]
          rw [decide_eq_true (show 0 ≤ (f : Int) ∧ (f : Int) < (s.prog.length : Int) ∧ 0 ≤ pc by omega), List.getD, Int.toNat_natCast, hl]
          simp)
        clear a2 a3 hb2 hrow hl
        go_wp2_with (rw [HW3.out])
        refine (rlow_k sq true hlow _).mono ?_
        rintro e w' ⟨rfl, rfl⟩
        go_upto_region 7 with fail
        by_cases a5 : (l.length : Int) < pc
        · have HNO : Hid (s.goods = false) := Lib.hid (HST.out (by rw [HGD.out, decide_eq_false (by omega)]))
          go_quiet (fail)
          go_wp2
          go_ret
          exact ⟨by rw [HNO.out] <;> rfl, HX1.out.trans (HX3.out.drewN _)⟩
        · have HYES : Hid (s.good ⟨f, pc, st, m, sq⟩ = true) := Lib.hid (by rw [HGD.out, decide_eq_true (by omega)])
          go_quiet (fail)
          go_wp2
          go_roundw
          case rel =>
            refine ⟨k + 1, by omega, by go_num, fun i y hi hij => ?_, HX3.out.drewN _⟩
            by_cases hij2 : i < k
            · exact HALL.out i y hi hij2
            · obtain rfl : i = k := by omega
              rw [← some_eq HG.out hi]
              exact HYES.out
          case measure => simp [intOf]; omega
    · obtain rfl : k = s.gs.length := by omega
      have HY : Hid (s.goods = true) := Lib.hid (all_yes fun j l hj => HALL.out j l hj (List.getElem?_eq_some_iff.1 hj).1)
      go_wp2
      go_ret
      exact ⟨by rw [HY.out] <;> rfl, HX1.out.trans HX.out⟩
end Go.Proofs.Ytogcfndhcphpaaa
