/-
  The contracts of the document's May and List (layer 9).
-/
import Derived.Test.YtdpmogbibmgolaaNm
set_option linter.unusedVariables false
set_option linter.unusedSimpArgs false
namespace Go.Proofs.Ytdpmogbibmgolaa
open Go.RowKit
set_option maxRecDepth 100000 in
set_option maxHeartbeats 1000000 in
theorem rrmay_out (b0 b1 b2 b3 b4 b5 b6 b7 hd nn : Int) (w : World) (h : hd < 0 ∨ (0 ≤ hd ∧ (7 < hd ∨ (hd ≤ 7 ∧ (nn < 0 ∨ (0 ≤ nn ∧ 8 < nn)))))) :
    Calls Try.prog 8 #[.agg #[.int .i64 b0, .int .i64 b1, .int .i64 b2, .int .i64 b3, .int .i64 b4, .int .i64 b5, .int .i64 b6, .int .i64 b7, .int .i64 hd, .int .i64 nn]] w fun e w' => e = .returned (.bool false) ∧ Ext w w' := by
  rcases h with h | ⟨h1, h | ⟨h2, h | ⟨h3, h⟩⟩⟩
  all_goals
    go_enter Try.func8, Try.ntmps8
    go_wp2
    go_ret
    exact ⟨rfl, (Ext.refl w).alloc _⟩
set_option maxRecDepth 100000 in
set_option maxHeartbeats 1000000 in
theorem rrmay_in (b0 b1 b2 b3 b4 b5 b6 b7 : Int) (hd nn : Nat) (hhd : hd < 8) (hnn : nn ≤ 8) (m : Bool) (hm : Ri.may ⟨[b0, b1, b2, b3, b4, b5, b6, b7], hd, nn⟩ = m) (w : World) :
    Calls Try.prog 8 #[.agg #[.int .i64 b0, .int .i64 b1, .int .i64 b2, .int .i64 b3, .int .i64 b4, .int .i64 b5, .int .i64 b6, .int .i64 b7, .int .i64 (hd : Int), .int .i64 (nn : Int)]] w fun e w' => e = .returned (.bool m) ∧ Ext w w' := by
  have hmi := Ri.may_nat hhd hnn (bs := [b0, b1, b2, b3, b4, b5, b6, b7])
  rw [hm] at hmi
  have HMI := Lib.hid hmi
  clear hmi hm
  have i0 : (0 : Int) ≤ (hd : Int) := by omega
  have i1 : (hd : Int) ≤ 7 := by omega
  have i2 : (0 : Int) ≤ (nn : Int) := by omega
  have i3 : (nn : Int) ≤ 8 := by omega
  have HB := Lib.hid (blk_new w (.cells #[.int .i64 b0, .int .i64 b1, .int .i64 b2, .int .i64 b3, .int .i64 b4, .int .i64 b5, .int .i64 b6, .int .i64 b7, .int .i64 (hd : Int), .int .i64 (nn : Int)] 24))
  go_enter Try.func8, Try.ntmps8
  go_wp2
  go_loop [3] (fun iv => ∃ k : Nat, k ≤ 8 ∧ iv = .int .i64 k ∧ Hid (∀ j < k, if (j + 8 - hd) % 8 < nn then 0 < ([b0, b1, b2, b3, b4, b5, b6, b7])[j]?.getD 0 else ([b0, b1, b2, b3, b4, b5, b6, b7])[j]?.getD 0 = 0)) (fun iv => 8 - (intOf iv).toNat)
  case atStart => exact ⟨0, by omega, rfl, Lib.hid fun j hj => by omega⟩
  case round =>
    obtain ⟨k, hk, rfl, HK⟩ := hrel
    by_cases hlt : k < 8
    · have e1 : IntKind.i64.wrap ((k : Int) - (hd : Int)) = (k : Int) - (hd : Int) := IntWalk.i64_in _ (by omega)
      have e2 : IntKind.i64.wrap ((k : Int) - (hd : Int) + 8) = ((k + 8 - hd : Nat) : Int) := by rw [IntWalk.i64_in _ (by omega)]; omega
      obtain ⟨q, hq⟩ : ∃ q, (k + 8 - hd) % 8 = q := ⟨_, rfl⟩
      have e3 : ((k + 8 - hd : Nat) : Int).tmod 8 = (q : Int) := by rw [Int.tmod_eq_emod_of_nonneg (by omega)]; omega
      have e4 : ((k + 8 - hd : Nat) : Int) % 8 = (q : Int) := by omega
      have e5 : IntKind.i64.wrap (q : Int) = (q : Int) := IntWalk.i64_in _ (by omega)
      have pj := blk_cell HB.out k _ (Ri.cells_buf (r := ⟨[b0, b1, b2, b3, b4, b5, b6, b7], hd, nn⟩) rfl k hlt)
      simp only at pj
      obtain ⟨x, hx⟩ : ∃ x, ([b0, b1, b2, b3, b4, b5, b6, b7])[k]?.getD 0 = x := ⟨_, rfl⟩
      rw [hx] at pj
      have HXX := Lib.hid hx
      clear hx
      have HNX : Hid (∀ j < k + 1, (j = k → if (k + 8 - hd) % 8 < nn then 0 < x else x = 0) → if (j + 8 - hd) % 8 < nn then 0 < ([b0, b1, b2, b3, b4, b5, b6, b7])[j]?.getD 0 else ([b0, b1, b2, b3, b4, b5, b6, b7])[j]?.getD 0 = 0) := Lib.hid fun j hj hjk => by
        by_cases he : j = k
        · subst he; rw [HXX.out]; exact hjk rfl
        · exact HK.out j (by omega)
      have HBAD : Hid (¬ (if (k + 8 - hd) % 8 < nn then 0 < x else x = 0) → m = false) := Lib.hid fun hn => by
        cases m with
        | false => rfl
        | true => exact absurd (by have := HMI.out.1 rfl k hlt; rw [HXX.out] at this; exact this) hn
      rw [hq] at HNX HBAD
      clear hq
      by_cases hin : q < nn
      · have d1 : decide (q < nn) = true := decide_eq_true hin
        by_cases hx1 : x < 1
        · obtain rfl := HBAD.out (by rw [if_pos hin]; omega)
          clear hin
          go_wp2
          go_ret
          exact ⟨rfl, (Ext.refl w).alloc _⟩
        · have HQ : Hid (if q < nn then 0 < x else x = 0) := Lib.hid (by rw [if_pos hin]; omega)
          clear hin
          go_wp2
          go_round
          case rel => exact ⟨k + 1, by omega, by go_num, Lib.hid fun j hj => HNX.out j hj fun _ => HQ.out⟩
          case measure => simp [intOf]; omega
      · have d1 : decide (q < nn) = false := decide_eq_false hin
        by_cases hx1 : x = 0
        · have HQ : Hid (if q < nn then 0 < x else x = 0) := Lib.hid (by rw [if_neg hin]; exact hx1)
          have d2 : (x != 0) = false := by simp [hx1]
          clear hin hx1
          go_wp2
          go_round
          case rel => exact ⟨k + 1, by omega, by go_num, Lib.hid fun j hj => HNX.out j hj fun _ => HQ.out⟩
          case measure => simp [intOf]; omega
        · obtain rfl := HBAD.out (by rw [if_neg hin]; exact hx1)
          have d2 : (x != 0) = true := by simp [hx1]
          clear hin hx1
          go_wp2
          go_ret
          exact ⟨rfl, (Ext.refl w).alloc _⟩
    · obtain rfl : k = 8 := by omega
      obtain rfl : m = true := HMI.out.2 HK.out
      go_wp2
      go_ret
      exact ⟨rfl, (Ext.refl w).alloc _⟩
theorem rrmay_k (b0 b1 b2 b3 b4 b5 b6 b7 hd nn : Int) (m : Bool) (hm : Ri.may ⟨[b0, b1, b2, b3, b4, b5, b6, b7], hd, nn⟩ = m) (w : World) :
    Calls Try.prog 8 #[.agg #[.int .i64 b0, .int .i64 b1, .int .i64 b2, .int .i64 b3, .int .i64 b4, .int .i64 b5, .int .i64 b6, .int .i64 b7, .int .i64 hd, .int .i64 nn]] w fun e w' => e = .returned (.bool m) ∧ Ext w w' := by
  cases hi : Ri.inside ⟨[b0, b1, b2, b3, b4, b5, b6, b7], hd, nn⟩ with
  | true =>
    obtain ⟨h, n, rfl, rfl, h1, h2⟩ := Ri.inside_nat hi
    exact rrmay_in b0 b1 b2 b3 b4 b5 b6 b7 h n h1 h2 m hm w
  | false =>
    have h0 : m = false := by rw [← hm]; unfold Ri.may; rw [hi]; rfl
    subst h0
    refine rrmay_out b0 b1 b2 b3 b4 b5 b6 b7 hd nn w ?_
    have : ¬ ((0 ≤ hd ∧ hd < 8) ∧ 0 ≤ nn ∧ nn ≤ 8) := fun h => by rw [(Ri.inside_iff ⟨[b0, b1, b2, b3, b4, b5, b6, b7], hd, nn⟩).2 h] at hi; cases hi
    omega
theorem OwnInts.lower {w : World} {B C : Nat} {v : Value} {xs : List Int} (h : OwnInts w B v xs) (hb : C ≤ B) : OwnInts w C v xs := by
  refine ⟨h.1, ?_⟩
  rcases h.2 with hv | ⟨g, cap, cur, hv, hb', rest⟩
  · exact .inl hv
  · exact .inr ⟨g, cap, cur, hv, by omega, rest⟩
set_option maxRecDepth 100000 in
set_option maxHeartbeats 1000000 in
theorem rrlist_no (b0 b1 b2 b3 b4 b5 b6 b7 hd nn : Int) (hm : Ri.may ⟨[b0, b1, b2, b3, b4, b5, b6, b7], hd, nn⟩ = false) (w : World) :
    Calls Try.prog 9 #[.agg #[.int .i64 b0, .int .i64 b1, .int .i64 b2, .int .i64 b3, .int .i64 b4, .int .i64 b5, .int .i64 b6, .int .i64 b7, .int .i64 hd, .int .i64 nn]] w fun e w' => ∃ v, e = .returned v ∧ OwnInts w' w.heap.size v [] ∧ Ext w w' := by
  have HM := Lib.hid hm
  clear hm
  have HB := Lib.hid (blk_alloc (blk_new w (.cells #[.int .i64 b0, .int .i64 b1, .int .i64 b2, .int .i64 b3, .int .i64 b4, .int .i64 b5, .int .i64 b6, .int .i64 b7, .int .i64 hd, .int .i64 nn] 24)) (.cells #[] 3))
  have HO0 : Hid (OwnInts ((w.alloc (.cells #[.int .i64 b0, .int .i64 b1, .int .i64 b2, .int .i64 b3, .int .i64 b4, .int .i64 b5, .int .i64 b6, .int .i64 b7, .int .i64 hd, .int .i64 nn] 24)).alloc (.cells #[] 3)) w.heap.size (.slice (some ⟨w.heap.size + 1, 0, none⟩) 0 0) []) := Lib.hid (by
    have := World.ownsRow_made (base := w.heap.size) (e := 3) (size := 1) (w.alloc (.cells #[.int .i64 b0, .int .i64 b1, .int .i64 b2, .int .i64 b3, .int .i64 b4, .int .i64 b5, .int .i64 b6, .int .i64 b7, .int .i64 hd, .int .i64 nn] 24)) #[] 0 (by simp) (by decide) rfl
    rw [World.size_alloc] at this
    exact this)
  go_enter Try.func9, Try.ntmps9
  go_wp2
  go_loopw [3, 4] (fun ov iv wr => ov = .slice (some ⟨w.heap.size + 1, 0, none⟩) 0 0 ∧ iv = .int .i64 0 ∧ OwnInts wr w.heap.size (.slice (some ⟨w.heap.size + 1, 0, none⟩) 0 0) [] ∧ wr.heap[w.heap.size]? = some (.cells #[.int .i64 b0, .int .i64 b1, .int .i64 b2, .int .i64 b3, .int .i64 b4, .int .i64 b5, .int .i64 b6, .int .i64 b7, .int .i64 hd, .int .i64 nn] 24 (0, 0)) ∧ Ext w wr) (fun _ iv _ => 0)
  case atStart => exact ⟨rfl, rfl, HO0.out, HB.out, ((Ext.refl w).alloc _).alloc _⟩
  case round =>
    obtain ⟨rfl, rfl, ho, hb, hx⟩ := hrel
    have HO0 := Lib.hid ho
    clear ho
    obtain ⟨⟨q0, q1, q2, q3, q4⟩, q5, q6, q7, q8, q9⟩ := cells10 hb
    clear hb
    go_wp2_with fail
    refine (rrmay_k b0 b1 b2 b3 b4 b5 b6 b7 hd nn _ HM.out _).mono ?_
    rintro r w1 ⟨rfl, hx1⟩
    go_wp2
    go_ret
    exact ⟨_, rfl, HO0.out.ext hx1, hx.trans hx1⟩
set_option maxRecDepth 100000 in
set_option maxHeartbeats 2000000 in
theorem rrlist_in (b0 b1 b2 b3 b4 b5 b6 b7 : Int) (hd nn : Nat) (hhd : hd < 8) (hnn : nn ≤ 8) (hm : Ri.may ⟨[b0, b1, b2, b3, b4, b5, b6, b7], hd, nn⟩ = true) (l : List Int) (hl : l = (List.range nn).map fun i => ([b0, b1, b2, b3, b4, b5, b6, b7])[(hd + i) % 8]?.getD 0) (w : World) :
    Calls Try.prog 9 #[.agg #[.int .i64 b0, .int .i64 b1, .int .i64 b2, .int .i64 b3, .int .i64 b4, .int .i64 b5, .int .i64 b6, .int .i64 b7, .int .i64 (hd : Int), .int .i64 (nn : Int)]] w fun e w' => ∃ v, e = .returned v ∧ OwnInts w' w.heap.size v l ∧ Ext w w' := by
  have HM := Lib.hid hm
  have HL := Lib.hid hl
  have hn : l.length = nn := by rw [hl]; simp
  have HN := Lib.hid hn
  clear hm hl hn
  have HB := Lib.hid (blk_alloc (blk_new w (.cells #[.int .i64 b0, .int .i64 b1, .int .i64 b2, .int .i64 b3, .int .i64 b4, .int .i64 b5, .int .i64 b6, .int .i64 b7, .int .i64 (hd : Int), .int .i64 (nn : Int)] 24)) (.cells #[] 3))
  have HO0 : Hid (OwnInts ((w.alloc (.cells #[.int .i64 b0, .int .i64 b1, .int .i64 b2, .int .i64 b3, .int .i64 b4, .int .i64 b5, .int .i64 b6, .int .i64 b7, .int .i64 (hd : Int), .int .i64 (nn : Int)] 24)).alloc (.cells #[] 3)) (w.heap.size + 1) (.slice (some ⟨w.heap.size + 1, 0, none⟩) 0 0) []) := Lib.hid (by
    have := World.ownsRow_made (base := w.heap.size + 1) (e := 3) (size := 1) (w.alloc (.cells #[.int .i64 b0, .int .i64 b1, .int .i64 b2, .int .i64 b3, .int .i64 b4, .int .i64 b5, .int .i64 b6, .int .i64 b7, .int .i64 (hd : Int), .int .i64 (nn : Int)] 24)) #[] 0 (by simp) (by decide) rfl
    rw [World.size_alloc] at this
    exact this)
  go_enter Try.func9, Try.ntmps9
  go_wp2
  go_loopw [3, 4] (fun ov iv wr => ∃ (u : Value) (j : Nat) (m : List Int), u = ov ∧ j ≤ nn ∧ iv = .int .i64 j ∧ m = l.take j ∧ OwnInts wr (w.heap.size + 1) u m ∧ wr.heap[w.heap.size]? = some (.cells #[.int .i64 b0, .int .i64 b1, .int .i64 b2, .int .i64 b3, .int .i64 b4, .int .i64 b5, .int .i64 b6, .int .i64 b7, .int .i64 (hd : Int), .int .i64 (nn : Int)] 24 (0, 0)) ∧ Ext w wr ∧ w.heap.size + 2 ≤ wr.heap.size) (fun _ iv _ => nn - (intOf iv).toNat)
  case atStart => exact ⟨_, 0, [], rfl, by omega, rfl, by simp, HO0.out, HB.out, ((Ext.refl w).alloc _).alloc _, by simp⟩
  case round =>
    obtain ⟨u, j, m, hu, hj, rfl, hmm, hown, hb, hx, hsr⟩ := hrel
    subst hu
    have HOWN := Lib.hid hown
    have HMM := Lib.hid hmm
    have HTL : Hid (m.length = j) := Lib.hid (by rw [hmm, List.length_take, HN.out]; omega)
    have HBR := Lib.hid hb
    have HX := Lib.hid hx
    obtain ⟨A0, a0, rfl⟩ := OwnInts.form HOWN.out
    clear hown hmm hb hx
    obtain ⟨⟨q0, q1, q2, q3, q4⟩, q5, q6, q7, q8, q9⟩ := cells10 HBR.out
    by_cases hlt : j < nn
    · skip
      go_wp2_with fail
      refine (rrmay_k b0 b1 b2 b3 b4 b5 b6 b7 hd nn _ HM.out _).mono ?_
      rintro r wq ⟨rfl, hx5⟩
      clear q0 q1 q2 q3 q4 q5 q6 q7 q8 q9
      obtain ⟨x, hxg⟩ : ∃ x, ([b0, b1, b2, b3, b4, b5, b6, b7])[(hd + j) % 8]?.getD 0 = x := ⟨_, rfl⟩
      have pj := blk_cell (hx5.blk HBR.out) ((hd + j) % 8) _ (Ri.cells_buf (r := ⟨[b0, b1, b2, b3, b4, b5, b6, b7], hd, nn⟩) rfl _ (by omega))
      have p8 := blk_cell (hx5.blk HBR.out) 8 (.int .i64 (hd : Int)) rfl
      have p9 := blk_cell (hx5.blk HBR.out) 9 (.int .i64 (nn : Int)) rfl
      simp only at pj
      rw [hxg] at pj
      have htk : m ++ [x] = l.take (j + 1) := by
        have hlj : j < l.length := by rw [HN.out]; exact hlt
        rw [HMM.out, List.take_succ_eq_append_getElem hlj]
        congr 2
        have := HL.out
        subst this
        simp [hxg]
      have HTK := Lib.hid htk
      have e1 : IntKind.i64.wrap ((hd : Int) + (j : Int)) = ((hd + j : Nat) : Int) := IntWalk.i64_in _ (by omega)
      have e2 : ((hd + j : Nat) : Int).tmod 8 = (((hd + j) % 8 : Nat) : Int) := by rw [Int.tmod_eq_emod_of_nonneg (by omega)]; omega
      have e3 : (0 : Int) ≤ (((hd + j) % 8 : Nat) : Int) := by omega
      have e4 : (((hd + j) % 8 : Nat) : Int) < 8 := by omega
      have hszq := hx5.size
      have hub : ∀ k, (Value.slice A0 m.length a0).ownBlock = some k → w.heap.size + 1 ≤ k := fun k hk => (World.ownsRow.lt HOWN.out k hk).1
      have HO5 := Lib.hid (HOWN.out.ext hx5)
      have HX5 := Lib.hid (HX.out.trans hx5)
      have HB5 := Lib.hid (hx5.blk HBR.out)
      clear hxg htk hx5 HOWN HMM HX HBR
      obtain ⟨u, w8, hr8, ho8, hg8⟩ := OwnInts.appendS 25 (OwnInts.alloc HO5.out (.cells #[.int .i64 x] 3)) (m := [x]) (ints_one wq x) (by have := HTL.out; simp; omega) (by simp; omega)
      simp only [List.length_singleton] at hr8
      have HR8 := Lib.hid hr8
      have hX8 := Below.grown (HX5.out.alloc (.cells #[.int .i64 x] 3)) hg8 (by rw [World.size_alloc]; omega) (fun k hk => by have := hub k hk; omega)
      have hb8 : w8.heap[w.heap.size]? = some (.cells #[.int .i64 b0, .int .i64 b1, .int .i64 b2, .int .i64 b3, .int .i64 b4, .int .i64 b5, .int .i64 b6, .int .i64 b7, .int .i64 (hd : Int), .int .i64 (nn : Int)] 24 (0, 0)) := (hg8.block w.heap.size (by rw [World.size_alloc]; omega) (fun hk => by have := hub _ hk.symm; omega)).trans (blk_alloc HB5.out _)
      have hs8 := hg8.size
      rw [World.size_alloc] at hs8
      have HEND : Hid (OwnInts w8 (w.heap.size + 1) u (m ++ [x]) ∧ w8.heap[w.heap.size]? = some (.cells #[.int .i64 b0, .int .i64 b1, .int .i64 b2, .int .i64 b3, .int .i64 b4, .int .i64 b5, .int .i64 b6, .int .i64 b7, .int .i64 (hd : Int), .int .i64 (nn : Int)] 24 (0, 0)) ∧ Ext w w8 ∧ w.heap.size + 2 ≤ w8.heap.size) := Lib.hid ⟨ho8, hb8, hX8, by omega⟩
      clear hr8 ho8 hg8 hub hX8 hb8
      go_wp2_with (at_builtin; refine wpList_append_run rfl _ _ 25 rfl _ _ rfl rfl HR8.out ?_)
      go_roundw
      case rel => exact ⟨u, j + 1, m ++ [x], rfl, by omega, by go_num, HTK.out, HEND.out⟩
      case measure => simp [intOf]; omega
    · obtain rfl : j = nn := by omega
      have hml := HMM.out
      rw [← HN.out, List.take_length] at hml
      obtain rfl : l = m := hml.symm
      have HO9 := Lib.hid (OwnInts.lower HOWN.out (show w.heap.size ≤ w.heap.size + 1 by omega))
      clear HMM HOWN hml
      go_wp2_with fail
      refine (rrmay_k b0 b1 b2 b3 b4 b5 b6 b7 hd j _ HM.out _).mono ?_
      rintro r wq ⟨rfl, hx5⟩
      clear q0 q1 q2 q3 q4 q5 q6 q7 q8 q9
      have p9 := blk_cell (hx5.blk HBR.out) 9 (.int .i64 (j : Int)) rfl
      go_wp2
      go_ret
      exact ⟨_, rfl, HO9.out.ext hx5, HX.out.trans hx5⟩
theorem rrlist_k (b0 b1 b2 b3 b4 b5 b6 b7 hd nn : Int) (l : List Int) (h : Ri.list ⟨[b0, b1, b2, b3, b4, b5, b6, b7], hd, nn⟩ = l) (w : World) :
    Calls Try.prog 9 #[.agg #[.int .i64 b0, .int .i64 b1, .int .i64 b2, .int .i64 b3, .int .i64 b4, .int .i64 b5, .int .i64 b6, .int .i64 b7, .int .i64 hd, .int .i64 nn]] w fun e w' => ∃ v, e = .returned v ∧ OwnInts w' w.heap.size v l ∧ Ext w w' := by
  subst h
  cases hm : Ri.may ⟨[b0, b1, b2, b3, b4, b5, b6, b7], hd, nn⟩ with
  | false =>
    have : Ri.list ⟨[b0, b1, b2, b3, b4, b5, b6, b7], hd, nn⟩ = [] := by unfold Ri.list; rw [hm]; rfl
    rw [this]
    exact rrlist_no b0 b1 b2 b3 b4 b5 b6 b7 hd nn hm w
  | true =>
    have hi : Ri.inside ⟨[b0, b1, b2, b3, b4, b5, b6, b7], hd, nn⟩ = true := by have := hm; unfold Ri.may at this; rw [Bool.and_eq_true] at this; exact this.1
    obtain ⟨a, n, rfl, rfl, h1, h2⟩ := Ri.inside_nat hi
    refine rrlist_in b0 b1 b2 b3 b4 b5 b6 b7 a n h1 h2 hm _ ?_ w
    unfold Ri.list
    rw [if_pos hm]
    rfl

end Go.Proofs.Ytdpmogbibmgolaa
