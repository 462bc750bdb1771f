/-
  Several texts in one: Nn, Tc, Td, Tp, Tzf, Gk, Gl, Hd, He, Hf, Hg, Hh, Rv, Rw, Hi, Hl.
-/
import Derived.Test.YtdcbaddndoilfaaE04
import Derived.Test.YtdcbaddndoilfaaE01
import Derived.Test.YtdcbaddndoilfaaE02
import Derived.Test.YtdcbaddndoilfaaE03
import Derived.Lib.SliceRun
import Derived.Deep.MidRow
import Derived.Laws.ResultCell
import Derived.Laws.Rows
set_option linter.unusedVariables false
set_option linter.unusedSimpArgs false
namespace Go.Proofs.Ytdcbaddndoilfaa
open Go.RowKit
set_option maxRecDepth 100000 in
set_option maxHeartbeats 1000000 in
theorem rrmay_out (b0 b1 b2 b3 b4 b5 b6 b7 hd nn : Int) (w : World) (h : hd < 0 ∨ (0 ≤ hd ∧ (7 < hd ∨ (hd ≤ 7 ∧ (nn < 0 ∨ (0 ≤ nn ∧ 8 < nn)))))) :
    Calls Try.prog 94 #[.agg #[.int .i64 b0, .int .i64 b1, .int .i64 b2, .int .i64 b3, .int .i64 b4, .int .i64 b5, .int .i64 b6, .int .i64 b7, .int .i64 hd, .int .i64 nn]] w fun e w' => e = .returned (.bool false) ∧ Ext w w' := by
  rcases h with h | ⟨h1, h | ⟨h2, h | ⟨h3, h⟩⟩⟩
  all_goals
    go_enter Try.func94, Try.ntmps94
    go_wp2
    go_ret
    exact ⟨rfl, (Ext.refl w).alloc _⟩
set_option maxRecDepth 100000 in
set_option maxHeartbeats 1000000 in
theorem rrmay_in (b0 b1 b2 b3 b4 b5 b6 b7 : Int) (hd nn : Nat) (hhd : hd < 8) (hnn : nn ≤ 8) (m : Bool) (hm : Ri.may ⟨[b0, b1, b2, b3, b4, b5, b6, b7], hd, nn⟩ = m) (w : World) :
    Calls Try.prog 94 #[.agg #[.int .i64 b0, .int .i64 b1, .int .i64 b2, .int .i64 b3, .int .i64 b4, .int .i64 b5, .int .i64 b6, .int .i64 b7, .int .i64 (hd : Int), .int .i64 (nn : Int)]] w fun e w' => e = .returned (.bool m) ∧ Ext w w' := by
  have hmi := Ri.may_nat hhd hnn (bs := [b0, b1, b2, b3, b4, b5, b6, b7])
  rw [hm] at hmi
  have HMI := Lib.hid hmi
  clear hmi hm
  have i0 : (0 : Int) ≤ (hd : Int) := by omega
  have i1 : (hd : Int) ≤ 7 := by omega
  have i2 : (0 : Int) ≤ (nn : Int) := by omega
  have i3 : (nn : Int) ≤ 8 := by omega
  have HB := Lib.hid (blk_new w (.cells #[.int .i64 b0, .int .i64 b1, .int .i64 b2, .int .i64 b3, .int .i64 b4, .int .i64 b5, .int .i64 b6, .int .i64 b7, .int .i64 (hd : Int), .int .i64 (nn : Int)] 75))
  go_enter Try.func94, Try.ntmps94
  go_wp2
  go_loop [3] (fun iv => ∃ k : Nat, k ≤ 8 ∧ iv = .int .i64 k ∧ Hid (∀ j < k, if (j + 8 - hd) % 8 < nn then 0 < ([b0, b1, b2, b3, b4, b5, b6, b7])[j]?.getD 0 else ([b0, b1, b2, b3, b4, b5, b6, b7])[j]?.getD 0 = 0)) (fun iv => 8 - (intOf iv).toNat)
  case atStart => exact ⟨0, by omega, rfl, Lib.hid fun j hj => by omega⟩
  case round =>
    obtain ⟨k, hk, rfl, HK⟩ := hrel
    by_cases hlt : k < 8
    · have e1 : IntKind.i64.wrap ((k : Int) - (hd : Int)) = (k : Int) - (hd : Int) := IntWalk.i64_in _ (by omega)
      have e2 : IntKind.i64.wrap ((k : Int) - (hd : Int) + 8) = ((k + 8 - hd : Nat) : Int) := by rw [IntWalk.i64_in _ (by omega)]; omega
      obtain ⟨q, hq⟩ : ∃ q, (k + 8 - hd) % 8 = q := ⟨_, rfl⟩
      have e3 : ((k + 8 - hd : Nat) : Int).tmod 8 = (q : Int) := by rw [Int.tmod_eq_emod_of_nonneg (by omega)]; omega
      have e4 : ((k + 8 - hd : Nat) : Int) % 8 = (q : Int) := by omega
      have e5 : IntKind.i64.wrap (q : Int) = (q : Int) := IntWalk.i64_in _ (by omega)
      have pj := blk_cell HB.out k _ (Ri.cells_buf (r := ⟨[b0, b1, b2, b3, b4, b5, b6, b7], hd, nn⟩) rfl k hlt)
      simp only at pj
      obtain ⟨x, hx⟩ : ∃ x, ([b0, b1, b2, b3, b4, b5, b6, b7])[k]?.getD 0 = x := ⟨_, rfl⟩
      rw [hx] at pj
      have HXX := Lib.hid hx
      clear hx
      have HNX : Hid (∀ j < k + 1, (j = k → if (k + 8 - hd) % 8 < nn then 0 < x else x = 0) → if (j + 8 - hd) % 8 < nn then 0 < ([b0, b1, b2, b3, b4, b5, b6, b7])[j]?.getD 0 else ([b0, b1, b2, b3, b4, b5, b6, b7])[j]?.getD 0 = 0) := Lib.hid fun j hj hjk => by
        by_cases he : j = k
        · subst he; rw [HXX.out]; exact hjk rfl
        · exact HK.out j (by omega)
      have HBAD : Hid (¬ (if (k + 8 - hd) % 8 < nn then 0 < x else x = 0) → m = false) := Lib.hid fun hn => by
        cases m with
        | false => rfl
        | true => exact absurd (by have := HMI.out.1 rfl k hlt; rw [HXX.out] at this; exact this) hn
      rw [hq] at HNX HBAD
      clear hq
      by_cases hin : q < nn
      · have d1 : decide (q < nn) = true := decide_eq_true hin
        by_cases hx1 : x < 1
        · obtain rfl := HBAD.out (by rw [if_pos hin]; omega)
          clear hin
          go_wp2
          go_ret
          exact ⟨rfl, (Ext.refl w).alloc _⟩
        · have HQ : Hid (if q < nn then 0 < x else x = 0) := Lib.hid (by rw [if_pos hin]; omega)
          clear hin
          go_wp2
          go_round
          case rel => exact ⟨k + 1, by omega, by go_num, Lib.hid fun j hj => HNX.out j hj fun _ => HQ.out⟩
          case measure => simp [intOf]; omega
      · have d1 : decide (q < nn) = false := decide_eq_false hin
        by_cases hx1 : x = 0
        · have HQ : Hid (if q < nn then 0 < x else x = 0) := Lib.hid (by rw [if_neg hin]; exact hx1)
          have d2 : (x != 0) = false := by simp [hx1]
          clear hin hx1
          go_wp2
          go_round
          case rel => exact ⟨k + 1, by omega, by go_num, Lib.hid fun j hj => HNX.out j hj fun _ => HQ.out⟩
          case measure => simp [intOf]; omega
        · obtain rfl := HBAD.out (by rw [if_neg hin]; exact hx1)
          have d2 : (x != 0) = true := by simp [hx1]
          clear hin hx1
          go_wp2
          go_ret
          exact ⟨rfl, (Ext.refl w).alloc _⟩
    · obtain rfl : k = 8 := by omega
      obtain rfl : m = true := HMI.out.2 HK.out
      go_wp2
      go_ret
      exact ⟨rfl, (Ext.refl w).alloc _⟩
theorem rrmay_k (b0 b1 b2 b3 b4 b5 b6 b7 hd nn : Int) (m : Bool) (hm : Ri.may ⟨[b0, b1, b2, b3, b4, b5, b6, b7], hd, nn⟩ = m) (w : World) :
    Calls Try.prog 94 #[.agg #[.int .i64 b0, .int .i64 b1, .int .i64 b2, .int .i64 b3, .int .i64 b4, .int .i64 b5, .int .i64 b6, .int .i64 b7, .int .i64 hd, .int .i64 nn]] w fun e w' => e = .returned (.bool m) ∧ Ext w w' := by
  cases hi : Ri.inside ⟨[b0, b1, b2, b3, b4, b5, b6, b7], hd, nn⟩ with
  | true =>
    obtain ⟨h, n, rfl, rfl, h1, h2⟩ := Ri.inside_nat hi
    exact rrmay_in b0 b1 b2 b3 b4 b5 b6 b7 h n h1 h2 m hm w
  | false =>
    have h0 : m = false := by rw [← hm]; unfold Ri.may; rw [hi]; rfl
    subst h0
    refine rrmay_out b0 b1 b2 b3 b4 b5 b6 b7 hd nn w ?_
    have : ¬ ((0 ≤ hd ∧ hd < 8) ∧ 0 ≤ nn ∧ nn ≤ 8) := fun h => by rw [(Ri.inside_iff ⟨[b0, b1, b2, b3, b4, b5, b6, b7], hd, nn⟩).2 h] at hi; cases hi
    omega
theorem OwnInts.lower {w : World} {B C : Nat} {v : Value} {xs : List Int} (h : OwnInts w B v xs) (hb : C ≤ B) : OwnInts w C v xs := by
  refine ⟨h.1, ?_⟩
  rcases h.2 with hv | ⟨g, cap, cur, hv, hb', rest⟩
  · exact .inl hv
  · exact .inr ⟨g, cap, cur, hv, by omega, rest⟩
set_option maxRecDepth 100000 in
set_option maxHeartbeats 1000000 in
theorem rrlist_no (b0 b1 b2 b3 b4 b5 b6 b7 hd nn : Int) (hm : Ri.may ⟨[b0, b1, b2, b3, b4, b5, b6, b7], hd, nn⟩ = false) (w : World) :
    Calls Try.prog 106 #[.agg #[.int .i64 b0, .int .i64 b1, .int .i64 b2, .int .i64 b3, .int .i64 b4, .int .i64 b5, .int .i64 b6, .int .i64 b7, .int .i64 hd, .int .i64 nn]] w fun e w' => ∃ v, e = .returned v ∧ OwnInts w' w.heap.size v [] ∧ Ext w w' := by
  have HM := Lib.hid hm
  clear hm
  have HB := Lib.hid (blk_alloc (blk_new w (.cells #[.int .i64 b0, .int .i64 b1, .int .i64 b2, .int .i64 b3, .int .i64 b4, .int .i64 b5, .int .i64 b6, .int .i64 b7, .int .i64 hd, .int .i64 nn] 75)) (.cells #[] 3))
  have HO0 : Hid (OwnInts ((w.alloc (.cells #[.int .i64 b0, .int .i64 b1, .int .i64 b2, .int .i64 b3, .int .i64 b4, .int .i64 b5, .int .i64 b6, .int .i64 b7, .int .i64 hd, .int .i64 nn] 75)).alloc (.cells #[] 3)) w.heap.size (.slice (some ⟨w.heap.size + 1, 0, none⟩) 0 0) []) := Lib.hid (by
    have := World.ownsRow_made (base := w.heap.size) (e := 3) (size := 1) (w.alloc (.cells #[.int .i64 b0, .int .i64 b1, .int .i64 b2, .int .i64 b3, .int .i64 b4, .int .i64 b5, .int .i64 b6, .int .i64 b7, .int .i64 hd, .int .i64 nn] 75)) #[] 0 (by simp) (by decide) rfl
    rw [World.size_alloc] at this
    exact this)
  go_enter Try.func106, Try.ntmps106
  go_wp2
  go_loopw [3, 4] (fun ov iv wr => ov = .slice (some ⟨w.heap.size + 1, 0, none⟩) 0 0 ∧ iv = .int .i64 0 ∧ OwnInts wr w.heap.size (.slice (some ⟨w.heap.size + 1, 0, none⟩) 0 0) [] ∧ wr.heap[w.heap.size]? = some (.cells #[.int .i64 b0, .int .i64 b1, .int .i64 b2, .int .i64 b3, .int .i64 b4, .int .i64 b5, .int .i64 b6, .int .i64 b7, .int .i64 hd, .int .i64 nn] 75 (0, 0)) ∧ Ext w wr) (fun _ iv _ => 0)
  case atStart => exact ⟨rfl, rfl, HO0.out, HB.out, ((Ext.refl w).alloc _).alloc _⟩
  case round =>
    obtain ⟨rfl, rfl, ho, hb, hx⟩ := hrel
    have HO0 := Lib.hid ho
    clear ho
    obtain ⟨⟨q0, q1, q2, q3, q4⟩, q5, q6, q7, q8, q9⟩ := cells10 hb
    clear hb
    go_wp2_with fail
    refine (rrmay_k b0 b1 b2 b3 b4 b5 b6 b7 hd nn _ HM.out _).mono ?_
    rintro r w1 ⟨rfl, hx1⟩
    go_wp2
    go_ret
    exact ⟨_, rfl, HO0.out.ext hx1, hx.trans hx1⟩
set_option maxRecDepth 100000 in
set_option maxHeartbeats 2000000 in
theorem rrlist_in (b0 b1 b2 b3 b4 b5 b6 b7 : Int) (hd nn : Nat) (hhd : hd < 8) (hnn : nn ≤ 8) (hm : Ri.may ⟨[b0, b1, b2, b3, b4, b5, b6, b7], hd, nn⟩ = true) (l : List Int) (hl : l = (List.range nn).map fun i => ([b0, b1, b2, b3, b4, b5, b6, b7])[(hd + i) % 8]?.getD 0) (w : World) :
    Calls Try.prog 106 #[.agg #[.int .i64 b0, .int .i64 b1, .int .i64 b2, .int .i64 b3, .int .i64 b4, .int .i64 b5, .int .i64 b6, .int .i64 b7, .int .i64 (hd : Int), .int .i64 (nn : Int)]] w fun e w' => ∃ v, e = .returned v ∧ OwnInts w' w.heap.size v l ∧ Ext w w' := by
  have HM := Lib.hid hm
  have HL := Lib.hid hl
  have hn : l.length = nn := by rw [hl]; simp
  have HN := Lib.hid hn
  clear hm hl hn
  have HB := Lib.hid (blk_alloc (blk_new w (.cells #[.int .i64 b0, .int .i64 b1, .int .i64 b2, .int .i64 b3, .int .i64 b4, .int .i64 b5, .int .i64 b6, .int .i64 b7, .int .i64 (hd : Int), .int .i64 (nn : Int)] 75)) (.cells #[] 3))
  have HO0 : Hid (OwnInts ((w.alloc (.cells #[.int .i64 b0, .int .i64 b1, .int .i64 b2, .int .i64 b3, .int .i64 b4, .int .i64 b5, .int .i64 b6, .int .i64 b7, .int .i64 (hd : Int), .int .i64 (nn : Int)] 75)).alloc (.cells #[] 3)) (w.heap.size + 1) (.slice (some ⟨w.heap.size + 1, 0, none⟩) 0 0) []) := Lib.hid (by
    have := World.ownsRow_made (base := w.heap.size + 1) (e := 3) (size := 1) (w.alloc (.cells #[.int .i64 b0, .int .i64 b1, .int .i64 b2, .int .i64 b3, .int .i64 b4, .int .i64 b5, .int .i64 b6, .int .i64 b7, .int .i64 (hd : Int), .int .i64 (nn : Int)] 75)) #[] 0 (by simp) (by decide) rfl
    rw [World.size_alloc] at this
    exact this)
  go_enter Try.func106, Try.ntmps106
  go_wp2
  go_loopw [3, 4] (fun ov iv wr => ∃ (u : Value) (j : Nat) (m : List Int), u = ov ∧ j ≤ nn ∧ iv = .int .i64 j ∧ m = l.take j ∧ OwnInts wr (w.heap.size + 1) u m ∧ wr.heap[w.heap.size]? = some (.cells #[.int .i64 b0, .int .i64 b1, .int .i64 b2, .int .i64 b3, .int .i64 b4, .int .i64 b5, .int .i64 b6, .int .i64 b7, .int .i64 (hd : Int), .int .i64 (nn : Int)] 75 (0, 0)) ∧ Ext w wr ∧ w.heap.size + 2 ≤ wr.heap.size) (fun _ iv _ => nn - (intOf iv).toNat)
  case atStart => exact ⟨_, 0, [], rfl, by omega, rfl, by simp, HO0.out, HB.out, ((Ext.refl w).alloc _).alloc _, by simp⟩
  case round =>
    obtain ⟨u, j, m, hu, hj, rfl, hmm, hown, hb, hx, hsr⟩ := hrel
    subst hu
    have HOWN := Lib.hid hown
    have HMM := Lib.hid hmm
    have HTL : Hid (m.length = j) := Lib.hid (by rw [hmm, List.length_take, HN.out]; omega)
    have HBR := Lib.hid hb
    have HX := Lib.hid hx
    obtain ⟨A0, a0, rfl⟩ := OwnInts.form HOWN.out
    clear hown hmm hb hx
    obtain ⟨⟨q0, q1, q2, q3, q4⟩, q5, q6, q7, q8, q9⟩ := cells10 HBR.out
    by_cases hlt : j < nn
    · skip
      go_wp2_with fail
      refine (rrmay_k b0 b1 b2 b3 b4 b5 b6 b7 hd nn _ HM.out _).mono ?_
      rintro r wq ⟨rfl, hx5⟩
      clear q0 q1 q2 q3 q4 q5 q6 q7 q8 q9
      obtain ⟨x, hxg⟩ : ∃ x, ([b0, b1, b2, b3, b4, b5, b6, b7])[(hd + j) % 8]?.getD 0 = x := ⟨_, rfl⟩
      have pj := blk_cell (hx5.blk HBR.out) ((hd + j) % 8) _ (Ri.cells_buf (r := ⟨[b0, b1, b2, b3, b4, b5, b6, b7], hd, nn⟩) rfl _ (by omega))
      have p8 := blk_cell (hx5.blk HBR.out) 8 (.int .i64 (hd : Int)) rfl
      have p9 := blk_cell (hx5.blk HBR.out) 9 (.int .i64 (nn : Int)) rfl
      simp only at pj
      rw [hxg] at pj
      have htk : m ++ [x] = l.take (j + 1) := by
        have hlj : j < l.length := by rw [HN.out]; exact hlt
        rw [HMM.out, List.take_succ_eq_append_getElem hlj]
        congr 2
        have := HL.out
        subst this
        simp [hxg]
      have HTK := Lib.hid htk
      have e1 : IntKind.i64.wrap ((hd : Int) + (j : Int)) = ((hd + j : Nat) : Int) := IntWalk.i64_in _ (by omega)
      have e2 : ((hd + j : Nat) : Int).tmod 8 = (((hd + j) % 8 : Nat) : Int) := by rw [Int.tmod_eq_emod_of_nonneg (by omega)]; omega
      have e3 : (0 : Int) ≤ (((hd + j) % 8 : Nat) : Int) := by omega
      have e4 : (((hd + j) % 8 : Nat) : Int) < 8 := by omega
      have hszq := hx5.size
      have hub : ∀ k, (Value.slice A0 m.length a0).ownBlock = some k → w.heap.size + 1 ≤ k := fun k hk => (World.ownsRow.lt HOWN.out k hk).1
      have HO5 := Lib.hid (HOWN.out.ext hx5)
      have HX5 := Lib.hid (HX.out.trans hx5)
      have HB5 := Lib.hid (hx5.blk HBR.out)
      clear hxg htk hx5 HOWN HMM HX HBR
      obtain ⟨u, w8, hr8, ho8, hg8⟩ := OwnInts.appendS 42 (OwnInts.alloc HO5.out (.cells #[.int .i64 x] 3)) (m := [x]) (ints_one wq x) (by have := HTL.out; simp; omega) (by simp; omega)
      simp only [List.length_singleton] at hr8
      have HR8 := Lib.hid hr8
      have hX8 := Below.grown (HX5.out.alloc (.cells #[.int .i64 x] 3)) hg8 (by rw [World.size_alloc]; omega) (fun k hk => by have := hub k hk; omega)
      have hb8 : w8.heap[w.heap.size]? = some (.cells #[.int .i64 b0, .int .i64 b1, .int .i64 b2, .int .i64 b3, .int .i64 b4, .int .i64 b5, .int .i64 b6, .int .i64 b7, .int .i64 (hd : Int), .int .i64 (nn : Int)] 75 (0, 0)) := (hg8.block w.heap.size (by rw [World.size_alloc]; omega) (fun hk => by have := hub _ hk.symm; omega)).trans (blk_alloc HB5.out _)
      have hs8 := hg8.size
      rw [World.size_alloc] at hs8
      have HEND : Hid (OwnInts w8 (w.heap.size + 1) u (m ++ [x]) ∧ w8.heap[w.heap.size]? = some (.cells #[.int .i64 b0, .int .i64 b1, .int .i64 b2, .int .i64 b3, .int .i64 b4, .int .i64 b5, .int .i64 b6, .int .i64 b7, .int .i64 (hd : Int), .int .i64 (nn : Int)] 75 (0, 0)) ∧ Ext w w8 ∧ w.heap.size + 2 ≤ w8.heap.size) := Lib.hid ⟨ho8, hb8, hX8, by omega⟩
      clear hr8 ho8 hg8 hub hX8 hb8
      go_wp2_with (at_builtin; refine wpList_append_run rfl _ _ 42 rfl _ _ rfl rfl HR8.out ?_)
      go_roundw
      case rel => exact ⟨u, j + 1, m ++ [x], rfl, by omega, by go_num, HTK.out, HEND.out⟩
      case measure => simp [intOf]; omega
    · obtain rfl : j = nn := by omega
      have hml := HMM.out
      rw [← HN.out, List.take_length] at hml
      obtain rfl : l = m := hml.symm
      have HO9 := Lib.hid (OwnInts.lower HOWN.out (show w.heap.size ≤ w.heap.size + 1 by omega))
      clear HMM HOWN hml
      go_wp2_with fail
      refine (rrmay_k b0 b1 b2 b3 b4 b5 b6 b7 hd j _ HM.out _).mono ?_
      rintro r wq ⟨rfl, hx5⟩
      clear q0 q1 q2 q3 q4 q5 q6 q7 q8 q9
      have p9 := blk_cell (hx5.blk HBR.out) 9 (.int .i64 (j : Int)) rfl
      go_wp2
      go_ret
      exact ⟨_, rfl, HO9.out.ext hx5, HX.out.trans hx5⟩
theorem rrlist_k (b0 b1 b2 b3 b4 b5 b6 b7 hd nn : Int) (l : List Int) (h : Ri.list ⟨[b0, b1, b2, b3, b4, b5, b6, b7], hd, nn⟩ = l) (w : World) :
    Calls Try.prog 106 #[.agg #[.int .i64 b0, .int .i64 b1, .int .i64 b2, .int .i64 b3, .int .i64 b4, .int .i64 b5, .int .i64 b6, .int .i64 b7, .int .i64 hd, .int .i64 nn]] w fun e w' => ∃ v, e = .returned v ∧ OwnInts w' w.heap.size v l ∧ Ext w w' := by
  subst h
  cases hm : Ri.may ⟨[b0, b1, b2, b3, b4, b5, b6, b7], hd, nn⟩ with
  | false =>
    have : Ri.list ⟨[b0, b1, b2, b3, b4, b5, b6, b7], hd, nn⟩ = [] := by unfold Ri.list; rw [hm]; rfl
    rw [this]
    exact rrlist_no b0 b1 b2 b3 b4 b5 b6 b7 hd nn hm w
  | true =>
    have hi : Ri.inside ⟨[b0, b1, b2, b3, b4, b5, b6, b7], hd, nn⟩ = true := by have := hm; unfold Ri.may at this; rw [Bool.and_eq_true] at this; exact this.1
    obtain ⟨a, n, rfl, rfl, h1, h2⟩ := Ri.inside_nat hi
    refine rrlist_in b0 b1 b2 b3 b4 b5 b6 b7 a n h1 h2 hm _ ?_ w
    unfold Ri.list
    rw [if_pos hm]
    rfl
theorem ints_made (w : World) : OwnInts (w.alloc (.cells #[] 3)) w.heap.size (.slice (some ⟨w.heap.size, 0, none⟩) 0 0) [] := World.ownsRow_made (base := w.heap.size) (e := 3) (size := 1) w #[] 0 (Nat.le_refl _) (by decide) rfl
theorem ints_push {W w : World} {B n : Nat} {u : Value} {l : List Int} (h : OwnInts w B u l) (hn : n = l.length) (hB : W.heap.size ≤ B) (hw : B ≤ w.heap.size) (hx : Ext W w) (x : Int) (hl : l.length ≤ 10000000) :
    ∃ A c w', (Builtin.append_ #[42, 42] 42 #[u, .slice (some ⟨w.heap.size, 0, none⟩) 1 1]).run Try.prog (w.alloc (.cells #[.int .i64 x] 3)) = .ok (.slice A (n + 1) c) w' ∧ OwnInts w' B (.slice A (n + 1) c) (l ++ [x]) ∧ Ext W w' ∧ w.heap.size ≤ w'.heap.size := by
  subst hn
  obtain ⟨u', w', hr, ho, hg⟩ := OwnInts.appendS 42 (OwnInts.alloc h (.cells #[.int .i64 x] 3)) (m := [x]) (ints_one w x) (by simp; omega) (by simp; omega)
  obtain ⟨A, c, hu⟩ := ho.form
  rw [List.length_append, List.length_singleton] at hu
  subst hu
  refine ⟨A, c, w', hr, ho, Below.grown (hx.alloc _) hg (hx.alloc _).size fun k hk => ?_, ?_⟩
  · have := (World.ownsRow.lt h k hk).1; omega
  · have := hg.size; rw [World.size_alloc] at this; omega
theorem ints_more {W w : World} {B n k c0 : Nat} {u : Value} {l m : List Int} {A0 : Option Addr} (h : OwnInts w B u l) (hn : n = l.length) (hk : k = m.length) (hv : IntsAt w (.slice A0 k c0) m) (hB : W.heap.size ≤ B) (hw : B ≤ w.heap.size) (hx : Ext W w) (hl : l.length + m.length ≤ 100000000) :
    ∃ A c w', (Builtin.append_ #[42, 42] 42 #[u, .slice A0 k c0]).run Try.prog w = .ok (.slice A (n + k) c) w' ∧ OwnInts w' B (.slice A (n + k) c) (l ++ m) ∧ Ext W w' ∧ w.heap.size ≤ w'.heap.size := by
  subst hn hk
  obtain ⟨u', w', hr, ho, hg⟩ := OwnInts.appendS 42 h hv hl hw
  obtain ⟨A, c, hu⟩ := ho.form
  rw [List.length_append] at hu
  subst hu
  exact ⟨A, c, w', hr, ho, Below.grown hx hg hx.size fun k hk => by have := (World.ownsRow.lt h k hk).1; omega, hg.size⟩
theorem OwnInts.at {w : World} {B n c : Nat} {A : Option Addr} {xs : List Int} (h : OwnInts w B (.slice A n c) xs) : n = xs.length ∧ IntsAt w (.slice A n c) xs := by
  obtain ⟨A', c', hv, hi⟩ := h.ints
  simp only [Value.slice.injEq] at hv
  obtain ⟨rfl, rfl, rfl⟩ := hv
  exact ⟨rfl, hi⟩
theorem ints_get {w : World} {A : Option Addr} {n c : Nat} {xs : List Int} (h : IntsAt w (.slice A n c) xs) {k : Nat} {x : Int} (hk : xs[k]? = some x) : ∃ b o, A = some ⟨b, o, none⟩ ∧ b < w.heap.size ∧ w.cell? ⟨b, o + k, none⟩ = some (.int .i64 x) := by
  obtain ⟨A', c', hv, hA⟩ := h
  simp only [Value.slice.injEq] at hv
  obtain ⟨rfl, _, rfl⟩ := hv
  obtain ⟨b, o, hb, hlt, hc⟩ := hA (by have := (List.getElem?_eq_some_iff.1 hk).1; omega)
  exact ⟨b, o, hb, hlt, hc k x hk⟩
set_option maxHeartbeats 1000000 in
theorem rlow_k (n : Int) (r : Bool) (hr : St.low n = r) (w : World) : Calls Try.prog 67 #[.int .i64 n] w fun e w' => e = .returned (.bool r) ∧ w' = w := by
  subst hr
  unfold St.low
  have h63 : Hid ((2305843009213693952 : Int) = 2305843009213693952) := Lib.hid rfl
  by_cases h0 : 0 ≤ n
  · by_cases h1 : n < 2305843009213693952
    · rw [decide_eq_true (show 0 ≤ n ∧ n < 2305843009213693952 from ⟨h0, h1⟩)]
      go_enter Try.func67, Try.ntmps67
      go_wp2
      go_ret
      exact ⟨rfl, rfl⟩
    · rw [decide_eq_false (fun h => h1 h.2)]
      have h1' : decide (n < 2305843009213693952) = false := by simpa using h1
      go_enter Try.func67, Try.ntmps67
      go_wp2
      go_ret
      exact ⟨rfl, rfl⟩
  · rw [decide_eq_false (fun h => h0 h.1)]
    have h0' : n < 0 := by omega
    go_enter Try.func67, Try.ntmps67
    go_wp2
    go_ret
    exact ⟨rfl, rfl⟩
theorem times_snoc (l : List Int) (x n : Int) : St.times (l ++ [x]) n = St.times l n + if x = n then 1 else 0 := by
  unfold St.times
  rw [List.count_append]
  congr 1
  by_cases h : x = n <;> simp [h]
theorem times_le (l : List Int) (n : Int) : St.times l n ≤ l.length := List.count_le_length
set_option maxRecDepth 100000 in
set_option maxHeartbeats 1000000 in
theorem rtimes_any (v : Value) (l : List Int) (n : Int) (w : World) (h : IntsAt w v l) (hl : l.length ≤ 100000000) : Calls Try.prog 96 #[v, .int .i64 n] w fun e w' => e = .returned (.int .i64 (St.times l n)) ∧ w' = w := by
  have H := Lib.hid h
  obtain ⟨A, c, rfl, -⟩ := h
  have hl' : (l.length : Int) ≤ 100000000 := by omega
  go_enter Try.func96, Try.ntmps96
  go_wp2
  go_loop [5, 6] (fun m i => ∃ k : Nat, k ≤ l.length ∧ i = .int .i64 k ∧ ∃ j : Nat, j = St.times (l.take k) n ∧ m = .int .i64 j) (fun _ i => l.length - (intOf i).toNat)
  case atStart => exact ⟨0, Nat.zero_le _, rfl, 0, rfl, rfl⟩
  case round =>
    obtain ⟨k, hk, rfl, j, hj, rfl⟩ := hrel
    have hjk : j ≤ k := by have := times_le (l.take k) n; rw [List.length_take] at this; omega
    have HJ := Lib.hid hj
    clear hj
    by_cases hlt : k < l.length
    · obtain ⟨x, hx⟩ : ∃ x, l[k]? = some x := ⟨_, List.getElem?_eq_getElem hlt⟩
      have HT : Hid (St.times (l.take (k + 1)) n = j + if x = n then 1 else 0) := Lib.hid (by
        rw [List.take_succ_eq_append_getElem hlt, times_snoc, ← HJ.out, (List.getElem?_eq_some_iff.1 hx).2])
      obtain ⟨b, o, rfl, hb, hc⟩ := ints_get H.out hx
      clear hx hb
      by_cases he : x = n
      · have HT2 : Hid (St.times (l.take (k + 1)) n = j + 1) := Lib.hid (by rw [HT.out, if_pos he])
        have heb : (x == n) = true := by simpa using he
        clear he
        go_wp2
        go_round
        case rel => exact ⟨k + 1, by omega, by go_num, j + 1, HT2.out.symm, by go_num⟩
        case measure => simp [intOf]; omega
      · have HT2 : Hid (St.times (l.take (k + 1)) n = j) := Lib.hid (by rw [HT.out, if_neg he]; rfl)
        have heb : (x == n) = false := by simpa using he
        clear he
        go_wp2
        go_round
        case rel => exact ⟨k + 1, by omega, by go_num, j, HT2.out.symm, rfl⟩
        case measure => simp [intOf]; omega
    · obtain rfl : k = l.length := by omega
      have hj := HJ.out
      rw [List.take_length] at hj
      subst hj
      go_wp2
      go_ret
      exact ⟨rfl, rfl⟩
set_option maxRecDepth 100000 in
set_option maxHeartbeats 1000000 in
theorem rwithin_any (v : Value) (l : List Int) (n : Int) (r : Bool) (hr : St.within l n = r) (w : World) (h : IntsAt w v l) (hl : l.length ≤ 100000000) : Calls Try.prog 71 #[v, .int .i64 n] w fun e w' => e = .returned (.bool r) ∧ w' = w := by
  subst hr
  have H := Lib.hid h
  obtain ⟨A, c, rfl, -⟩ := h
  have hl' : (l.length : Int) ≤ 100000000 := by omega
  go_enter Try.func71, Try.ntmps71
  go_wp2
  go_loop [5] (fun i => ∃ k : Nat, k ≤ l.length ∧ i = .int .i64 k ∧ ∀ (j : Nat) x, l[j]? = some x → j < k → 1 ≤ x ∧ x ≤ n) (fun i => l.length - (intOf i).toNat)
  case atStart => exact ⟨0, Nat.zero_le _, rfl, fun j x _ h => by omega⟩
  case round =>
    obtain ⟨k, hk, rfl, hall⟩ := hrel
    have HA := Lib.hid hall
    clear hall
    by_cases hlt : k < l.length
    · obtain ⟨x, hx⟩ : ∃ x, l[k]? = some x := ⟨_, List.getElem?_eq_getElem hlt⟩
      have HX := Lib.hid hx
      obtain ⟨b, o, rfl, hb, hc⟩ := ints_get H.out hx
      clear hx hb
      by_cases h1 : x < 1
      · have HN : Hid (St.within l n = false) := Lib.hid (all_no HX.out (by simp; omega))
        go_wp2
        go_ret
        rw [HN.out]
        exact ⟨rfl, rfl⟩
      · have h1' : 1 ≤ x := by omega
        clear h1
        by_cases h2 : n < x
        · have HN : Hid (St.within l n = false) := Lib.hid (all_no HX.out (by simp; omega))
          go_wp2
          go_ret
          rw [HN.out]
          exact ⟨rfl, rfl⟩
        · have h2' : x ≤ n := by omega
          clear h2
          go_wp2
          go_round
          case rel =>
            refine ⟨k + 1, by omega, by go_num, fun j y hy hj => ?_⟩
            by_cases hjk : j < k
            · exact HA.out j y hy hjk
            · obtain rfl : j = k := by omega
              have := HX.out
              rw [hy] at this
              injection this with this
              omega
          case measure => simp [intOf]; omega
    · obtain rfl : k = l.length := by omega
      have HY : Hid (St.within l n = true) := Lib.hid (all_yes fun j x hj => by
        have := HA.out j x hj (List.getElem?_eq_some_iff.1 hj).1
        simpa using this)
      go_wp2
      go_ret
      rw [HY.out]
      exact ⟨rfl, rfl⟩
theorem Ri.list_len (r : Ri) : r.list.length ≤ 8 := by
  unfold Ri.list
  split
  · rename_i h
    have hi : r.inside = true := by unfold Ri.may at h; rw [Bool.and_eq_true] at h; exact h.1
    have := (Ri.inside_iff r).1 hi
    simp; omega
  · simp
theorem queueOf_len (p : Pr) : (St.queueOf p).length ≤ 9 := by
  unfold St.queueOf
  have := Ri.list_len p.ring
  rw [List.length_append]
  split <;> simp <;> omega
def IntsP (l : List Int) (w : World) (e : Ending) (w' : World) : Prop := ∃ A c, e = .returned (.slice A l.length c) ∧ OwnInts w' w.heap.size (.slice A l.length c) l ∧ Ext w w'
theorem IntsP.mk' {l : List Int} {w w' : World} {B n c : Nat} {A : Option Addr} (h : OwnInts w' B (.slice A n c) l) (hB : w.heap.size ≤ B) (hx : Ext w w') : IntsP l w (.returned (.slice A n c)) w' := by
  obtain ⟨rfl, _⟩ := h.at
  exact ⟨A, c, rfl, OwnInts.lower h hB, hx⟩
theorem cells13 {v : World} {x : Nat} {c0 c1 c2 c3 c4 c5 c6 c7 c8 c9 c10 c11 c12 : Value} {t : TypeId} (h : v.heap[x]? = some (.cells #[c0, c1, c2, c3, c4, c5, c6, c7, c8, c9, c10, c11, c12] t (0, 0))) :
    (v.cell? ⟨x, 0, none⟩ = some c0 ∧ v.cell? ⟨x, 1, none⟩ = some c1 ∧ v.cell? ⟨x, 2, none⟩ = some c2 ∧ v.cell? ⟨x, 3, none⟩ = some c3 ∧ v.cell? ⟨x, 4, none⟩ = some c4 ∧ v.cell? ⟨x, 5, none⟩ = some c5 ∧ v.cell? ⟨x, 6, none⟩ = some c6) ∧ v.cell? ⟨x, 7, none⟩ = some c7 ∧ v.cell? ⟨x, 8, none⟩ = some c8 ∧ v.cell? ⟨x, 9, none⟩ = some c9 ∧ v.cell? ⟨x, 10, none⟩ = some c10 ∧ v.cell? ⟨x, 11, none⟩ = some c11 ∧ v.cell? ⟨x, 12, none⟩ = some c12 :=
  ⟨⟨blk_cell h 0 _ rfl, blk_cell h 1 _ rfl, blk_cell h 2 _ rfl, blk_cell h 3 _ rfl, blk_cell h 4 _ rfl, blk_cell h 5 _ rfl, blk_cell h 6 _ rfl⟩, blk_cell h 7 _ rfl, blk_cell h 8 _ rfl, blk_cell h 9 _ rfl, blk_cell h 10 _ rfl, blk_cell h 11 _ rfl, blk_cell h 12 _ rfl⟩
set_option maxRecDepth 100000 in
set_option maxHeartbeats 2000000 in
theorem rqueueOf_any (m nx b0 b1 b2 b3 b4 b5 b6 b7 hd nn sq : Int) (w : World) : Calls Try.prog 95 #[.agg #[.int .i64 m, .int .i64 nx, .int .i64 b0, .int .i64 b1, .int .i64 b2, .int .i64 b3, .int .i64 b4, .int .i64 b5, .int .i64 b6, .int .i64 b7, .int .i64 hd, .int .i64 nn, .int .i64 sq]] w (IntsP (St.queueOf ⟨m, nx, ⟨[b0, b1, b2, b3, b4, b5, b6, b7], hd, nn⟩, sq⟩) w) := by
  obtain ⟨w1, hw1⟩ : ∃ w1, w.alloc (.cells #[.int .i64 m, .int .i64 nx, .int .i64 b0, .int .i64 b1, .int .i64 b2, .int .i64 b3, .int .i64 b4, .int .i64 b5, .int .i64 b6, .int .i64 b7, .int .i64 hd, .int .i64 nn, .int .i64 sq] 77) = w1 := ⟨_, rfl⟩
  obtain ⟨w2, hw2⟩ : ∃ w2, w1.alloc (.cells #[] 3) = w2 := ⟨_, rfl⟩
  have HX1 : Hid (Ext w w1) := Lib.hid (by rw [← hw1]; exact (Ext.refl w).alloc _)
  have HB1 : Hid (w1.heap[w.heap.size]? = some (.cells #[.int .i64 m, .int .i64 nx, .int .i64 b0, .int .i64 b1, .int .i64 b2, .int .i64 b3, .int .i64 b4, .int .i64 b5, .int .i64 b6, .int .i64 b7, .int .i64 hd, .int .i64 nn, .int .i64 sq] 77 (0, 0))) := Lib.hid (by rw [← hw1]; exact blk_new w _)
  have HX2 : Hid (Ext w1 w2) := Lib.hid (by rw [← hw2]; exact (Ext.refl w1).alloc _)
  have HO2 : Hid (OwnInts w2 w1.heap.size (.slice (some ⟨w1.heap.size, 0, none⟩) 0 0) []) := Lib.hid (by rw [← hw2]; exact ints_made w1)
  have HW1 := Lib.hid hw1
  have HW2 := Lib.hid hw2
  obtain ⟨l, hl⟩ : ∃ l, Ri.list ⟨[b0, b1, b2, b3, b4, b5, b6, b7], hd, nn⟩ = l := ⟨_, rfl⟩
  have HL := Lib.hid hl
  have hl8 : l.length ≤ 8 := by rw [← hl]; exact Ri.list_len _
  clear hw1 hw2 hl
  by_cases h0 : nx = 0
  · subst h0
    have HQ : Hid (St.queueOf ⟨m, 0, ⟨[b0, b1, b2, b3, b4, b5, b6, b7], hd, nn⟩, sq⟩ = l) := Lib.hid (by unfold St.queueOf; simp only [HL.out]; simp)
    obtain ⟨⟨p0, p1, p2, p3, p4, p5, p6⟩, p7, p8, p9, p10, p11, p12⟩ := cells13 (HX2.out.blk HB1.out)
    go_enter Try.func95, Try.ntmps95
    go_wp2_with (first | rw [HW1.out] | rw [HW2.out])
    refine (rrlist_k b0 b1 b2 b3 b4 b5 b6 b7 hd nn l HL.out _).mono ?_
    rintro e w3 ⟨v3, rfl, ho3, hx3⟩
    obtain ⟨A3, c3, rfl⟩ := ho3.form
    obtain ⟨A, c, w4, hr, ho, hx, hz⟩ := ints_more (HO2.out.ext hx3) rfl rfl ho3.at.2 (Nat.le_refl _) (by have := HX2.out.size; have := hx3.size; omega) (HX2.out.trans hx3) (by simp; omega)
    have HR := Lib.hid hr
    have HE : Hid (IntsP l w (.returned (.slice A (0 + l.length) c)) w4) := Lib.hid (IntsP.mk' (by simpa using ho) HX1.out.size (HX1.out.trans hx))
    simp only [List.length_nil, Nat.zero_add] at HR HE
    clear hr ho hx hz ho3 hx3
    clear p0 p1 p2 p3 p4 p5 p6 p7 p8 p9 p10 p11 p12
    go_wp2_with (at_builtin; refine wpList_append_run rfl _ _ 42 rfl _ _ rfl rfl HR.out ?_)
    go_ret
    rw [HQ.out]
    exact HE.out
  · have HQ : Hid (St.queueOf ⟨m, nx, ⟨[b0, b1, b2, b3, b4, b5, b6, b7], hd, nn⟩, sq⟩ = [nx] ++ l) := Lib.hid (by unfold St.queueOf; simp only [HL.out]; rw [if_pos h0])
    have hne : (nx != 0) = true := by simpa using h0
    clear h0
    obtain ⟨A3, c3, w3, hr3, ho3, hx3, hz3⟩ := ints_push (W := w1) HO2.out rfl (Nat.le_refl _) HX2.out.size HX2.out nx (by simp)
    obtain ⟨w2', hw2'⟩ : ∃ w2', w2.alloc (.cells #[.int .i64 nx] 3) = w2' := ⟨_, rfl⟩
    rw [hw2'] at hr3
    have HW3 := Lib.hid hw2'
    have HR3 := Lib.hid hr3
    have HO3 := Lib.hid ho3
    have HX3 := Lib.hid hx3
    simp only [List.length_nil, Nat.zero_add, List.nil_append] at HR3 HO3
    have q1 := blk_cell (HX2.out.blk HB1.out) 1 _ rfl
    obtain ⟨⟨p0, p1, p2, p3, p4, p5, p6⟩, p7, p8, p9, p10, p11, p12⟩ := cells13 (HX3.out.blk HB1.out)
    clear hr3 ho3 hx3 hz3 hw2'
    go_enter Try.func95, Try.ntmps95
    go_wp2_with (first | rw [HW1.out] | rw [HW2.out] | rw [HW3.out] | (at_builtin; refine wpList_append_run rfl _ _ 42 rfl _ _ rfl rfl HR3.out ?_))
    refine (rrlist_k b0 b1 b2 b3 b4 b5 b6 b7 hd nn l HL.out _).mono ?_
    rintro e w4 ⟨v4, rfl, ho4, hx4⟩
    obtain ⟨A4, c4, rfl⟩ := ho4.form
    obtain ⟨A, c, w5, hr, ho, hx, hz⟩ := ints_more (HO3.out.ext hx4) rfl rfl ho4.at.2 (Nat.le_refl _) (by have := HX3.out.size; have := hx4.size; omega) (HX3.out.trans hx4) (by simp; omega)
    have HR := Lib.hid hr
    have HE : Hid (IntsP ([nx] ++ l) w (.returned (.slice A (1 + l.length) c)) w5) := Lib.hid (IntsP.mk' ho HX1.out.size (HX1.out.trans hx))
    simp only [List.length_singleton] at HR
    clear hr ho hx hz ho4 hx4
    clear p0 p1 p2 p3 p4 p5 p6 p7 p8 p9 p10 p11 p12
    go_wp2_with (at_builtin; refine wpList_append_run rfl _ _ 42 rfl _ _ rfl rfl HR.out ?_)
    go_ret
    rw [HQ.out]
    exact HE.out
theorem flatMap_next {α β : Type} (f : α → List β) {l : List α} {k : Nat} {x : α} (h : l[k]? = some x) : (l.take (k + 1)).flatMap f = (l.take k).flatMap f ++ f x := by
  obtain ⟨h1, h2⟩ := List.getElem?_eq_some_iff.1 h
  rw [List.take_succ_eq_append_getElem h1, List.flatMap_append, h2]
  simp
theorem flatMap_len9 (l : List Pr) : (l.flatMap St.queueOf).length ≤ l.length * 9 := by
  induction l with
  | nil => simp
  | cons p l ih =>
    rw [List.flatMap_cons, List.length_append, List.length_cons]
    have := queueOf_len p
    omega
set_option maxRecDepth 100000 in
set_option maxHeartbeats 2000000 in
theorem rruns_any (h : StH) (s : St) (w : World) (hk : StOk w h s) (hf : StFew s) : Calls Try.prog 72 #[stV h s] w (IntsP s.runs w) := by
  have f1 := hf.ps
  have f2 := hf.glob
  have HK := Lib.hid hk
  obtain ⟨w1, hw1⟩ : ∃ w1, w.alloc (.cells #[.slice h.pa s.prog.length h.pc, .slice h.ga s.gs.length h.gc, .slice h.qa s.ps.length h.qc, .slice h.ma s.ms.length h.mc, .slice h.la s.glob.length h.lc, .int .i64 s.c0, .int .i64 s.c1, .int .i64 s.c2, .int .i64 s.c3, .slice h.a0 s.w0.length h.k0, .slice h.a1 s.w1.length h.k1, .slice h.a2 s.w2.length h.k2, .slice h.a3 s.w3.length h.k3, .slice h.ta s.timers.length h.tc, .int .i64 s.clock, .int .i64 s.procs] 47) = w1 := ⟨_, rfl⟩
  have HX1 : Hid (Ext w w1) := Lib.hid (by rw [← hw1]; exact (Ext.refl w).alloc _)
  have HB1 : Hid (w1.heap[w.heap.size]? = some (.cells (stC h s) 47 (0, 0))) := Lib.hid (by rw [← hw1]; exact blk_new w _)
  have HK1 := Lib.hid (hk.ext HX1.out)
  have HW1 := Lib.hid hw1
  clear hw1 hk
  obtain ⟨w2, hw2⟩ : ∃ w2, w1.alloc (.cells #[] 3) = w2 := ⟨_, rfl⟩
  have HX2 : Hid (Ext w1 w2) := Lib.hid (by rw [← hw2]; exact (Ext.refl w1).alloc _)
  have HO2 : Hid (OwnInts w2 w1.heap.size (.slice (some ⟨w1.heap.size, 0, none⟩) 0 0) []) := Lib.hid (by rw [← hw2]; exact ints_made w1)
  have HW2 := Lib.hid hw2
  clear hw2 hf
  unfold stV
  go_enter Try.func72, Try.ntmps72
  go_upto_region 1 with fail
  rw [HW1.out]
  generalize Value.agg #[.slice h.pa s.prog.length h.pc, .slice h.ga s.gs.length h.gc, .slice h.qa s.ps.length h.qc, .slice h.ma s.ms.length h.mc, .slice h.la s.glob.length h.lc, .int .i64 s.c0, .int .i64 s.c1, .int .i64 s.c2, .int .i64 s.c3, .slice h.a0 s.w0.length h.k0, .slice h.a1 s.w1.length h.k1, .slice h.a2 s.w2.length h.k2, .slice h.a3 s.w3.length h.k3, .slice h.ta s.timers.length h.tc, .int .i64 s.clock, .int .i64 s.procs] = sv0
  go_wp2_with (rw [HW2.out])
  go_loopw [3, 4] (fun ov iv wr => ∃ k : Nat, k ≤ s.ps.length ∧ iv = .int .i64 k ∧ ∃ A n c, ov = .slice A n c ∧ OwnInts wr w1.heap.size (.slice A n c) ((s.ps.take k).flatMap St.queueOf) ∧ Ext w1 wr) (fun _ iv _ => s.ps.length - (intOf iv).toNat)
  case atStart => exact ⟨0, by omega, rfl, _, _, _, rfl, HO2.out, HX2.out⟩
  case round =>
    obtain ⟨k, hk, rfl, A, n, c, rfl, ho, hx⟩ := hrel
    have HO := Lib.hid ho
    have HX := Lib.hid hx
    have hl9 := flatMap_len9 (s.ps.take k)
    rw [List.length_take] at hl9
    have HL9 : Hid (((s.ps.take k).flatMap St.queueOf).length ≤ 900000) := Lib.hid (by omega)
    have q2 := st2 (hx.blk HB1.out)
    clear ho hx hl9
    by_cases hlt : k < s.ps.length
    · obtain ⟨p, hp⟩ : ∃ p, s.ps[k]? = some p := ⟨_, List.getElem?_eq_getElem hlt⟩
      obtain ⟨m, nx, r, sq⟩ := p
      obtain ⟨b0, b1, b2, b3, b4, b5, b6, b7, hd, nn, rfl⟩ := Ri.open8 (HK.out.buf _ (List.mem_of_getElem? hp))
      have HF := Lib.hid (flatMap_next St.queueOf hp)
      obtain ⟨b, o, hA, hb, hc⟩ := ps_get (HK1.out.ext HX.out).ps hp
      obtain ⟨⟨p0, p1, p2, p3, p4, p5, p6⟩, p7, p8, p9, p10, p11, p12⟩ := hc
      have hl9q := queueOf_len ⟨m, nx, ⟨[b0, b1, b2, b3, b4, b5, b6, b7], hd, nn⟩, sq⟩
      have HQ9 := Lib.hid hl9q
      clear hp hb hl9q
      go_wp2_with fail
      refine (rqueueOf_any m nx b0 b1 b2 b3 b4 b5 b6 b7 hd nn sq wr).mono ?_
      rintro e w3 ⟨A3, c3, rfl, ho3, hx3⟩
      obtain ⟨A5, c5, w5, hr, ho, hx, hz⟩ := ints_more (HO.out.ext hx3) HO.out.at.1 rfl ho3.at.2 (Nat.le_refl _) (by have := HX.out.size; have := hx3.size; omega) (HX.out.trans hx3) (by have := HL9.out; have := HQ9.out; omega)
      rw [← HF.out] at ho
      have HR := Lib.hid hr
      have HE := Lib.hid ho
      have HX5 := Lib.hid hx
      clear hr ho hx hz ho3 hx3
      clear p0 p1 p2 p3 p4 p5 p6 p7 p8 p9 p10 p11 p12
      go_wp2_with (at_builtin; refine wpList_append_run rfl _ _ 42 rfl _ _ rfl rfl HR.out ?_)
      go_roundw
      case rel => exact ⟨k + 1, by omega, by go_num, A5, _, c5, by simp, HE.out, HX5.out⟩
      case measure => simp [intOf]; omega
    · obtain rfl : k = s.ps.length := by omega
      rw [List.take_length] at HO HL9
      have q4 := st4 (HX.out.blk HB1.out)
      obtain ⟨A5, c5, w5, hr, ho, hx, hz⟩ := ints_more HO.out HO.out.at.1 rfl (HK1.out.ext HX.out).glob (Nat.le_refl _) HX.out.size HX.out (by have := HL9.out; omega)
      have HR := Lib.hid hr
      have HE : Hid (IntsP s.runs w (.returned (.slice A5 (n + s.glob.length) c5)) w5) := Lib.hid (IntsP.mk' ho HX1.out.size (HX1.out.trans hx))
      clear hr ho hx hz
      go_wp2_with (at_builtin; refine wpList_append_run rfl _ _ 42 rfl _ _ rfl rfl HR.out ?_)
      go_ret
      exact HE.out
theorem flatten_next {α : Type} {l : List (List α)} {k : Nat} {x : List α} (h : l[k]? = some x) : (l.take (k + 1)).flatten = (l.take k).flatten ++ x := by
  obtain ⟨h1, h2⟩ := List.getElem?_eq_some_iff.1 h
  rw [List.take_succ_eq_append_getElem h1, List.flatten_append, h2]
  simp
theorem flatten_few {l : List (List Int)} (h : ∀ x ∈ l, x.length ≤ 100000) : l.flatten.length ≤ l.length * 100000 := by
  induction l with
  | nil => simp
  | cons x l ih =>
    rw [List.flatten_cons, List.length_append, List.length_cons]
    have h1 := h x (by simp)
    have h2 := ih fun y hy => h y (by simp [hy])
    omega
theorem St.wts_flatten (s : St) : s.wts.flatten = s.waits := by simp [St.wts, St.waits]
set_option maxRecDepth 100000 in
set_option maxHeartbeats 2000000 in
theorem rwaiters_any (h : StH) (s : St) (w : World) (hk : StOk w h s) (hf : StFew s) : Calls Try.prog 73 #[stV h s] w (IntsP s.waiters w) := by
  have f1 := hf.timers
  have F2 := Lib.hid hf.w
  have HFL : Hid (∀ k, ((s.wts.take k).flatten).length ≤ 400000) := Lib.hid fun k => by
    have := flatten_few (l := s.wts.take k) fun x hx => by
      obtain ⟨j, hj⟩ := List.mem_iff_getElem?.1 (List.mem_of_mem_take hx)
      exact wts_few hf.w hj
    have h4 : (s.wts.take k).length ≤ 4 := by rw [List.length_take]; simp [St.wts]; omega
    omega
  have HK := Lib.hid hk
  obtain ⟨w1, hw1⟩ : ∃ w1, w.alloc (.cells #[.slice h.pa s.prog.length h.pc, .slice h.ga s.gs.length h.gc, .slice h.qa s.ps.length h.qc, .slice h.ma s.ms.length h.mc, .slice h.la s.glob.length h.lc, .int .i64 s.c0, .int .i64 s.c1, .int .i64 s.c2, .int .i64 s.c3, .slice h.a0 s.w0.length h.k0, .slice h.a1 s.w1.length h.k1, .slice h.a2 s.w2.length h.k2, .slice h.a3 s.w3.length h.k3, .slice h.ta s.timers.length h.tc, .int .i64 s.clock, .int .i64 s.procs] 47) = w1 := ⟨_, rfl⟩
  have HX1 : Hid (Ext w w1) := Lib.hid (by rw [← hw1]; exact (Ext.refl w).alloc _)
  have HB1 : Hid (w1.heap[w.heap.size]? = some (.cells (stC h s) 47 (0, 0))) := Lib.hid (by rw [← hw1]; exact blk_new w _)
  have HK1 := Lib.hid (hk.ext HX1.out)
  have HW1 := Lib.hid hw1
  clear hw1 hk
  obtain ⟨w2, hw2⟩ : ∃ w2, w1.alloc (.cells #[] 3) = w2 := ⟨_, rfl⟩
  have HX2 : Hid (Ext w1 w2) := Lib.hid (by rw [← hw2]; exact (Ext.refl w1).alloc _)
  have HO2 : Hid (OwnInts w2 w1.heap.size (.slice (some ⟨w1.heap.size, 0, none⟩) 0 0) []) := Lib.hid (by rw [← hw2]; exact ints_made w1)
  have HW2 := Lib.hid hw2
  clear hw2 hf
  unfold stV
  go_enter Try.func73, Try.ntmps73
  go_upto_region 1 with fail
  rw [HW1.out]
  generalize Value.agg #[.slice h.pa s.prog.length h.pc, .slice h.ga s.gs.length h.gc, .slice h.qa s.ps.length h.qc, .slice h.ma s.ms.length h.mc, .slice h.la s.glob.length h.lc, .int .i64 s.c0, .int .i64 s.c1, .int .i64 s.c2, .int .i64 s.c3, .slice h.a0 s.w0.length h.k0, .slice h.a1 s.w1.length h.k1, .slice h.a2 s.w2.length h.k2, .slice h.a3 s.w3.length h.k3, .slice h.ta s.timers.length h.tc, .int .i64 s.clock, .int .i64 s.procs] = sv0
  go_wp2_with (rw [HW2.out])
  go_loopw [3, 4] (fun ov iv wr => ∃ k : Nat, k ≤ 4 ∧ iv = .int .i64 k ∧ ∃ A n c, ov = .slice A n c ∧ OwnInts wr w1.heap.size (.slice A n c) ((s.wts.take k).flatten) ∧ Ext w1 wr) (fun _ iv _ => 4 - (intOf iv).toNat)
  case atStart => exact ⟨0, by omega, rfl, _, _, _, rfl, HO2.out, HX2.out⟩
  case round =>
    obtain ⟨k, hk, rfl, A, n, c, rfl, ho, hx⟩ := hrel
    have HO := Lib.hid ho
    have HX := Lib.hid hx
    clear ho hx
    by_cases hlt : k < 4
    · obtain ⟨A0, c0, l, hcell, hI, hl⟩ := HK1.out.wait hlt
      have q9 := blk_cell (HX.out.blk HB1.out) (9 + k) _ hcell
      have HF := Lib.hid (flatten_next hl)
      have HL := Lib.hid (wts_few F2.out hl)
      obtain ⟨A5, c5, w5, hr, ho, hx, hz⟩ := ints_more HO.out HO.out.at.1 rfl (hI.ext HX.out) (Nat.le_refl _) HX.out.size HX.out (by have := HFL.out k; have := HL.out; omega)
      rw [← HF.out] at ho
      have HR := Lib.hid hr
      have HE := Lib.hid ho
      have HX5 := Lib.hid hx
      clear hr ho hx hz hI hl hcell
      go_wp2_with (at_builtin; refine wpList_append_run rfl _ _ 42 rfl _ _ rfl rfl HR.out ?_)
      go_roundw
      case rel => exact ⟨k + 1, by omega, by go_num, A5, _, c5, by simp, HE.out, HX5.out⟩
      case measure => simp [intOf]; omega
    · have HW : Hid ((s.wts.take k).flatten = s.waits) := Lib.hid (by rw [List.take_of_length_le (by simp [St.wts]; omega), St.wts_flatten])
      have HWL : Hid (s.waits.length ≤ 400000) := Lib.hid (by rw [← HW.out]; exact HFL.out k)
      rw [HW.out] at HO
      obtain ⟨wo, rfl⟩ : ∃ wo, wo = wr := ⟨_, rfl⟩
      go_wp2_with fail
      go_loopw [3, 5] (fun ov iv wr => ∃ k : Nat, k ≤ s.timers.length ∧ iv = .int .i64 k ∧ ∃ A n c, ov = .slice A n c ∧ OwnInts wr w1.heap.size (.slice A n c) (s.waits ++ (s.timers.take k).map Prod.snd) ∧ Ext w1 wr) (fun _ iv _ => s.timers.length - (intOf iv).toNat)
      case atStart => exact ⟨0, by omega, rfl, _, _, _, rfl, by simpa using HO.out, HX.out⟩
      case round =>
        clear HO HX
        obtain ⟨k, hk, rfl, A, n, c, rfl, ho, hx⟩ := hrel
        have HO := Lib.hid ho
        have HX := Lib.hid hx
        have q13 := st13 (hx.blk HB1.out)
        clear ho hx
        by_cases hlt2 : k < s.timers.length
        · obtain ⟨t, ht⟩ : ∃ t, s.timers[k]? = some t := ⟨_, List.getElem?_eq_getElem hlt2⟩
          obtain ⟨b, o, hA, hb, -, c1⟩ := frs2_get (HK1.out.ext HX.out).timers.rows ht
          have HF : Hid ((s.timers.take (k + 1)).map Prod.snd = (s.timers.take k).map Prod.snd ++ [t.2]) := Lib.hid (by
            rw [List.take_succ_eq_append_getElem hlt2, List.map_append, (List.getElem?_eq_some_iff.1 ht).2]; rfl)
          have hlo := HO.out.at.1
          rw [List.length_append, List.length_map, List.length_take] at hlo
          obtain ⟨A5, c5, w5, hr, ho, hx, hz⟩ := ints_push (W := w1) HO.out HO.out.at.1 (Nat.le_refl _) HX.out.size HX.out t.2 (by rw [← HO.out.at.1]; have := HWL.out; omega)
          obtain ⟨w4, hw4⟩ : ∃ w4, wr.alloc (.cells #[.int .i64 t.2] 3) = w4 := ⟨_, rfl⟩
          rw [hw4] at hr
          rw [List.append_assoc, ← HF.out] at ho
          have HR := Lib.hid hr
          have HE := Lib.hid ho
          have HX5 := Lib.hid hx
          have HW4 := Lib.hid hw4
          clear hr ho hx hz hw4 ht hb hlo
          go_wp2_with (first | rw [HW4.out] | (at_builtin; refine wpList_append_run rfl _ _ 42 rfl _ _ rfl rfl HR.out ?_))
          go_roundw
          case rel => exact ⟨k + 1, by omega, by go_num, A5, _, c5, by simp, HE.out, HX5.out⟩
          case measure => simp [intOf]; omega
        · obtain rfl : k = s.timers.length := by omega
          rw [List.take_length] at HO
          have HE : Hid (IntsP s.waiters w (.returned (.slice A n c)) wr) := Lib.hid (IntsP.mk' HO.out HX1.out.size (HX1.out.trans HX.out))
          go_wp2
          go_ret
          exact HE.out
theorem onM_next {ms : List (Int × Int)} {k : Nat} {x : Int × Int} (b : Bool) (h : ms[k]? = some x) : (ms.take (k + 1)).filter (fun m => m.2 != 0 && ((m.1 != 0) == b)) = (ms.take k).filter (fun m => m.2 != 0 && ((m.1 != 0) == b)) ++ (if (x.2 != 0 && ((x.1 != 0) == b)) = true then [x] else []) := by
  obtain ⟨h1, h2⟩ := List.getElem?_eq_some_iff.1 h
  rw [List.take_succ_eq_append_getElem h1, List.filter_append, h2]
  congr 1
  simp only [List.filter_cons, List.filter_nil]
set_option maxRecDepth 100000 in
set_option maxHeartbeats 2000000 in
theorem ronM_any (h : StH) (s : St) (bw : Bool) (w : World) (hk : StOk w h s) (hf : StFew s) : Calls Try.prog 74 #[stV h s, .bool bw] w (IntsP (s.onM bw) w) := by
  have f1 := hf.ms
  have HK := Lib.hid hk
  obtain ⟨w1, hw1⟩ : ∃ w1, w.alloc (.cells #[.slice h.pa s.prog.length h.pc, .slice h.ga s.gs.length h.gc, .slice h.qa s.ps.length h.qc, .slice h.ma s.ms.length h.mc, .slice h.la s.glob.length h.lc, .int .i64 s.c0, .int .i64 s.c1, .int .i64 s.c2, .int .i64 s.c3, .slice h.a0 s.w0.length h.k0, .slice h.a1 s.w1.length h.k1, .slice h.a2 s.w2.length h.k2, .slice h.a3 s.w3.length h.k3, .slice h.ta s.timers.length h.tc, .int .i64 s.clock, .int .i64 s.procs] 47) = w1 := ⟨_, rfl⟩
  have HX1 : Hid (Ext w w1) := Lib.hid (by rw [← hw1]; exact (Ext.refl w).alloc _)
  have HB1 : Hid (w1.heap[w.heap.size]? = some (.cells (stC h s) 47 (0, 0))) := Lib.hid (by rw [← hw1]; exact blk_new w _)
  have HK1 := Lib.hid (hk.ext HX1.out)
  have HW1 := Lib.hid hw1
  clear hw1 hk
  obtain ⟨w2, hw2⟩ : ∃ w2, w1.alloc (.cells #[] 3) = w2 := ⟨_, rfl⟩
  have HX2 : Hid (Ext w1 w2) := Lib.hid (by rw [← hw2]; exact (Ext.refl w1).alloc _)
  have HO2 : Hid (OwnInts w2 w1.heap.size (.slice (some ⟨w1.heap.size, 0, none⟩) 0 0) []) := Lib.hid (by rw [← hw2]; exact ints_made w1)
  have HW2 := Lib.hid hw2
  clear hw2 hf
  unfold stV
  go_enter Try.func74, Try.ntmps74
  go_upto_region 1 with fail
  rw [HW1.out]
  generalize Value.agg #[.slice h.pa s.prog.length h.pc, .slice h.ga s.gs.length h.gc, .slice h.qa s.ps.length h.qc, .slice h.ma s.ms.length h.mc, .slice h.la s.glob.length h.lc, .int .i64 s.c0, .int .i64 s.c1, .int .i64 s.c2, .int .i64 s.c3, .slice h.a0 s.w0.length h.k0, .slice h.a1 s.w1.length h.k1, .slice h.a2 s.w2.length h.k2, .slice h.a3 s.w3.length h.k3, .slice h.ta s.timers.length h.tc, .int .i64 s.clock, .int .i64 s.procs] = sv0
  go_wp2_with (rw [HW2.out])
  go_loopw [5, 6] (fun ov iv wr => ∃ k : Nat, k ≤ s.ms.length ∧ iv = .int .i64 k ∧ ∃ A n c, ov = .slice A n c ∧ OwnInts wr w1.heap.size (.slice A n c) (((s.ms.take k).filter fun m => m.2 != 0 && ((m.1 != 0) == bw)).map Prod.snd) ∧ Ext w1 wr) (fun _ iv _ => s.ms.length - (intOf iv).toNat)
  case atStart => exact ⟨0, by omega, rfl, _, _, _, rfl, HO2.out, HX2.out⟩
  case round =>
    obtain ⟨k, hk, rfl, A, n, c, rfl, ho, hx⟩ := hrel
    have HO := Lib.hid ho
    have HX := Lib.hid hx
    have q3 := st3 (hx.blk HB1.out)
    clear ho hx
    by_cases hlt : k < s.ms.length
    · obtain ⟨x, hx⟩ : ∃ x, s.ms[k]? = some x := ⟨_, List.getElem?_eq_getElem hlt⟩
      obtain ⟨b, o, hA, hb, c0, c1⟩ := frs2_get (HK1.out.ext HX.out).ms hx
      have HF := Lib.hid (onM_next bw hx)
      obtain ⟨xp, xg⟩ := x
      simp only at HF c0 c1
      have HLE : Hid ((((s.ms.take k).filter fun m => m.2 != 0 && ((m.1 != 0) == bw)).map Prod.snd).length ≤ 100000) := Lib.hid (by
        rw [List.length_map]
        have := List.length_filter_le (fun m : Int × Int => m.2 != 0 && ((m.1 != 0) == bw)) (s.ms.take k)
        rw [List.length_take] at this
        omega)
      clear hx hb
      by_cases h0 : xg = 0
      · subst h0
        have HS : Hid (((s.ms.take (k + 1)).filter fun m => m.2 != 0 && ((m.1 != 0) == bw)).map Prod.snd = ((s.ms.take k).filter fun m => m.2 != 0 && ((m.1 != 0) == bw)).map Prod.snd) := Lib.hid (by rw [HF.out]; simp)
        go_wp2
        go_roundw
        case rel => exact ⟨k + 1, by omega, by go_num, A, n, c, by simp, by rw [HS.out]; exact HO.out, HX.out⟩
        case measure => simp [intOf]; omega
      · have h0' : (xg != 0) = true := by simpa using h0
        obtain ⟨bb, hbb⟩ : ∃ bb, (xp != 0) = bb := ⟨_, rfl⟩
        obtain ⟨bc, hbc⟩ : ∃ bc, (bb == bw) = bc := ⟨_, rfl⟩
        rw [h0', hbb, hbc, Bool.true_and] at HF
        clear h0
        cases bc with
        | false =>
          have HS : Hid (((s.ms.take (k + 1)).filter fun m => m.2 != 0 && ((m.1 != 0) == bw)).map Prod.snd = ((s.ms.take k).filter fun m => m.2 != 0 && ((m.1 != 0) == bw)).map Prod.snd) := Lib.hid (by rw [HF.out]; simp)
          go_wp2
          go_roundw
          case rel => exact ⟨k + 1, by omega, by go_num, A, n, c, by simp, by rw [HS.out]; exact HO.out, HX.out⟩
          case measure => simp [intOf]; omega
        | true =>
          have HS : Hid (((s.ms.take (k + 1)).filter fun m => m.2 != 0 && ((m.1 != 0) == bw)).map Prod.snd = ((s.ms.take k).filter fun m => m.2 != 0 && ((m.1 != 0) == bw)).map Prod.snd ++ [xg]) := Lib.hid (by rw [HF.out]; simp)
          obtain ⟨A5, c5, w5, hr, ho, hx, hz⟩ := ints_push (W := w1) HO.out HO.out.at.1 (Nat.le_refl _) HX.out.size HX.out xg (by have := HLE.out; omega)
          obtain ⟨w4, hw4⟩ : ∃ w4, wr.alloc (.cells #[.int .i64 xg] 3) = w4 := ⟨_, rfl⟩
          rw [hw4] at hr
          rw [← HS.out] at ho
          have HR := Lib.hid hr
          have HE := Lib.hid ho
          have HX5 := Lib.hid hx
          have HW4 := Lib.hid hw4
          clear hr ho hx hz hw4
          go_wp2_with (first | rw [HW4.out] | (at_builtin; refine wpList_append_run rfl _ _ 42 rfl _ _ rfl rfl HR.out ?_))
          go_roundw
          case rel => exact ⟨k + 1, by omega, by go_num, A5, _, c5, by simp, HE.out, HX5.out⟩
          case measure => simp [intOf]; omega
    · obtain rfl : k = s.ms.length := by omega
      rw [List.take_length] at HO
      have HE : Hid (IntsP (s.onM bw) w (.returned (.slice A n c)) wr) := Lib.hid (IntsP.mk' HO.out HX1.out.size (HX1.out.trans HX.out))
      go_wp2
      go_ret
      exact HE.out
theorem ints_made1 (w : World) (x : Int) : OwnInts (w.alloc (.cells #[.int .i64 x] 3)) w.heap.size (.slice (some ⟨w.heap.size, 0, none⟩) 1 1) [x] :=
  ⟨by simp [intsV], .inr ⟨w.heap.size, 1, #[.int .i64 x], rfl, Nat.le_refl _, blk_new w _, Nat.le_refl _, by decide, rfl, rfl⟩⟩
theorem IntsAt.form {w : World} {v : Value} {l : List Int} (h : IntsAt w v l) : ∃ A c, v = .slice A l.length c := by
  obtain ⟨A, c, rfl, _⟩ := h
  exact ⟨A, c, rfl⟩
set_option maxRecDepth 100000 in
set_option maxHeartbeats 2000000 in
theorem squeue_any (m nx b0 b1 b2 b3 b4 b5 b6 b7 hd nn sq : Int) (w : World) : Calls Try.prog 104 #[.agg #[.int .i64 m, .int .i64 nx, .int .i64 b0, .int .i64 b1, .int .i64 b2, .int .i64 b3, .int .i64 b4, .int .i64 b5, .int .i64 b6, .int .i64 b7, .int .i64 hd, .int .i64 nn, .int .i64 sq]] w (IntsP (St.queueOf ⟨m, nx, ⟨[b0, b1, b2, b3, b4, b5, b6, b7], hd, nn⟩, sq⟩) w) := by
  obtain ⟨w1, hw1⟩ : ∃ w1, w.alloc (.cells #[.int .i64 m, .int .i64 nx, .int .i64 b0, .int .i64 b1, .int .i64 b2, .int .i64 b3, .int .i64 b4, .int .i64 b5, .int .i64 b6, .int .i64 b7, .int .i64 hd, .int .i64 nn, .int .i64 sq] 77) = w1 := ⟨_, rfl⟩
  have HX1 : Hid (Ext w w1) := Lib.hid (by rw [← hw1]; exact (Ext.refl w).alloc _)
  have HB1 : Hid (w1.heap[w.heap.size]? = some (.cells #[.int .i64 m, .int .i64 nx, .int .i64 b0, .int .i64 b1, .int .i64 b2, .int .i64 b3, .int .i64 b4, .int .i64 b5, .int .i64 b6, .int .i64 b7, .int .i64 hd, .int .i64 nn, .int .i64 sq] 77 (0, 0))) := Lib.hid (by rw [← hw1]; exact blk_new w _)
  have HW1 := Lib.hid hw1
  obtain ⟨l, hl⟩ : ∃ l, Ri.list ⟨[b0, b1, b2, b3, b4, b5, b6, b7], hd, nn⟩ = l := ⟨_, rfl⟩
  have HL := Lib.hid hl
  have hl8 : l.length ≤ 8 := by rw [← hl]; exact Ri.list_len _
  clear hw1 hl
  by_cases h0 : nx = 0
  · subst h0
    have HQ : Hid (St.queueOf ⟨m, 0, ⟨[b0, b1, b2, b3, b4, b5, b6, b7], hd, nn⟩, sq⟩ = l) := Lib.hid (by unfold St.queueOf; simp only [HL.out]; simp)
    obtain ⟨⟨p0, p1, p2, p3, p4, p5, p6⟩, p7, p8, p9, p10, p11, p12⟩ := cells13 HB1.out
    go_enter Try.func104, Try.ntmps104
    go_wp2_with (rw [HW1.out])
    refine (rlist_k b0 b1 b2 b3 b4 b5 b6 b7 hd nn l HL.out _).mono ?_
    rintro e w3 ⟨v3, rfl, hi3, hx3⟩
    obtain ⟨A3, c3, rfl⟩ := hi3.form
    obtain ⟨A, c, w4, hr, ho, hx, hz⟩ := ints_more (OwnInts.nil w3 w1.heap.size) rfl rfl hi3 (Nat.le_refl _) hx3.size hx3 (by simp; omega)
    have HR := Lib.hid hr
    have HE : Hid (IntsP l w (.returned (.slice A (0 + l.length) c)) w4) := Lib.hid (IntsP.mk' (by simpa using ho) HX1.out.size (HX1.out.trans hx))
    simp only [List.length_nil, Nat.zero_add] at HR HE
    clear hr ho hx hz hi3 hx3
    clear p0 p1 p2 p3 p4 p5 p6 p7 p8 p9 p10 p11 p12
    go_wp2_with (at_builtin; refine wpList_append_run rfl _ _ 42 rfl _ _ rfl rfl HR.out ?_)
    go_ret
    rw [HQ.out]
    exact HE.out
  · have HQ : Hid (St.queueOf ⟨m, nx, ⟨[b0, b1, b2, b3, b4, b5, b6, b7], hd, nn⟩, sq⟩ = [nx] ++ l) := Lib.hid (by unfold St.queueOf; simp only [HL.out]; rw [if_pos h0])
    have hne : (nx != 0) = true := by simpa using h0
    clear h0
    obtain ⟨w2, hw2⟩ : ∃ w2, w1.alloc (.cells #[.int .i64 nx] 3) = w2 := ⟨_, rfl⟩
    have HX2 : Hid (Ext w1 w2) := Lib.hid (by rw [← hw2]; exact (Ext.refl w1).alloc _)
    have HO2 : Hid (OwnInts w2 w1.heap.size (.slice (some ⟨w1.heap.size, 0, none⟩) 1 1) [nx]) := Lib.hid (by rw [← hw2]; exact ints_made1 w1 nx)
    have HW2 := Lib.hid hw2
    clear hw2
    have q1 := blk_cell HB1.out 1 _ rfl
    obtain ⟨⟨p0, p1, p2, p3, p4, p5, p6⟩, p7, p8, p9, p10, p11, p12⟩ := cells13 (HX2.out.blk HB1.out)
    go_enter Try.func104, Try.ntmps104
    go_wp2_with (first | rw [HW1.out] | rw [HW2.out])
    refine (rlist_k b0 b1 b2 b3 b4 b5 b6 b7 hd nn l HL.out _).mono ?_
    rintro e w3 ⟨v3, rfl, hi3, hx3⟩
    obtain ⟨A3, c3, rfl⟩ := hi3.form
    obtain ⟨A, c, w4, hr, ho, hx, hz⟩ := ints_more (HO2.out.ext hx3) rfl rfl hi3 (Nat.le_refl _) (Nat.le_trans HX2.out.size hx3.size) (HX2.out.trans hx3) (by simp; omega)
    have HR := Lib.hid hr
    have HE : Hid (IntsP ([nx] ++ l) w (.returned (.slice A (1 + l.length) c)) w4) := Lib.hid (IntsP.mk' ho HX1.out.size (HX1.out.trans hx))
    simp only [List.length_singleton] at HR
    clear hr ho hx hz hi3 hx3
    clear p0 p1 p2 p3 p4 p5 p6 p7 p8 p9 p10 p11 p12
    go_wp2_with (at_builtin; refine wpList_append_run rfl _ _ 42 rfl _ _ rfl rfl HR.out ?_)
    go_ret
    rw [HQ.out]
    exact HE.out
theorem Try.infoP : (Try.prog.info? 77).map (fun i => (i.zero, i.size, i.bytes)) = some (some (.agg #[.int .i64 0, .int .i64 0, .int .i64 0, .int .i64 0, .int .i64 0, .int .i64 0, .int .i64 0, .int .i64 0, .int .i64 0, .int .i64 0, .int .i64 0, .int .i64 0, .int .i64 0]), 13, 104) := by kernel_rfl
def numL (x : Int) : List Value := [.int .i64 x]
theorem setCells_mid {g : Nat} {T : TypeId} : ∀ (ds : List Value) (w : World) (cs : Array Value) (i : Nat), w.heap[g]? = some (.cells cs T (0, 0)) → i + ds.length ≤ cs.size → ∃ cs', (w.setCells g i ds).heap[g]? = some (.cells cs' T (0, 0)) ∧ cs'.size = cs.size ∧ ∀ j, cs'[j]? = if i ≤ j ∧ j < i + ds.length then ds[j - i]? else cs[j]?
  | [], w, cs, i, h, _ => ⟨cs, h, rfl, fun j => by rw [if_neg (by simp <;> omega)]⟩
  | d :: ds, w, cs, i, h, hl => by
    simp only [List.length_cons] at hl
    obtain ⟨cs', h1, h2, h3⟩ := setCells_mid ds (w.setCell ⟨g, i, none⟩ d) (cs.setIfInBounds i d) (i + 1) (blk_set h i d) (by simp; omega)
    refine ⟨cs', h1, by simpa using h2, fun j => ?_⟩
    rw [h3 j, List.length_cons]
    by_cases hj : j = i
    · subst hj
      rw [if_neg (by omega), if_pos (by omega), Nat.sub_self, List.getElem?_cons_zero, Array.getElem?_setIfInBounds_self_of_lt (by omega)]
    · by_cases hin : i + 1 ≤ j ∧ j < i + 1 + ds.length
      · rw [if_pos hin, if_pos (by omega), show j - i = (j - (i + 1)) + 1 by omega, List.getElem?_cons_succ]
      · rw [if_neg hin, if_neg (by omega), Array.getElem?_setIfInBounds_ne (Ne.symm hj)]
theorem OwnRows.setCells {α : Type} {e : TypeId} {m : Nat} {f : α → List Value} {w : World} {B : Nat} {v : Value} {xs : List α} (hf : ∀ x, (f x).length = m) (h : OwnRows e m f w B v xs) {i : Nat} {x x' : α} (hi : xs[i]? = some x) {j : Nat} {ds : List Value} (hj : j + ds.length ≤ m)
    (hx : ∀ t, t < m → (f x')[t]? = if j ≤ t ∧ t < j + ds.length then ds[t - j]? else (f x)[t]?) :
    ∃ g c, v = .slice (some ⟨g, 0, none⟩) xs.length c ∧ v.ownBlock = some g ∧ B ≤ g ∧ g < w.heap.size ∧ w.there g (i * m + j) ds.length ∧ OwnRows e m f (w.setCells g (i * m + j) ds) B v (xs.set i x') ∧ Upd g w (w.setCells g (i * m + j) ds) := by
  have hil := (List.getElem?_eq_some_iff.1 hi).1
  rcases h.2 with ⟨_, h0⟩ | ⟨g, cap, cur, rfl, hb, hg, hnc, hcm, hcs, htake⟩
  · omega
  · have hlt : i * m + j + ds.length ≤ cur.size := by
      have h1 : (i + 1) * m ≤ cap * m := Nat.mul_le_mul_right _ (by omega)
      rw [Nat.add_mul] at h1
      rw [hcs]
      omega
    obtain ⟨cs', h1, h2, h3⟩ := setCells_mid ds w cur (i * m + j) hg hlt
    refine ⟨g, cap, rfl, rfl, hb, blk_lt hg, fun k hk => ⟨?_, frozen_of_row _ _ _ _ _ hg⟩, ⟨?_, .inr ⟨g, cap, cs', ?_, hb, h1, ?_, hcm, h2.trans hcs, ?_⟩⟩, setCells_upd _ _ _ _⟩
    · rw [blk_cell hg _ _ (Array.getElem?_eq_getElem (by omega))]; rfl
    · rw [flatMap_len hf]
    · rw [List.length_set]
    · rw [List.length_set]; exact hnc
    · rw [List.length_set]
      apply List.ext_getElem?
      intro t
      by_cases ht : t < xs.length * m
      · have hm : 0 < m := Nat.pos_of_ne_zero fun e => by subst e; omega
        have hq : t / m < xs.length := Nat.div_lt_of_lt_mul (by rw [Nat.mul_comm]; exact ht)
        have hr : t % m < m := Nat.mod_lt _ hm
        have hjj : t / m * m + t % m = t := by rw [Nat.mul_comm]; exact Nat.div_add_mod t m
        have key : ∀ (y : α), (xs.set i x')[t / m]? = some y → ((xs.set i x').flatMap f)[t]? = (f y)[t % m]? := fun y hy => by
          have := flatMap_get hf (xs.set i x') (t / m) y hy (t % m) _ (List.getElem?_eq_getElem (by rw [hf]; exact hr))
          rw [hjj] at this
          rw [this, List.getElem?_eq_getElem (by rw [hf]; exact hr)]
        have key0 : ∀ (y : α), xs[t / m]? = some y → cur.toList[t]? = (f y)[t % m]? := fun y hy => by
          have := flatMap_get hf xs (t / m) y hy (t % m) _ (List.getElem?_eq_getElem (by rw [hf]; exact hr))
          rw [hjj, ← htake, List.getElem?_take, if_pos ht] at this
          rw [this, List.getElem?_eq_getElem (by rw [hf]; exact hr)]
        rw [List.getElem?_take, if_pos ht, Array.getElem?_toList, h3 t]
        by_cases hqi : t / m = i
        · subst hqi
          rw [key x' (List.getElem?_set_self hq), hx _ hr, ← key0 x hi]
          by_cases hin : j ≤ t % m ∧ t % m < j + ds.length
          · rw [if_pos hin, if_pos (by omega), show t - (t / m * m + j) = t % m - j by omega]
          · rw [if_neg hin, if_neg (by omega), Array.getElem?_toList]
        · have hout : ¬ (i * m + j ≤ t ∧ t < i * m + j + ds.length) := by
            rcases Nat.lt_or_gt_of_ne hqi with hl | hl
            · have h1 : (t / m + 1) * m ≤ i * m := Nat.mul_le_mul_right _ hl
              rw [Nat.add_mul] at h1
              omega
            · have h1 : (i + 1) * m ≤ t / m * m := Nat.mul_le_mul_right _ hl
              rw [Nat.add_mul] at h1
              omega
          rw [if_neg hout, key _ ((List.getElem?_set_ne (Ne.symm hqi)).trans (List.getElem?_eq_getElem hq)), ← key0 _ (List.getElem?_eq_getElem hq), Array.getElem?_toList]
      · rw [List.getElem?_take, if_neg ht, List.getElem?_eq_none (by rw [flatMap_len hf, List.length_set]; omega)]
theorem OwnRows.setCell {α : Type} {e : TypeId} {m : Nat} {f : α → List Value} {w : World} {B : Nat} {v : Value} {xs : List α} (hf : ∀ x, (f x).length = m) (h : OwnRows e m f w B v xs) {i : Nat} {x x' : α} (hi : xs[i]? = some x) {j : Nat} {d : Value} (hj : j < m)
    (hx : f x' = (f x).set j d) :
    ∃ g c, v = .slice (some ⟨g, 0, none⟩) xs.length c ∧ v.ownBlock = some g ∧ B ≤ g ∧ g < w.heap.size ∧ w.there g (i * m + j) 1 ∧ OwnRows e m f (w.setCell ⟨g, i * m + j, none⟩ d) B v (xs.set i x') ∧ Upd g w (w.setCell ⟨g, i * m + j, none⟩ d) :=
  OwnRows.setCells hf h hi (ds := [d]) (by simp only [List.length_singleton]; omega) (fun t ht => by
    rw [hx]
    by_cases htj : t = j
    · subst htj
      rw [List.getElem?_set_self (by rw [hf]; exact ht), if_pos (by simp), Nat.sub_self]
      rfl
    · rw [List.getElem?_set_ne (Ne.symm htj), if_neg (by simp; omega)])
theorem Try.infoPS : (Try.prog.info? 66).map (fun i => (i.zero, i.size, i.bytes)) = some (some (.agg #[.int .i64 0, .int .i64 0]), 2, 16) := by kernel_rfl
theorem Try.infoGS : (Try.prog.info? 51).map (fun i => (i.zero, i.size, i.bytes)) = some (some (.agg #[.int .i64 0, .int .i64 0, .int .i64 0, .int .i64 0]), 4, 32) := by kernel_rfl
theorem snPCells_len (x : Int × Int) : (snPCells x).length = 2 := rfl
theorem snPCells_one (x : Int × Int) : ∀ u ∈ snPCells x, u.oneCell' = true := by intro u hu; simp [snPCells] at hu; rcases hu with rfl | rfl <;> rfl
theorem snGCells_len (x : Gs4) : (snGCells x).length = 4 := rfl
theorem snGCells_one (x : Gs4) : ∀ u ∈ snGCells x, u.oneCell' = true := by intro u hu; simp [snGCells] at hu; rcases hu with rfl | rfl | rfl | rfl <;> rfl
set_option maxRecDepth 100000 in
set_option maxHeartbeats 1000000 in
theorem cloneGS_any (v : Value) (xs : List Gs4) (w : World) (hR : RowsAt 4 snGCells w v xs) (hn : xs.length ≤ 1000000) : Calls Try.prog 27 #[v] w fun e w' => ∃ u, e = .returned u ∧ OwnRows 51 4 snGCells w' w.heap.size u xs ∧ Ext w w' := by
  obtain ⟨i0, I0, I1, I2, I3⟩ := info_parts Try.infoGS
  obtain ⟨A, c, rfl, hc⟩ := hR.form
  cases A with
  | none =>
    have h0 : xs = [] := by
      obtain ⟨A', c', hv, _, hA⟩ := hR
      simp only [Value.slice.injEq] at hv
      cases xs with
      | nil => rfl
      | cons x xs => obtain ⟨b, o, hb, _⟩ := hA (by simp); rw [hb] at hv; simp at hv
    subst h0
    have hnil := fun (wx : World) (a : Option Addr) (n c : Nat) => Lib.run_eql_slice_nil (P := Try.prog) wx 23 51 a n c 0 0 Try.underlying23
    clear hR I0 I1 I2 I3
    go_enter Try.func27, Try.ntmps27
    go_wp2
    go_ret
    exact ⟨_, rfl, OwnRows.nil w _, Ext.refl _⟩
  | some a =>
    have hmade : OwnRows 51 4 snGCells (w.alloc (.cells #[] 51)) w.heap.size (.slice (some ⟨w.heap.size, 0, none⟩) 0 0) [] := World.ownsRow_made (base := w.heap.size) (e := 51) (size := 4) w #[] 0 (Nat.le_refl _) (by decide) rfl
    obtain ⟨u, w1, hr, ho, hg⟩ := OwnRows.append (P := Try.prog) (e := 51) (m := 4) (f := snGCells) (xs := []) 23 Try.underlying23 I0 I1 I2 I3 rfl (by decide) snGCells_len snGCells_one hmade (hR.ext ((Ext.refl w).alloc _)) (by simp [maxLen]; omega) (by simp; omega) (by simp)
    have HR := Lib.hid hr
    have HO := Lib.hid ho
    have HX : Hid (Ext w w1) := Lib.hid (OwnRows.grown (W := w) hmade ((Ext.refl w).alloc _) hg)
    have hnil := fun (wx : World) (a : Option Addr) (n c : Nat) => Lib.run_eql_slice_nil (P := Try.prog) wx 23 51 a n c 0 0 Try.underlying23
    clear hr ho hg hmade hR I0 I1 I2 I3
    go_enter Try.func27, Try.ntmps27
    go_wp2_with (at_builtin; refine wpList_append_run rfl _ _ 23 rfl _ _ rfl rfl HR.out ?_)
    go_ret
    exact ⟨_, rfl, HO.out, HX.out⟩
set_option maxRecDepth 100000 in
set_option maxHeartbeats 1000000 in
theorem clonePS_any (v : Value) (xs : List (Int × Int)) (w : World) (hR : RowsAt 2 snPCells w v xs) (hn : xs.length ≤ 1000000) : Calls Try.prog 26 #[v] w fun e w' => ∃ u, e = .returned u ∧ OwnRows 66 2 snPCells w' w.heap.size u xs ∧ Ext w w' := by
  obtain ⟨i0, I0, I1, I2, I3⟩ := info_parts Try.infoPS
  obtain ⟨A, c, rfl, hc⟩ := hR.form
  cases A with
  | none =>
    have h0 : xs = [] := by
      obtain ⟨A', c', hv, _, hA⟩ := hR
      simp only [Value.slice.injEq] at hv
      cases xs with
      | nil => rfl
      | cons x xs => obtain ⟨b, o, hb, _⟩ := hA (by simp); rw [hb] at hv; simp at hv
    subst h0
    have hnil := fun (wx : World) (a : Option Addr) (n c : Nat) => Lib.run_eql_slice_nil (P := Try.prog) wx 22 66 a n c 0 0 Try.underlying22
    clear hR I0 I1 I2 I3
    go_enter Try.func26, Try.ntmps26
    go_wp2
    go_ret
    exact ⟨_, rfl, OwnRows.nil w _, Ext.refl _⟩
  | some a =>
    have hmade : OwnRows 66 2 snPCells (w.alloc (.cells #[] 66)) w.heap.size (.slice (some ⟨w.heap.size, 0, none⟩) 0 0) [] := World.ownsRow_made (base := w.heap.size) (e := 66) (size := 2) w #[] 0 (Nat.le_refl _) (by decide) rfl
    obtain ⟨u, w1, hr, ho, hg⟩ := OwnRows.append (P := Try.prog) (e := 66) (m := 2) (f := snPCells) (xs := []) 22 Try.underlying22 I0 I1 I2 I3 rfl (by decide) snPCells_len snPCells_one hmade (hR.ext ((Ext.refl w).alloc _)) (by simp [maxLen]; omega) (by simp; omega) (by simp)
    have HR := Lib.hid hr
    have HO := Lib.hid ho
    have HX : Hid (Ext w w1) := Lib.hid (OwnRows.grown (W := w) hmade ((Ext.refl w).alloc _) hg)
    have hnil := fun (wx : World) (a : Option Addr) (n c : Nat) => Lib.run_eql_slice_nil (P := Try.prog) wx 22 66 a n c 0 0 Try.underlying22
    clear hr ho hg hmade hR I0 I1 I2 I3
    go_enter Try.func26, Try.ntmps26
    go_wp2_with (at_builtin; refine wpList_append_run rfl _ _ 22 rfl _ _ rfl rfl HR.out ?_)
    go_ret
    exact ⟨_, rfl, HO.out, HX.out⟩
def SnRet (w : World) (y : Sn) (e : Ending) (w' : World) : Prop := ∃ u, e = .returned u ∧ SnAt w' u y ∧ Ext w w'
theorem wpList_store_rowN {P : Program} {ops : Array Oper} {rest : List Oper} {op : Oper} {a : Act} {w : World} {Q : Exit → Act → World → Prop} (hgd : op.guard = none) (ty : TypeId) (x y : Operand) (ho : op.op = .store ty x y)
    (b o : Nat) (ds : List Value) (v : Value) (hx : a.eval x = .pointer (some ⟨b, o, none⟩)) (hy : a.eval y = v) (hv : v = .agg ds.toArray) (ht : w.there b o ds.length) (hi : (P.info? ty).map (·.size) = some ds.length) (h1 : ∀ u ∈ ds, u.oneCell' = true)
    {w' : World} (hw : w.setCells b o ds = w') (h : wpList P ops Q rest (a.put op.dst undef) w') : wpList P ops Q (op :: rest) a w := by
  subst hv hw
  exact wpList_store_mid hgd ty x y ho b o ds.toArray hx hy (by simpa using ht) (by simpa using hi) (all_oneCell_toArray h1) (by simpa using h)
theorem sn3_one (t : Int) (u v : Value) (hu : u.oneCell' = true) (hv : v.oneCell' = true) : ∀ x ∈ [Value.int .i64 t, u, v], x.oneCell' = true := by
  intro x hx
  simp only [List.mem_cons, List.not_mem_nil, or_false] at hx
  rcases hx with rfl | rfl | rfl
  · rfl
  · exact hu
  · exact hv
namespace Md
end Md
theorem rows_one {α : Type} {m : Nat} {f : α → List Value} (w : World) (T : TypeId) (y : α) : RowsAt m f (w.alloc (.cells (f y).toArray T)) (.slice (some ⟨w.heap.size, 0, none⟩) 1 1) [y] := by
  refine ⟨_, 1, rfl, by simp, fun _ => ⟨w.heap.size, 0, rfl, by simp, fun j x hj i u hu => ?_⟩⟩
  match j, hj with
  | 0, hj =>
    simp only [List.getElem?_cons_zero, Option.some.injEq] at hj
    subst hj
    rw [show 0 + 0 * m + i = i by omega]
    refine blk_cell (blk_new w _) _ _ ?_
    rw [List.getElem?_toArray]
    exact hu
def lgV (l : Lg) (wy st : Value) : Value := .agg #[.int .i64 l.time, .int .i64 l.m, .int .i64 l.kind, .int .i64 l.g, .int .i64 l.p, .int .i64 l.seq, wy, st]
namespace Md
end Md
section
variable {P : Program} {ops : Array Oper} {Q : Exit → Act → World → Prop} {md : Region.Mode} {z : Nat} {C : World → Prop}
def EntersM' (P : Program) (R : Ending → World → Prop) : Result Next → Prop
  | .ok (.enter f args) w' => Calls P f args w' R
  | _ => False
structure EntersM (P : Program) (R : Ending → World → Prop) (r : Result Next) : Prop where
  out : EntersM' P R r
theorem entersM_call {R : Ending → World → Prop} {fid : FuncId} {args : Array Value} {w : World} (h : Calls P fid args w R) : EntersM P R (.ok (.enter fid args) w) := ⟨h⟩
theorem region_gq (z : Nat) (C S : World → Prop) {id : Nat} {a : Act} {w : World} (hm : P.follows .mixedOrders = true) (hS : S w.drew) (hQ : ∀ c a d v w, Q (.panic c) (a.put d v) w → Q (.panic c) a w)
    (h : ∀ Q', Hid (Q' = Q) → (∀ c a d v w, Q' (.panic c) (a.put d v) w → Q' (.panic c) a w) → wpG P .any ops Q' z C ops.size S (Array.replicate ops.size false) a) : (Code.region id ops true).wp P Q a w :=
  region_g z C S hm hS (h Q (Lib.hid rfl) hQ)
theorem g_last {S : World → Prop} {k f : Nat} {o : Oper} {listed : Array Bool} {a : Act} (hr : Region.ready md ops listed = [k]) (hr2 : Region.ready md ops (listed.setIfInBounds k true) = []) (hz : (listed.setIfInBounds k true).getD z false = true)
    (hk : ops[k]? = some o) (hw : Region.wanted o (yielded ops a.tmps) = true)
    (hc : ∀ w, S w → ∀ R : Ending → World → Prop, (∀ v w', Q .normal (a.put o.dst v) w' → R (.returned v) w') → (∀ c w', Q (.panic c) a w' → R (.panicked c) w') → EntersM P R ((execOp a.eval o).run P w)) : wpG P md ops Q z C (f + 1) S listed a :=
  g_turn (fun v w' => Q .normal (a.put o.dst v) w') hr (fun v w _ h0 => by rw [hz] at h0; cases h0) fun w hS => by
    unfold wpOp
    simp only [hk, hw, if_true]
    left
    have h := (hc w hS (fun e w' => match e with | .returned v => Q .normal (a.put o.dst v) w' | .panicked c => Q (.panic c) a w' | .outgrown => False) (fun v w' h => h) (fun c w' h => h)).out
    unfold Oper.wp
    generalize (execOp a.eval o).run P w = r at *
    cases r with
    | halt x w' => exact h.elim
    | ok n w' =>
      cases n with
      | enter f args =>
        refine Calls.mono h fun e w'' he => ?_
        cases e with
        | returned v => exact ⟨v, he, g_done hr2 (fun _ h => h) _⟩
        | panicked c => exact he
        | outgrown => exact he.elim
      | _ => exact h.elim
end
section
variable {P : Program} {ops : Array Oper} {Q : Exit → Act → World → Prop} {md : Region.Mode} {z : Nat} {C : World → Prop}
theorem g_mid (T : Value → World → Prop) {S : World → Prop} {k f : Nat} {o : Oper} {listed : Array Bool} {a : Act} (hr : Region.ready md ops listed = [k]) (hT : ∀ v w, T v w → (listed.setIfInBounds k true).getD z false = false → C w)
    (hk : ops[k]? = some o) (hw : Region.wanted o (yielded ops a.tmps) = true) (hc : ∀ w, S w → ∀ R : Value → World → Prop, (∀ v w', T v w' → R v w') → GivesM P R ((execOp a.eval o).run P w))
    (h : ∀ v, (∃ w, T v w) → wpG P md ops Q z C f (T v) (listed.setIfInBounds k true) (a.put o.dst v)) : wpG P md ops Q z C (f + 1) S listed a :=
  g_turn T hr hT fun w hS => by
    unfold wpOp
    simp only [hk, hw, if_true]
    left
    have h2 := (hc w hS T fun _ _ h => h).out
    unfold Oper.wp
    generalize (execOp a.eval o).run P w = r at *
    cases r with
    | halt x w' => exact h2.elim
    | ok n w' =>
      cases n with
      | value u => exact ⟨u, h2, h u ⟨_, h2⟩⟩
      | skip => exact ⟨undef, h2, h undef ⟨_, h2⟩⟩
      | enter f args =>
        refine Calls.mono h2 fun e w'' he => ?_
        obtain ⟨v, rfl, h3⟩ := he
        exact ⟨v, h3, h v ⟨_, h3⟩⟩
      | _ => exact h2.elim
theorem g_end {S : World → Prop} {k f : Nat} {o : Oper} {listed : Array Bool} {a : Act} (hr : Region.ready md ops listed = [k]) (hr2 : Region.ready md ops (listed.setIfInBounds k true) = []) (hz : (listed.setIfInBounds k true).getD z false = true)
    (hk : ops[k]? = some o) (hw : Region.wanted o (yielded ops a.tmps) = true) (hc : ∀ w, S w → ∀ R : Value → World → Prop, (∀ v w', Q .normal (a.put o.dst v) w' → R v w') → GivesM P R ((execOp a.eval o).run P w)) : wpG P md ops Q z C (f + 1) S listed a :=
  g_mid (fun v w' => Q .normal (a.put o.dst v) w') hr (fun v w _ h0 => by rw [hz] at h0; cases h0) hk hw hc fun v _ => g_done hr2 (fun _ h => h) _
end
theorem rows_off {α : Type} {m : Nat} {f : α → List Value} {w w' : World} {v : Value} {xs : List α} {R : Nat} {t : Int} {s1 s2 : Value} {T : TypeId} {fr : Nat × Nat} (h : RowsAt m f w v xs) (hf : ∀ x, ∃ (a b : Int) (r : List Value), f x = .int .i64 a :: .int .i64 b :: r)
    (hb : w.heap[R]? = some (.cells #[.int .i64 t, s1, s2] T fr)) (h1 : ∀ a, s1 ≠ .int .i64 a) (h2 : ∀ a, s2 ≠ .int .i64 a) (hu : Upd R w w') : RowsAt m f w' v xs := by
  obtain ⟨A, c, hv, hc, hA⟩ := h
  refine ⟨A, c, hv, hc, fun h0 => ?_⟩
  obtain ⟨b, o, hAe, hlt, hcell⟩ := hA h0
  have hne : b ≠ R := fun e => by
    subst e
    obtain ⟨x, hx⟩ : ∃ x, xs[0]? = some x := ⟨_, List.getElem?_eq_getElem h0⟩
    obtain ⟨p, q, r, hfx⟩ := hf x
    have k0 := hcell 0 x hx 0 (.int .i64 p) (by rw [hfx]; rfl)
    have k1 := hcell 0 x hx 1 (.int .i64 q) (by rw [hfx]; rfl)
    rw [show o + 0 * m + 0 = o by omega] at k0
    rw [show o + 0 * m + 1 = o + 1 by omega] at k1
    have c1 := blk_cell hb 1 s1 rfl
    have c2 := blk_cell hb 2 s2 rfl
    rcases Nat.lt_or_ge o 3 with ho | ho
    · have : o = 0 ∨ o = 1 ∨ o = 2 := by omega
      rcases this with rfl | rfl | rfl
      · rw [c1] at k1; exact h1 q (Option.some.inj k1)
      · rw [c1] at k0; exact h1 p (Option.some.inj k0)
      · rw [c2] at k0; exact h2 p (Option.some.inj k0)
    · rw [cell_of_row w b o _ _ _ hb, Array.getElem?_eq_none (by simpa using ho)] at k0
      cases k0
  refine ⟨b, o, hAe, Nat.lt_of_lt_of_le hlt hu.size, fun j x hx i u hui => ?_⟩
  rw [World.cell?_of_block (hu.block b hlt (fun e => by injection e with e; exact hne e))]
  exact hcell j x hx i u hui
theorem snP_two (x : Int × Int) : ∃ (a b : Int) (r : List Value), snPCells x = .int .i64 a :: .int .i64 b :: r := ⟨_, _, _, rfl⟩
theorem snG_two (x : Gs4) : ∃ (a b : Int) (r : List Value), snGCells x = .int .i64 a :: .int .i64 b :: r := ⟨_, _, _, rfl⟩
theorem sn_lay {w w2 : World} {R : Nat} {t0 time : Int} {A B A0 B0 : Option Addr} {c d n0 c0 n1 c1 : Nat} {y : Sn} (hx : Ext w w2) (hR : w.heap.size ≤ R) (hb : w2.heap[R]? = some (.cells #[.int .i64 t0, .slice A0 n0 c0, .slice B0 n1 c1] 25 (0, 0))) (hs : SnAt w2 (.agg #[.int .i64 time, .slice A y.ps.length c, .slice B y.gs.length d]) y) :
    w2.there R 0 [Value.int .i64 time, .slice A y.ps.length c, .slice B y.gs.length d].length ∧ ∃ w6, w2.setCells R 0 [.int .i64 time, .slice A y.ps.length c, .slice B y.gs.length d] = w6 ∧ w6.heap[R]? = some (.cells #[.int .i64 time, .slice A y.ps.length c, .slice B y.gs.length d] 25 (0, 0)) ∧ SnRet w y (.returned (.agg #[.int .i64 time, .slice A y.ps.length c, .slice B y.gs.length d])) w6 := by
  have hu := setCells_upd R [Value.int .i64 time, .slice A y.ps.length c, .slice B y.gs.length d] w2 0
  refine ⟨there_row hb (by simp), _, rfl, setCells_at [.int .i64 t0, .slice A0 n0 c0, .slice B0 n1 c1] _ rfl hb, _, rfl, ?_, Ext.upd hx hu hR⟩
  obtain ⟨A', c', B', d', hv, h2, h3⟩ := hs
  simp only [Value.agg.injEq] at hv
  have e2 : Value.slice A y.ps.length c = .slice A' y.ps.length c' := by have := congrArg (fun a : Array Value => a[1]?) hv; simpa using this
  have e3 : Value.slice B y.gs.length d = .slice B' y.gs.length d' := by have := congrArg (fun a : Array Value => a[2]?) hv; simpa using this
  have e1 : Value.int .i64 time = .int .i64 y.time := by have := congrArg (fun a : Array Value => a[0]?) hv; simpa using this
  rw [e1, e2, e3] at hu ⊢
  exact ⟨A', c', B', d', rfl, rows_off h2 snP_two hb (by simp) (by simp) hu, rows_off h3 snG_two hb (by simp) (by simp) hu⟩
namespace Md
theorem hasP_range {m : Int} : ∀ {l : List (Int × Int)} {i : Int}, 0 < i → hasP l m i ≠ 0 → ∃ k : Nat, k < l.length ∧ hasP l m i = i + (k : Int)
  | [], _, _, h => absurd rfl h
  | p :: l, i, hi, h => by
    unfold hasP at h ⊢
    by_cases hp : p.1 = m
    · rw [if_pos hp]; exact ⟨0, by simp, by simp⟩
    · rw [if_neg hp] at h ⊢
      obtain ⟨k, hk, e⟩ := hasP_range (by omega) h
      exact ⟨k + 1, by simpa using hk, by rw [e]; omega⟩
theorem hasG_mem {m : Int} : ∀ {l : List Gs4}, hasG l m ≠ 0 → ∃ y ∈ l, y.1 = hasG l m ∧ y.2.2.1 = m
  | [], h => absurd rfl h
  | y :: l, h => by
    unfold hasG at h ⊢
    by_cases hy : y.2.2.1 = m
    · rw [if_pos hy]; exact ⟨y, by simp, rfl, hy⟩
    · rw [if_neg hy] at h ⊢
      obtain ⟨z, hz, e⟩ := hasG_mem h
      exact ⟨z, List.mem_cons_of_mem _ hz, e⟩
theorem fnd_mem {l : List Gs4} {y : Gs4} {g : Int} (h : y ∈ l) (hy : y.1 = g) : ∃ k, fnd l g = some k := by
  cases hf : fnd l g with
  | some k => exact ⟨k, rfl⟩
  | none => exact absurd hy (fnd_none.1 hf y h)
theorem stat_some {l : List Gs4} {g : Int} (h : (stat l g).1 ≠ 0) : ∃ k, fnd l g = some k := by
  cases hf : fnd l g with
  | some k => exact ⟨k, rfl⟩
  | none => unfold stat at h; rw [hf] at h; exact absurd rfl h
theorem free_range {l : List (Int × Int)} {p s : Int} (h : free l p s = true) : ∃ k : Nat, p = (k : Int) + 1 ∧ k < l.length := by
  unfold free at h
  simp only [Bool.and_eq_true, decide_eq_true_eq] at h
  exact ⟨(p - 1).toNat, by omega, by omega⟩
theorem setP_at {l : List (Int × Int)} {k : Nat} {m a b : Int} (h : l[k]? = some (a, b)) : setP l ((k : Int) + 1) m = l.set k (m, b + 1) := by
  unfold setP
  rw [show ((k : Int) + 1 - 1).toNat = k by omega, List.getD, h]
  rfl
theorem setG_at {l : List Gs4} {g st m : Int} {k : Nat} {y : Gs4} (hf : fnd l g = some k) (hy : l[k]? = some y) : setG l g st m = l.set k (g, st, m, y.2.2.2 + 1) := by
  unfold setG
  rw [hf]
  simp only [List.getD, hy, Option.getD_some]
end Md
namespace Md
def cmpI (a b : Int) : Int := if a < b then -1 else if b < a then 1 else 0
theorem gpos_some {l : List Gs4} (hr : rises l) {g : Int} {k : Nat} (h1 : ∀ (j : Nat) z, l[j]? = some z → j < k → z.1 < g) (h2 : ∀ (j : Nat) z, l[j]? = some z → k ≤ j → g ≤ z.1) (hk : k ≤ l.length) :
    gpos l g = k ∧ ((fnd l g).isSome = true ↔ ∃ y, l[k]? = some y ∧ y.1 = g) := by
  have e := gpos_of (g := g) hk (fun j hj z hz => h1 j z hz hj) (fun z hz => h2 k z hz (Nat.le_refl _))
  refine ⟨e, ?_⟩
  constructor
  · intro h
    obtain ⟨j, hj⟩ := Option.isSome_iff_exists.1 h
    have := gpos_fnd hr hj
    obtain ⟨y, hy, hyg, _⟩ := fnd_some hj
    exact ⟨y, by rw [← e, this]; exact hy, hyg⟩
  · rintro ⟨y, hy, hyg⟩
    rw [fnd_of hr hy hyg]; rfl
end Md
theorem misnan_any (a : Int) (w : World) : Calls Try.prog 99 #[.int .i64 a] w fun e w' => e = .returned (.bool false) ∧ w' = w := by
  have h : (a != a) = false := by simp
  go_enter Try.func99, Try.ntmps99
  go_wp2
  go_ret
  exact ⟨rfl, rfl⟩
theorem mcmp_any (a b : Int) (w : World) : Calls Try.prog 84 #[.int .i64 a, .int .i64 b] w fun e w' => e = .returned (.int .i64 (Md.cmpI a b)) ∧ w' = w := by
  go_enter Try.func84, Try.ntmps84
  go_wp2_with fail
  refine (misnan_any a w).mono ?_
  rintro e w1 ⟨rfl, rfl⟩
  go_wp2_with fail
  refine (misnan_any b _).mono ?_
  rintro e w2 ⟨rfl, rfl⟩
  by_cases h : a < b
  · have HE : Hid (Md.cmpI a b = -1) := Lib.hid (by unfold Md.cmpI; rw [if_pos h])
    go_wp2
    go_ret
    exact ⟨by rw [HE.out] <;> rfl, rfl⟩
  · by_cases h2 : b < a
    · have HE : Hid (Md.cmpI a b = 1) := Lib.hid (by unfold Md.cmpI; rw [if_neg h, if_pos h2])
      go_wp2
      go_ret
      exact ⟨by rw [HE.out] <;> rfl, rfl⟩
    · have HE : Hid (Md.cmpI a b = 0) := Lib.hid (by unfold Md.cmpI; rw [if_neg h, if_neg h2])
      go_wp2
      go_ret
      exact ⟨by rw [HE.out] <;> rfl, rfl⟩
theorem mclo_any (x : Gs4) (g : Int) (w : World) : Calls Try.prog 83 #[.agg #[.int .i64 x.1, .int .i64 x.2.1, .int .i64 x.2.2.1, .int .i64 x.2.2.2], .int .i64 g] w fun e w' => e = .returned (.int .i64 (Md.cmpI x.1 g)) ∧ Ext w w' := by
  obtain ⟨w1, hw1⟩ : ∃ w1, w.alloc (.cells #[.int .i64 x.1, .int .i64 x.2.1, .int .i64 x.2.2.1, .int .i64 x.2.2.2] 51) = w1 := ⟨_, rfl⟩
  have hx : Ext w w1 := by rw [← hw1]; exact (Ext.refl w).alloc _
  have hb : w1.heap[w.heap.size]? = some (.cells #[.int .i64 x.1, .int .i64 x.2.1, .int .i64 x.2.2.1, .int .i64 x.2.2.2] 51 (0, 0)) := by rw [← hw1]; exact blk_new w _
  have h1 := blk_cell hb 0 _ rfl
  have HX := Lib.hid hx
  have HW := Lib.hid hw1
  clear hx hb hw1
  go_enter Try.func83, Try.ntmps83
  go_upto_region 1 with fail
  rw [HW.out]
  go_wp2_with fail
  refine (mcmp_any x.1 g w1).mono ?_
  rintro e w2 ⟨rfl, rfl⟩
  go_wp2
  go_ret
  exact ⟨rfl, HX.out⟩
set_option maxRecDepth 100000 in
set_option maxHeartbeats 4000000 in
theorem mbs_any (A : Option Addr) (c : Nat) (gs : List Gs4) (g : Int) (w : World) (h : RowsAt 4 snGCells w (.slice A gs.length c) gs) (hr : Md.rises gs) (hl : gs.length ≤ 10000) (r : Bool) (hrr : (Md.fnd gs g).isSome = r) (q : Nat) (hq : Md.gpos gs g = q) :
    Calls Try.prog 82 #[.slice A gs.length c, .int .i64 g, .func (.func 83) #[] #[]] w fun e w' => e = .returned (.tuple #[.int .i64 q, .bool r]) ∧ Ext w w' := by
  have H := Lib.hid h
  have HRI := Lib.hid hr
  have HRR := Lib.hid hrr
  have HQ := Lib.hid hq
  have hl' : (gs.length : Int) ≤ 10000 := by omega
  clear h hr hrr hq
  go_enter Try.func82, Try.ntmps82
  go_wp2_with fail
  go_loopw [9, 10] (fun iv jv wr => ∃ i j : Nat, i ≤ j ∧ j ≤ gs.length ∧ iv = .int .i64 i ∧ jv = .int .i64 j ∧ (∀ (a : Nat) z, gs[a]? = some z → a < i → z.1 < g) ∧ (∀ (a : Nat) z, gs[a]? = some z → j ≤ a → g ≤ z.1) ∧ Ext w wr) (fun iv jv _ => (intOf jv).toNat - (intOf iv).toNat)
  case atStart => exact ⟨0, gs.length, by omega, by omega, rfl, rfl, fun a z _ h => by omega, fun a z hz h => by have := (List.getElem?_eq_some_iff.1 hz).1; omega, Ext.refl _⟩
  case round =>
    obtain ⟨i, j, hij, hjl, rfl, rfl, h1, h2, hx⟩ := hrel
    have H1 := Lib.hid h1
    have H2 := Lib.hid h2
    have HX := Lib.hid hx
    clear h1 h2 hx
    by_cases hlt : i < j
    · obtain ⟨m, hm⟩ : ∃ m : Nat, (i + j) / 2 = m := ⟨_, rfl⟩
      have hmi : i ≤ m ∧ m < j := by omega
      have hmm : ((i : Int) + (j : Int)) / 2 = (m : Int) := by omega
      go_upto_region 5 with fail
      try rw [hmm]
      have HMI := Lib.hid hmi
      clear hm hmm hmi
      obtain ⟨y, hy⟩ : ∃ y, gs[m]? = some y := ⟨_, List.getElem?_eq_getElem (by have := HMI.out; omega)⟩
      obtain ⟨b, o, hA, hb, hc⟩ := (H.out.ext HX.out).get hy
      subst hA
      have k0 := hc 0 _ rfl
      have k1 := hc 1 _ rfl
      have k2 := hc 2 _ rfl
      have k3 := hc 3 _ rfl
      rw [Nat.add_zero] at k0
      have l1 : (m : Int) < (gs.length : Int) := by have := HMI.out; omega
      have l2 : (m : Int) < 100000 := by have := HMI.out; omega
      have HY := Lib.hid hy
      clear hc hb hy
      go_wp2_with fail
      refine (mclo_any y g wr).mono ?_
      rintro e wa ⟨rfl, hxa⟩
      have HXA := Lib.hid (HX.out.trans hxa)
      clear hxa k0 k1 k2 k3 l1 l2
      obtain ⟨ci, hci⟩ : ∃ ci, Md.cmpI y.1 g = ci := ⟨_, rfl⟩
      rw [hci]
      by_cases hyg : y.1 < g
      · have d1 : decide (ci < 0) = true := decide_eq_true (by rw [← hci]; unfold Md.cmpI; rw [if_pos hyg]; decide)
        have HYG := Lib.hid hyg
        clear hyg hci
        go_simp
        have l2 : (m : Int) < 100000 := by have := HMI.out; omega
        go_wp2
        go_roundw
        case rel =>
          have hmi := HMI.out
          refine ⟨m + 1, j, by omega, by omega, by go_num, rfl, fun a z hz ha => ?_, H2.out, HXA.out⟩
          by_cases ham : a < m
          · have := Md.rises_lt HRI.out hz HY.out ham; have := HYG.out; omega
          · obtain rfl : a = m := by omega
            rw [HY.out] at hz
            obtain rfl := Option.some.inj hz
            exact HYG.out
        case measure => have hmi := HMI.out; simp [intOf]; omega
      · have d1 : decide (ci < 0) = false := decide_eq_false (by rw [← hci]; unfold Md.cmpI; rw [if_neg hyg]; split <;> decide)
        have HYG := Lib.hid hyg
        clear hyg hci
        go_wp2
        go_roundw
        case rel =>
          have hmi := HMI.out
          refine ⟨i, m, by omega, by omega, rfl, by go_num, H1.out, fun a z hz ha => ?_, HXA.out⟩
          by_cases ham : m < a
          · have := Md.rises_lt HRI.out HY.out hz ham; have := HYG.out; omega
          · obtain rfl : a = m := by omega
            rw [HY.out] at hz
            obtain rfl := Option.some.inj hz
            have := HYG.out
            omega
        case measure => have hmi := HMI.out; simp [intOf]; omega
    · obtain rfl : i = j := by omega
      have hgp := Md.gpos_some HRI.out H1.out H2.out hjl
      have HQI : Hid (i = q) := Lib.hid (hgp.1.symm.trans HQ.out)
      have HSO := Lib.hid hgp.2
      clear hgp hlt hij
      by_cases hin : i < gs.length
      · obtain ⟨y, hy⟩ : ∃ y, gs[i]? = some y := ⟨_, List.getElem?_eq_getElem hin⟩
        obtain ⟨b, o, hA, hb, hc⟩ := (H.out.ext HX.out).get hy
        subst hA
        have k0 := hc 0 _ rfl
        have k1 := hc 1 _ rfl
        have k2 := hc 2 _ rfl
        have k3 := hc 3 _ rfl
        rw [Nat.add_zero] at k0
        have l1 : (i : Int) < (gs.length : Int) := by omega
        have l2 : (i : Int) < 100000 := by omega
        have HY := Lib.hid hy
        clear hc hb hy
        go_wp2_with fail
        refine (mclo_any y g wr).mono ?_
        rintro e wa ⟨rfl, hxa⟩
        have HXA := Lib.hid (HX.out.trans hxa)
        clear hxa k0 k1 k2 k3 l1 l2
        obtain ⟨ci, hci⟩ : ∃ ci, Md.cmpI y.1 g = ci := ⟨_, rfl⟩
        rw [hci]
        have hge := H2.out i y HY.out (Nat.le_refl _)
        by_cases hyg : y.1 = g
        · have d1 : (ci == 0) = true := by rw [← hci]; unfold Md.cmpI; rw [if_neg (by omega), if_neg (by omega)]; rfl
          have HRT : Hid (r = true) := Lib.hid (by rw [← HRR.out]; exact HSO.out.2 ⟨y, HY.out, hyg⟩)
          clear hyg hci hge
          go_wp2
          go_ret2
          exact ⟨by rw [HRT.out, HQI.out] <;> rfl, HXA.out⟩
        · have d1 : (ci == 0) = false := by rw [← hci]; unfold Md.cmpI; rw [if_neg (by omega), if_pos (by omega)]; rfl
          have HRT : Hid (r = false) := Lib.hid (by
            rw [← HRR.out]
            cases h : (Md.fnd gs g).isSome with
            | false => rfl
            | true =>
              obtain ⟨z, hz, hzg⟩ := HSO.out.1 h
              rw [HY.out] at hz
              obtain rfl := Option.some.inj hz
              exact absurd hzg hyg)
          clear hyg hci hge
          go_wp2
          go_ret2
          exact ⟨by rw [HRT.out, HQI.out] <;> rfl, HXA.out⟩
      · have HRT : Hid (r = false) := Lib.hid (by
          rw [← HRR.out]
          cases h : (Md.fnd gs g).isSome with
          | false => rfl
          | true =>
            obtain ⟨z, hz, hzg⟩ := HSO.out.1 h
            have := (List.getElem?_eq_some_iff.1 hz).1
            omega)
        go_wp2
        go_ret2
        exact ⟨by rw [HRT.out, HQI.out] <;> rfl, HX.out⟩
end Go.Proofs.Ytdcbaddndoilfaa
