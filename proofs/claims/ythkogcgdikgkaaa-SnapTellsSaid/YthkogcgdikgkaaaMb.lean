/-
  Contracts of snap.numbers and snap.mayHold.
-/
import Derived.Test.YthkogcgdikgkaaaMa
import Derived.Test.YthkogcgdikgkaaaGm
import Derived.Test.YthkogcgdikgkaaaGb
set_option linter.unusedVariables false
set_option linter.unusedSimpArgs false
namespace Go.Proofs.Ythkogcgdikgkaaa
open Go.RowKit Go.Maps

theorem all_next {α : Type} {l : List α} {p : α → Bool} {k : Nat} (h : k < l.length) : (l.take (k + 1)).all p = ((l.take k).all p && p l[k]) := by
  rw [List.take_succ_eq_append_getElem h, List.all_append]
  simp
theorem all_no {α : Type} {l : List α} {p : α → Bool} {k : Nat} (h : k < l.length) (hn : p l[k] = false) : l.all p = false := by
  cases ha : l.all p with
  | false => rfl
  | true => rw [List.all_eq_true.1 ha _ (List.getElem_mem h)] at hn; cases hn
set_option maxRecDepth 100000 in
set_option maxHeartbeats 1000000 in
theorem snnum_any (v : Value) (l : List Int) (r : Bool) (hr : l.all snNum = r) (w : World) (h : IntsAt w v l) (hn : l.length ≤ 1000) :
    Calls Try.prog 24 #[v] w fun e w' => e = .returned (.bool r) ∧ w = w' := by
  obtain ⟨A, c, rfl, hA⟩ := h
  have HA := Lib.hid hA
  have HR := Lib.hid hr
  clear hA hr
  go_enter Try.func24, Try.ntmps24
  go_wp2
  go_loop [7] (fun iv => ∃ k : Nat, k ≤ l.length ∧ iv = .int .i64 k ∧ Hid ((l.take k).all snNum = true)) (fun iv => l.length - (intOf iv).toNat)
  case atStart => exact ⟨0, by omega, rfl, Lib.hid rfl⟩
  case round =>
    obtain ⟨k, hk, rfl, HK⟩ := hrel
    by_cases hlt : k < l.length
    · obtain ⟨b, o, rfl, hb, hc⟩ := HA.out (by omega)
      have pj := hc k l[k] (List.getElem?_eq_getElem hlt)
      have HN := Lib.hid (all_next (p := snNum) hlt)
      have HNO : Hid (snNum l[k] = false → r = false) := Lib.hid fun h => by rw [← HR.out]; exact all_no hlt h
      clear hc
      generalize l[k] = x at *
      by_cases h0 : x < 0
      · obtain rfl := HNO.out (by unfold snNum; simp; omega)
        go_wp2
        go_ret
        exact ⟨rfl, rfl⟩
      · by_cases h1 : 4611686018427387904 ≤ x
        · obtain rfl := HNO.out (by unfold snNum; simp; omega)
          go_wp2
          go_ret
          exact ⟨rfl, rfl⟩
        · have HX : Hid (snNum x = true) := Lib.hid ((snNum_iff x).2 (by omega))
          go_wp2
          go_round
          case rel => exact ⟨k + 1, by omega, by go_num, Lib.hid (by rw [HN.out, HK.out, HX.out]; rfl)⟩
          case measure => simp [intOf]; omega
    · obtain rfl : k = l.length := by omega
      have hk' := HK.out
      rw [List.take_length, HR.out] at hk'
      subst hk'
      go_wp2
      go_ret
      exact ⟨rfl, rfl⟩
/-- A store into a map, where its run is known. -/
theorem wpList_mapUpdate_run {P : Program} {ops : Array Oper} {rest : List Oper} {o : Oper} {a : Act} {w w' : World} {Q : Exit → Act → World → Prop} (hg : o.guard = none) (m x v : Operand) (t : TypeId) (hop : o.op = Op.mapUpdate t m x v)
    (mv key val : Value) (hm : a.eval m = mv) (hx : a.eval x = key) (hv : a.eval v = val) (hr : (Instr.mapUpdate t mv key val).run P w = .ok () w') (h : wpList P ops Q rest (a.put o.dst undef) w') : wpList P ops Q (o :: rest) a w := by
  refine wpList_plain hg fun K' hK' => ?_
  unfold Oper.wp
  simp [execOp, hop, hm, hx, hv, hr, Result.andThen]
  exact hK' _ _ h
theorem snzero (w : World) : (zeroValue 76).run Try.prog w = .ok (pairVal (0, 0)) w := by kernel_rfl
def HoldPost (b n : Nat) (r : Bool × Hold) (w : World) (e : Ending) (w' : World) : Prop := e = .returned (.bool r.1) ∧ MapAt Try.prog 3 w' b (n + 1) r.2 ∧ Upd b w w'
set_option maxRecDepth 100000 in
set_option maxHeartbeats 1000000 in
theorem snhold_any (g st m q : Int) (b n : Nat) (f : Hold) (w : World) (h : MapAt Try.prog 3 w b n f) (hn : n ≤ 100000) (hm : i64in m) :
    Calls Try.prog 37 #[.agg #[.int .i64 g, .int .i64 st, .int .i64 m, .int .i64 q], .map (some b)] w (HoldPost b n (snHold (g, st, m, q) f) w) := by
  have H := Lib.hid h
  have HM := Lib.hid hm
  have hlook := (h.ext ((Ext.refl w).alloc (.cells #[.int .i64 g, .int .i64 st, .int .i64 m, .int .i64 q] 36))).look Try.underlying3 Try.underlying53 (snzero _) m hm
  have hsz := h.lt
  clear h hm
  obtain ⟨⟨a, c⟩, hfm⟩ : ∃ p, f m = p := ⟨_, rfl⟩
  rw [hfm] at hlook
  have HF := Lib.hid hfm
  clear hfm
  simp only [pairVal] at hlook
  by_cases h1 : st = 1
  · have e1 : (st == 1) = true := by simp [h1]
    have HQ : Hid (snHold (g, st, m, q) f = (decide (m = 0), f)) := Lib.hid (by unfold snHold; rw [if_pos (.inl h1)])
    have HD : Hid ((m == 0) = decide (m = 0)) := Lib.hid (by by_cases hm0 : m = 0 <;> simp [hm0])
    clear h1 hlook
    go_enter Try.func37, Try.ntmps37
    go_wp2
    go_ret
    rw [HQ.out]
    exact ⟨rfl, (H.out.ext ((Ext.refl w).alloc _)).mono (by omega), Upd.ext ((Ext.refl w).alloc _)⟩
  · by_cases h3 : st = 3
    · have e1 : (st == 1) = false := by simp [h1]
      have e3 : (st == 3) = true := by simp [h3]
      have HQ : Hid (snHold (g, st, m, q) f = (decide (m = 0), f)) := Lib.hid (by unfold snHold; rw [if_pos (.inr h3)])
      have HD : Hid ((m == 0) = decide (m = 0)) := Lib.hid (by by_cases hm0 : m = 0 <;> simp [hm0])
      clear h1 h3 hlook
      go_enter Try.func37, Try.ntmps37
      go_wp2
      go_ret
      rw [HQ.out]
      exact ⟨rfl, (H.out.ext ((Ext.refl w).alloc _)).mono (by omega), Upd.ext ((Ext.refl w).alloc _)⟩
    · have e1 : (st == 1) = false := by simp [h1]
      have e3 : (st == 3) = false := by simp [h3]
      have HQ0 : Hid (snHold (g, st, m, q) f = if m = 0 ∨ 0 < c then (false, f) else ((decide (st = 2) && decide (a = 1)) || (decide (st = 4) && decide (a = 0)), Hold.put f m (a, 1))) := Lib.hid (by unfold snHold; simp only; rw [if_neg (by omega), HF.out])
      by_cases hm0 : m = 0
      · have e0 : (m == 0) = true := by simp [hm0]
        have HQ : Hid (snHold (g, st, m, q) f = (false, f)) := Lib.hid (by rw [HQ0.out, if_pos (.inl hm0)])
        clear h1 h3 hm0
        go_enter Try.func37, Try.ntmps37
        go_wp2
        go_ret
        rw [HQ.out]
        exact ⟨rfl, (H.out.ext (((Ext.refl w).alloc _).alloc _)).mono (by omega), Upd.ext (((Ext.refl w).alloc _).alloc _)⟩
      · have e0 : (m == 0) = false := by simp [hm0]
        by_cases hc : 0 < c
        · have HQ : Hid (snHold (g, st, m, q) f = (false, f)) := Lib.hid (by rw [HQ0.out, if_pos (.inr hc)])
          clear h1 h3 hm0
          go_enter Try.func37, Try.ntmps37
          go_wp2
          go_ret
          rw [HQ.out]
          exact ⟨rfl, (H.out.ext (((Ext.refl w).alloc _).alloc _)).mono (by omega), Upd.ext (((Ext.refl w).alloc _).alloc _)⟩
        · have HQ : Hid (snHold (g, st, m, q) f = ((decide (st = 2) && decide (a = 1)) || (decide (st = 4) && decide (a = 0)), Hold.put f m (a, 1))) := Lib.hid (by rw [HQ0.out, if_neg (by omega)])
          obtain ⟨w3, hr3, hm3, hg3⟩ := (H.out.ext (((Ext.refl w).alloc (.cells #[.int .i64 g, .int .i64 st, .int .i64 m, .int .i64 q] 36)).alloc (.cells #[.int .i64 a, .int .i64 c] 76))).store (t := 53) (e := 76) Try.underlying3 Try.underlying53 (by unfold maxLen; omega) m HM.out (a, 1)
          have HR3 := Lib.hid hr3
          have HM3 := Lib.hid hm3
          have HU3 : Hid (Upd b w w3) := Lib.hid (Upd.trans (Upd.ext (((Ext.refl w).alloc _).alloc _)) hg3)
          have hb1 := Upd.blk hg3 (blk_alloc (blk_new w (.cells #[.int .i64 g, .int .i64 st, .int .i64 m, .int .i64 q] 36)) (.cells #[.int .i64 a, .int .i64 c] 76)) (by omega)
          have hb2 : w3.heap[w.heap.size + 1]? = some (.cells #[.int .i64 a, .int .i64 c] 76 (0, 0)) := Upd.blk hg3 (by have := blk_new (w.alloc (.cells #[.int .i64 g, .int .i64 st, .int .i64 m, .int .i64 q] 36)) (.cells #[.int .i64 a, .int .i64 c] 76); rwa [World.size_alloc] at this) (by omega)
          have HB1 := Lib.hid hb1
          have HB2 := Lib.hid hb2
          clear hr3 hm3 hg3 hb1 hb2 h1 h3 hm0
          have key : ∀ r, ((decide (st = 2) && decide (a = 1)) || (decide (st = 4) && decide (a = 0))) = r → MapAt Try.prog 3 w3 b (n + 1) (Hold.put f m (a, 1)) → HoldPost b n (snHold (g, st, m, q) f) w (.returned (.bool r)) w3 := fun r hr hmm => by
            rw [HQ.out, hr]; exact ⟨rfl, hmm, HU3.out⟩
          have KEY := Lib.hid key
          clear key
          have hcase : (st = 2 ∧ a = 1) ∨ (st = 2 ∧ a ≠ 1) ∨ (st ≠ 2 ∧ st = 4 ∧ a = 0) ∨ (st ≠ 2 ∧ st = 4 ∧ a ≠ 0) ∨ (st ≠ 2 ∧ st ≠ 4) := by omega
          rcases hcase with ⟨k1, k2⟩ | ⟨k1, k2⟩ | ⟨k1, k2, k3⟩ | ⟨k1, k2, k3⟩ | ⟨k1, k2⟩
          · have b1 : (st == 2) = true := by simp [k1]
            have b2 : (a == 1) = true := by simp [k2]
            have K := Lib.hid (KEY.out true (by simp [k1, k2]) HM3.out)
            clear k1 k2
            (try clear k3)
            have p1 := blk_cell HB1.out 1 (.int .i64 st) rfl
            have p2 := blk_cell HB2.out 0 (.int .i64 a) rfl
            go_enter Try.func37, Try.ntmps37
            go_wp2_with (at_mapUpdate; refine wpList_mapUpdate_run rfl _ _ _ 53 rfl (.map (some b)) (.int .i64 m) (pairVal (a, 1)) rfl rfl rfl HR3.out ?_)
            go_ret
            exact K.out
          · have b1 : (st == 2) = true := by simp [k1]
            have b2 : (a == 1) = false := by simp [k2]
            have b4 : (st == 4) = false := by simp [k1]
            have K := Lib.hid (KEY.out false (by simp [k1, k2]) HM3.out)
            clear k1 k2
            (try clear k3)
            have p1 := blk_cell HB1.out 1 (.int .i64 st) rfl
            have p2 := blk_cell HB2.out 0 (.int .i64 a) rfl
            go_enter Try.func37, Try.ntmps37
            go_wp2_with (at_mapUpdate; refine wpList_mapUpdate_run rfl _ _ _ 53 rfl (.map (some b)) (.int .i64 m) (pairVal (a, 1)) rfl rfl rfl HR3.out ?_)
            go_ret
            exact K.out
          · have b1 : (st == 2) = false := by simp [k1]
            have b2 : (st == 4) = true := by simp [k2]
            have b3 : (a == 0) = true := by simp [k3]
            have K := Lib.hid (KEY.out true (by simp [k2, k3]) HM3.out)
            clear k1 k2
            (try clear k3)
            have p1 := blk_cell HB1.out 1 (.int .i64 st) rfl
            have p2 := blk_cell HB2.out 0 (.int .i64 a) rfl
            go_enter Try.func37, Try.ntmps37
            go_wp2_with (at_mapUpdate; refine wpList_mapUpdate_run rfl _ _ _ 53 rfl (.map (some b)) (.int .i64 m) (pairVal (a, 1)) rfl rfl rfl HR3.out ?_)
            go_ret
            exact K.out
          · have b1 : (st == 2) = false := by simp [k1]
            have b2 : (st == 4) = true := by simp [k2]
            have b3 : (a == 0) = false := by simp [k3]
            have K := Lib.hid (KEY.out false (by simp [k2, k3]) HM3.out)
            clear k1 k2
            (try clear k3)
            have p1 := blk_cell HB1.out 1 (.int .i64 st) rfl
            have p2 := blk_cell HB2.out 0 (.int .i64 a) rfl
            go_enter Try.func37, Try.ntmps37
            go_wp2_with (at_mapUpdate; refine wpList_mapUpdate_run rfl _ _ _ 53 rfl (.map (some b)) (.int .i64 m) (pairVal (a, 1)) rfl rfl rfl HR3.out ?_)
            go_ret
            exact K.out
          · have b1 : (st == 2) = false := by simp [k1]
            have b2 : (st == 4) = false := by simp [k2]
            have K := Lib.hid (KEY.out false (by simp [k1, k2]) HM3.out)
            clear k1 k2
            (try clear k3)
            have p1 := blk_cell HB1.out 1 (.int .i64 st) rfl
            have p2 := blk_cell HB2.out 0 (.int .i64 a) rfl
            go_enter Try.func37, Try.ntmps37
            go_wp2_with (at_mapUpdate; refine wpList_mapUpdate_run rfl _ _ _ 53 rfl (.map (some b)) (.int .i64 m) (pairVal (a, 1)) rfl rfl rfl HR3.out ?_)
            go_ret
            exact K.out

end Go.Proofs.Ythkogcgdikgkaaa
