/-
  Contracts of the document's find, stack, Fits, Small and Few.
-/
import Derived.Test.YthkalaohaholaaaIp
set_option linter.unusedVariables false
set_option linter.unusedSimpArgs false
namespace Go.Proofs.Ythkalaohaholaaa
open Go.RowKit Go.Maps

theorem toList_eq (a b : ByteArray) : (a.toList == b.toList) = decide (a = b) := by
  rw [Bool.eq_iff_iff, beq_iff_eq, decide_eq_true_eq, ByteArray.toList_eq, ByteArray.toList_eq]
  exact ⟨fun h => ByteArray.ext (Array.toList_inj.1 h), fun h => by rw [h]⟩
theorem Tb.idx_take {α : Type} [DecidableEq α] {l : List α} {x : α} {k : Nat} (h : l[k]? = some x) (hn : x ∉ l.take k) : Tb.idx l x = (k : Int) + 1 := by
  have hk := (List.getElem?_eq_some_iff.1 h).1
  have hx := (List.getElem?_eq_some_iff.1 h).2
  have e : l = l.take (k + 1) ++ l.drop (k + 1) := (List.take_append_drop _ _).symm
  rw [List.take_succ_eq_append_getElem hk, hx] at e
  rw [e, Tb.idx_app (by simp), Tb.idx_snoc hn, if_pos rfl, List.length_take, Nat.min_eq_left (by omega)]
theorem Tb.not_next {α : Type} {l : List α} {x y : α} {k : Nat} (h : l[k]? = some y) (hn : x ∉ l.take k) (hne : y ≠ x) : x ∉ l.take (k + 1) := by
  have hk := (List.getElem?_eq_some_iff.1 h).1
  have hx := (List.getElem?_eq_some_iff.1 h).2
  rw [List.take_succ_eq_append_getElem hk, hx, List.mem_append]
  rintro (h | h)
  · exact hn h
  · exact hne (List.mem_singleton.1 h).symm
set_option maxRecDepth 100000 in
set_option maxHeartbeats 2000000 in
theorem rfind_any (v : Value) (l : List ByteArray) (s : ByteArray) (w : World) (h : RowsAt 1 strL w v l) (hn : l.length ≤ 100000) :
    Calls Try.prog 29 #[v, .string s] w fun e w' => e = .returned (.int .i64 (Tb.idx l s - 1)) ∧ w = w' := by
  obtain ⟨A, c, rfl, hc⟩ := h.form
  have HH := Lib.hid h
  clear h hc
  go_enter Try.func29, Try.ntmps29
  go_wp2
  go_loop [5] (fun iv => ∃ k : Nat, k ≤ l.length ∧ iv = .int .i64 k ∧ Hid (s ∉ l.take k)) (fun iv => l.length - (intOf iv).toNat)
  case atStart => exact ⟨0, by omega, rfl, Lib.hid (by simp)⟩
  case round =>
    obtain ⟨k, hk, rfl, HN⟩ := hrel
    by_cases hlt : k < l.length
    · obtain ⟨a, ha⟩ : ∃ a, l[k]? = some a := ⟨_, List.getElem?_eq_getElem hlt⟩
      obtain ⟨b, o, rfl, hb, c0⟩ := strs_get HH.out ha
      have HA := Lib.hid ha
      have he := toList_eq a s
      clear ha
      by_cases has : a = s
      · have HI := Lib.hid (Tb.idx_take (x := s) (by rw [HA.out, has]) HN.out)
        rw [decide_eq_true has] at he
        clear has
        go_wp2
        go_ret
        exact ⟨by rw [HI.out, Int.add_sub_cancel]; rfl, rfl⟩
      · have HNN : Hid (s ∉ l.take (k + 1)) := Lib.hid (Tb.not_next HA.out HN.out has)
        rw [decide_eq_false has] at he
        clear has
        go_wp2
        go_round
        case rel => exact ⟨k + 1, by omega, by go_num, HNN⟩
        case measure => simp [intOf]; omega
    · obtain rfl : k = l.length := by omega
      have HI : Hid (Tb.idx l s = 0) := Lib.hid (Tb.idx_zero.2 (by have := HN.out; rwa [List.take_length] at this))
      go_wp2
      go_ret
      exact ⟨by rw [HI.out] <;> rfl, rfl⟩
theorem rfits_any (n : Int) (w : World) : Calls Try.prog 30 #[.int .i64 n] w fun e w' => e = .returned (.bool (Tb.mayL n)) ∧ w = w' := by
  by_cases h : 0 ≤ n
  · have hb : Tb.mayL n = decide (n < 4611686018427387904) := by unfold Tb.mayL; exact decide_eq_decide.2 ⟨fun h => h.2, fun k => ⟨h, k⟩⟩
    rw [hb]
    go_enter Try.func30, Try.ntmps30
    go_wp2
    go_ret
    exact ⟨rfl, rfl⟩
  · have hb : Tb.mayL n = false := by unfold Tb.mayL; rw [decide_eq_false_iff_not]; exact fun k => h k.1
    rw [hb]
    go_enter Try.func30, Try.ntmps30
    go_wp2
    go_ret
    exact ⟨rfl, rfl⟩
set_option maxRecDepth 100000 in
set_option maxHeartbeats 2000000 in
theorem rstack_any (v u : Value) (l : List (List (Int × Int))) (s : List (Int × Int)) (w : World) (h : NestAt 2 frL w v l) (hs : RowsAt 2 frL w u s) (hn : l.length ≤ 100000) (ho : ∀ k ∈ l, k.length ≤ 100000 ∧ ∀ f ∈ k, FrIn f) (hos : ∀ f ∈ s, FrIn f) :
    Calls Try.prog 28 #[v, u] w fun e w' => e = .returned (.int .i64 (Tb.idx l s - 1)) ∧ Ext w w' := by
  obtain ⟨A, c, rfl, hc⟩ := h.form
  obtain ⟨B, d, rfl, hd⟩ := hs.form
  have HH := Lib.hid h
  have HS := Lib.hid hs
  have HO := Lib.hid ho
  have HOS := Lib.hid hos
  clear h hc hs hd ho hos
  go_enter Try.func28, Try.ntmps28
  go_wp2
  go_loopw [5] (fun iv wr => ∃ k : Nat, k ≤ l.length ∧ iv = .int .i64 k ∧ Hid (s ∉ l.take k) ∧ Ext w wr) (fun iv _ => l.length - (intOf iv).toNat)
  case atStart => exact ⟨0, by omega, rfl, Lib.hid (by simp), Ext.refl _⟩
  case round =>
    obtain ⟨k, hk, rfl, HN, hx⟩ := hrel
    have HX := Lib.hid hx
    clear hx
    by_cases hlt : k < l.length
    · obtain ⟨a, ha⟩ : ∃ a, l[k]? = some a := ⟨_, List.getElem?_eq_getElem hlt⟩
      obtain ⟨b, o, z, rfl, hb, c0, hr⟩ := (HH.out.ext HX.out).one ha
      have HA := Lib.hid ha
      have hok := HO.out a (List.mem_of_getElem? ha)
      have HC := Lib.hid (rsamestk_any z _ a s wr hr (HS.out.ext HX.out) hok.2 HOS.out hok.1)
      obtain ⟨C, q, rfl, hq⟩ := hr.form
      clear ha hr hok
      by_cases has : a = s
      · have HI := Lib.hid (Tb.idx_take (x := s) (by rw [HA.out, has]) HN.out)
        rw [decide_eq_true has] at HC
        clear has
        go_wp2_with fail
        refine HC.out.mono ?_
        rintro e w2 ⟨rfl, hx2⟩
        go_wp2
        go_ret
        exact ⟨by rw [HI.out, Int.add_sub_cancel]; rfl, HX.out.trans hx2⟩
      · have HNN : Hid (s ∉ l.take (k + 1)) := Lib.hid (Tb.not_next HA.out HN.out has)
        rw [decide_eq_false has] at HC
        clear has
        go_wp2_with fail
        refine HC.out.mono ?_
        rintro e w2 ⟨rfl, hx2⟩
        have HX2 := Lib.hid (HX.out.trans hx2)
        clear hx2
        go_wp2
        go_roundw
        case rel => exact ⟨k + 1, by omega, by go_num, HNN, HX2.out⟩
        case measure => simp [intOf]; omega
    · obtain rfl : k = l.length := by omega
      have HI : Hid (Tb.idx l s = 0) := Lib.hid (Tb.idx_zero.2 (by have := HN.out; rwa [List.take_length] at this))
      go_wp2
      go_ret
      exact ⟨by rw [HI.out] <;> rfl, HX.out⟩

end Go.Proofs.Ythkalaohaholaaa
