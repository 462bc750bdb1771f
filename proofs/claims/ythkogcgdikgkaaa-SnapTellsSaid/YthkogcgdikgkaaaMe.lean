/-
  Contracts of the document's Holds, has and right (layer 8).
-/
import Derived.Test.YthkogcgdikgkaaaMd
set_option linter.unusedVariables false
set_option linter.unusedSimpArgs false
namespace Go.Proofs.Ythkogcgdikgkaaa
open Go.RowKit Go.Maps

def cntP (l : List (Int × Int)) (m : Int) : Nat := l.countP fun p => p.1 == m
def cntG (l : List Gs4) (m : Int) : Nat := l.countP fun g => g.2.2.1 == m
theorem cntP_next {l : List (Int × Int)} {m : Int} {k : Nat} (h : k < l.length) : cntP (l.take (k + 1)) m = cntP (l.take k) m + if (l[k].1 == m) = true then 1 else 0 := by
  unfold cntP
  rw [List.take_succ_eq_append_getElem h, List.countP_append]
  simp [List.countP_cons]
theorem cntG_next {l : List Gs4} {m : Int} {k : Nat} (h : k < l.length) : cntG (l.take (k + 1)) m = cntG (l.take k) m + if (l[k].2.2.1 == m) = true then 1 else 0 := by
  unfold cntG
  rw [List.take_succ_eq_append_getElem h, List.countP_append]
  simp [List.countP_cons]
theorem cntP_le (l : List (Int × Int)) (m : Int) : cntP l m ≤ l.length := List.countP_le_length
theorem cntG_le (l : List Gs4) (m : Int) : cntG l m ≤ l.length := List.countP_le_length
set_option maxRecDepth 100000 in
set_option maxHeartbeats 1000000 in
theorem rholds_any (v : Value) (l : List (Int × Int)) (m : Int) (w : World) (h : RowsAt 2 snPCells w v l) (hn : l.length ≤ 100000) :
    Calls Try.prog 17 #[v, .int .i64 m] w fun e w' => e = .returned (.int .i64 (cntP l m : Nat)) ∧ w = w' := by
  obtain ⟨A, c, rfl, hc, hA⟩ := h
  have HA := Lib.hid hA
  clear hA hc
  go_enter Try.func17, Try.ntmps17
  go_wp2
  go_loop [5, 6] (fun nv iv => ∃ (k n : Nat), k ≤ l.length ∧ iv = .int .i64 k ∧ nv = .int .i64 n ∧ n = cntP (l.take k) m) (fun _ iv => l.length - (intOf iv).toNat)
  case atStart => exact ⟨0, 0, by omega, rfl, rfl, rfl⟩
  case round =>
    obtain ⟨k, n, hk, rfl, rfl, hcn⟩ := hrel
    have hnl : n ≤ 100000 := by have := cntP_le (l.take k) m; rw [List.length_take] at this; omega
    have HCN := Lib.hid hcn
    clear hcn
    by_cases hlt : k < l.length
    · obtain ⟨b, o, rfl, hb, hcell⟩ := HA.out (by omega)
      have h0 := hcell k l[k] (List.getElem?_eq_getElem hlt) 0 _ rfl
      have HN := Lib.hid (cntP_next (m := m) hlt)
      simp only [Nat.add_zero] at h0
      clear hcell
      generalize l[k].1 = x at *
      cases hxm : (x == m) with
      | true =>
        have HE : Hid (n + 1 = cntP (l.take (k + 1)) m) := Lib.hid (by rw [HN.out, hxm, ← HCN.out]; rfl)
        go_wp2
        go_round
        case rel => exact ⟨k + 1, n + 1, by omega, by go_num, by go_num, HE.out⟩
        case measure => simp [intOf]; omega
      | false =>
        have HE : Hid (n = cntP (l.take (k + 1)) m) := Lib.hid (by rw [HN.out, hxm, ← HCN.out]; rfl)
        go_wp2
        go_round
        case rel => exact ⟨k + 1, n, by omega, by go_num, rfl, HE.out⟩
        case measure => simp [intOf]; omega
    · obtain rfl : k = l.length := by omega
      have HE : Hid (n = cntP l m) := Lib.hid (by rw [HCN.out, List.take_length])
      go_wp2
      go_ret
      exact ⟨by rw [← HE.out]; first | done | rfl, rfl⟩
set_option maxRecDepth 100000 in
set_option maxHeartbeats 1000000 in
theorem rhas_any (v : Value) (l : List Gs4) (m : Int) (w : World) (h : RowsAt 4 snGCells w v l) (hn : l.length ≤ 100000) :
    Calls Try.prog 38 #[v, .int .i64 m] w fun e w' => e = .returned (.int .i64 (cntG l m : Nat)) ∧ w = w' := by
  obtain ⟨A, c, rfl, hc, hA⟩ := h
  have HA := Lib.hid hA
  clear hA hc
  go_enter Try.func38, Try.ntmps38
  go_wp2
  go_loop [5, 6] (fun nv iv => ∃ (k n : Nat), k ≤ l.length ∧ iv = .int .i64 k ∧ nv = .int .i64 n ∧ n = cntG (l.take k) m) (fun _ iv => l.length - (intOf iv).toNat)
  case atStart => exact ⟨0, 0, by omega, rfl, rfl, rfl⟩
  case round =>
    obtain ⟨k, n, hk, rfl, rfl, hcn⟩ := hrel
    have hnl : n ≤ 100000 := by have := cntG_le (l.take k) m; rw [List.length_take] at this; omega
    have HCN := Lib.hid hcn
    clear hcn
    by_cases hlt : k < l.length
    · obtain ⟨b, o, rfl, hb, hcell⟩ := HA.out (by omega)
      have h0 := hcell k l[k] (List.getElem?_eq_getElem hlt) 2 _ rfl
      have HN := Lib.hid (cntG_next (m := m) hlt)
      clear hcell
      generalize l[k].2.2.1 = x at *
      cases hxm : (x == m) with
      | true =>
        have HE : Hid (n + 1 = cntG (l.take (k + 1)) m) := Lib.hid (by rw [HN.out, hxm, ← HCN.out]; rfl)
        go_wp2
        go_round
        case rel => exact ⟨k + 1, n + 1, by omega, by go_num, by go_num, HE.out⟩
        case measure => simp [intOf]; omega
      | false =>
        have HE : Hid (n = cntG (l.take (k + 1)) m) := Lib.hid (by rw [HN.out, hxm, ← HCN.out]; rfl)
        go_wp2
        go_round
        case rel => exact ⟨k + 1, n, by omega, by go_num, rfl, HE.out⟩
        case measure => simp [intOf]; omega
    · obtain rfl : k = l.length := by omega
      have HE : Hid (n = cntG l m) := Lib.hid (by rw [HCN.out, List.take_length])
      go_wp2
      go_ret
      exact ⟨by rw [← HE.out]; first | done | rfl, rfl⟩

end Go.Proofs.Ythkogcgdikgkaaa
