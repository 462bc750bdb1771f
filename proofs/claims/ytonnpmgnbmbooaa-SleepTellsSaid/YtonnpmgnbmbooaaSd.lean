/-
  The contract of the library's Concat, of three slices of timers.
-/
import Derived.Test.YtonnpmgnbmbooaaSc
set_option linter.unusedVariables false
set_option linter.unusedSimpArgs false
namespace Go.Proofs.Ytonnpmgnbmbooaa
open Go.RowKit

def sum3 (a b c : Nat) : Nat → Nat
  | 0 => 0
  | 1 => a
  | 2 => a + b
  | _ => a + b + c
def cat3 {α : Type} (a b c : List α) : Nat → List α
  | 0 => []
  | 1 => a
  | 2 => a ++ b
  | _ => a ++ b ++ c
set_option maxRecDepth 100000 in
set_option maxHeartbeats 1000000 in
theorem sconcat_any (g : Nat) (s0 s1 s2 : Value) (xs ys zs : List (Int × Int)) (t : TypeId) (fr : Nat × Nat) (w : World) (hg : w.heap[g]? = some (.cells #[s0, s1, s2] t fr)) (h0 : PairsAt w s0 xs) (h1 : PairsAt w s1 ys) (h2 : PairsAt w s2 zs) (n0 : xs.length ≤ 10000) (n1 : ys.length ≤ 10000) (n2 : zs.length ≤ 10000) :
    Calls Try.prog 19 #[.slice (some ⟨g, 0, none⟩) 3 3] w fun e w' => ∃ u, e = .returned u ∧ OwnTs w' w.heap.size u (xs ++ ys ++ zs) ∧ Ext w w' := by
  obtain ⟨i0, I0', I1', I2', I3'⟩ := info_parts Try.infoTimer
  have I0 := Lib.hid I0'
  have I1 := Lib.hid I1'
  have I2 := Lib.hid I2'
  have I3 := Lib.hid I3'
  clear I0' I1' I2' I3'
  have H0 := Lib.hid h0.rows
  have H1 := Lib.hid h1.rows
  have H2 := Lib.hid h2.rows
  obtain ⟨A0, c0, rfl, _⟩ := h0.rows.form
  obtain ⟨A1, c1, rfl, _⟩ := h1.rows.form
  obtain ⟨A2, c2, rfl, _⟩ := h2.rows.form
  have HG := Lib.hid hg
  clear hg h0 h1 h2
  have g0 := blk_cell HG.out 0 _ rfl
  have g1 := blk_cell HG.out 1 _ rfl
  have g2 := blk_cell HG.out 2 _ rfl
  go_enter Try.func19, Try.ntmps19
  go_wp2
  go_loop [3, 11] (fun sz i => ∃ k : Nat, k ≤ 3 ∧ i = .int .i64 k ∧ sz = .int .i64 (sum3 xs.length ys.length zs.length k)) (fun _ i => 3 - (intOf i).toNat)
  case atStart => exact ⟨0, by omega, rfl, rfl⟩
  case round =>
    obtain ⟨k, hk, rfl, rfl⟩ := hrel
    rcases (by omega : k = 0 ∨ k = 1 ∨ k = 2 ∨ k = 3) with rfl | rfl | rfl | rfl
    · simp only [sum3]
      go_wp2
      go_round
      case rel => exact ⟨1, by omega, by go_num, by simp only [sum3]; first | done | go_num⟩
      case measure => simp [intOf]
    · simp only [sum3]
      go_wp2
      go_round
      case rel => exact ⟨2, by omega, by go_num, by simp only [sum3]; first | done | go_num⟩
      case measure => simp [intOf]
    · simp only [sum3]
      go_wp2
      go_round
      case rel => exact ⟨3, by omega, by go_num, by simp only [sum3]; first | done | go_num⟩
      case measure => simp [intOf]
    · simp only [sum3]
      clear g0 g1 g2
      go_wp2_with fail
      refine (sgrow_any (xs.length + ys.length + zs.length) _ (by omega)).mono ?_
      rintro r w1 ⟨v, rfl, ho, hx⟩
      have HO := Lib.hid ho
      have HX := Lib.hid hx
      clear ho hx
      go_wp2
      go_loopw [6, 27] (fun vv i wr => ∃ (k : Nat) (v : Value), k ≤ 3 ∧ i = .int .i64 k ∧ v = vv ∧ OwnTs wr w.heap.size v (cat3 xs ys zs k) ∧ Ext w wr) (fun _ i _ => 3 - (intOf i).toNat)
      case atStart => exact ⟨0, v, by omega, rfl, rfl, HO.out, HX.out⟩
      case round =>
        clear HO HX
        obtain ⟨k, v, hk, rfl, rfl, ho, hx⟩ := hrel
        have g0 := blk_cell (hx.blk HG.out) 0 _ rfl
        have g1 := blk_cell (hx.blk HG.out) 1 _ rfl
        have g2 := blk_cell (hx.blk HG.out) 2 _ rfl
        have HX := Lib.hid hx
        clear hx
        rcases (by omega : k = 0 ∨ k = 1 ∨ k = 2 ∨ k = 3) with rfl | rfl | rfl | rfl
        · simp only [cat3] at ho
          obtain ⟨u, w2, hr, ho2, hg2⟩ := OwnRows.append (P := Try.prog) 22 Try.underlying22 I0.out I1.out I2.out I3.out rfl (by decide) pairL_len pairL_one ho (H0.out.ext HX.out) (by simp [maxLen]; omega) (by simp; omega) HX.out.size
          have HR := Lib.hid hr
          have HO2 := Lib.hid ho2
          have HX2 : Hid (Ext w w2) := Lib.hid (OwnRows.grown (W := w) ho HX.out hg2)
          clear hr ho2 hg2 ho
          go_wp2_with (at_builtin; refine wpList_append_run rfl _ _ 22 rfl _ _ rfl rfl HR.out ?_)
          go_roundw
          case rel => exact ⟨1, u, by omega, by go_num, rfl, HO2.out, HX2.out⟩
          case measure => simp [intOf]
        · simp only [cat3] at ho
          obtain ⟨u, w2, hr, ho2, hg2⟩ := OwnRows.append (P := Try.prog) 22 Try.underlying22 I0.out I1.out I2.out I3.out rfl (by decide) pairL_len pairL_one ho (H1.out.ext HX.out) (by simp [maxLen]; omega) (by omega) HX.out.size
          have HR := Lib.hid hr
          have HO2 := Lib.hid ho2
          have HX2 : Hid (Ext w w2) := Lib.hid (OwnRows.grown (W := w) ho HX.out hg2)
          clear hr ho2 hg2 ho
          go_wp2_with (at_builtin; refine wpList_append_run rfl _ _ 22 rfl _ _ rfl rfl HR.out ?_)
          go_roundw
          case rel => exact ⟨2, u, by omega, by go_num, rfl, HO2.out, HX2.out⟩
          case measure => simp [intOf]
        · simp only [cat3] at ho
          obtain ⟨u, w2, hr, ho2, hg2⟩ := OwnRows.append (P := Try.prog) 22 Try.underlying22 I0.out I1.out I2.out I3.out rfl (by decide) pairL_len pairL_one ho (H2.out.ext HX.out) (by simp [maxLen]; omega) (by simp; omega) HX.out.size
          have HR := Lib.hid hr
          have HO2 := Lib.hid ho2
          have HX2 : Hid (Ext w w2) := Lib.hid (OwnRows.grown (W := w) ho HX.out hg2)
          clear hr ho2 hg2 ho
          go_wp2_with (at_builtin; refine wpList_append_run rfl _ _ 22 rfl _ _ rfl rfl HR.out ?_)
          go_roundw
          case rel => exact ⟨3, u, by omega, by go_num, rfl, HO2.out, HX2.out⟩
          case measure => simp [intOf]
        · have HO := Lib.hid ho
          clear ho g0 g1 g2
          go_wp2
          go_ret
          exact ⟨_, rfl, HO.out, HX.out⟩

end Go.Proofs.Ytonnpmgnbmbooaa
