/-
  Several texts in one: Sc.
-/
import Derived.Test.YtogcfndhcphpaaaK01
import Derived.Test.YtogcfndhcphpaaaK05
import Derived.Lib.SliceRun
/-
  Contracts of the library's Grow, Clone and Concat, at slices of timers.
-/
set_option linter.unusedVariables false
set_option linter.unusedSimpArgs false
namespace Go.Proofs.Ytogcfndhcphpaaa
open Go.RowKit

theorem Try.infoTimer : (Try.prog.info? 76).map (fun i => (i.zero, i.size, i.bytes)) = some (some (.agg #[.int .i64 0, .int .i64 0]), 2, 16) := by kernel_rfl
def pairL (p : Int × Int) : List Value := [.int .i64 p.1, .int .i64 p.2]
theorem pairL_len (p : Int × Int) : (pairL p).length = 2 := rfl
theorem pairL_one (p : Int × Int) : ∀ u ∈ pairL p, u.oneCell' = true := by intro u hu; simp [pairL] at hu; rcases hu with rfl | rfl <;> rfl
theorem PairsAt.rows {w : World} {v : Value} {xs : List (Int × Int)} (h : PairsAt w v xs) : RowsAt 2 pairL w v xs := by
  obtain ⟨A, c, rfl, hc, hA⟩ := h
  refine ⟨A, c, rfl, hc, fun h0 => ?_⟩
  obtain ⟨b, o, hb, hlt, hcell⟩ := hA h0
  refine ⟨b, o, hb, hlt, fun j p hj i u hu => ?_⟩
  match i with
  | 0 => simp [pairL] at hu; subst hu; exact (hcell j p hj).1
  | 1 => simp [pairL] at hu; subst hu; exact (hcell j p hj).2
  | i + 2 => simp [pairL] at hu
theorem RowsAt.pairs {w : World} {v : Value} {xs : List (Int × Int)} (h : RowsAt 2 pairL w v xs) : PairsAt w v xs := by
  obtain ⟨A, c, rfl, hc, hA⟩ := h
  refine ⟨A, c, rfl, hc, fun h0 => ?_⟩
  obtain ⟨b, o, hb, hlt, hcell⟩ := hA h0
  exact ⟨b, o, hb, hlt, fun j p hj => ⟨hcell j p hj 0 _ rfl, hcell j p hj 1 _ rfl⟩⟩
def OwnTs (w : World) (B : Nat) (v : Value) (xs : List (Int × Int)) : Prop := OwnRows 76 2 pairL w B v xs
theorem OwnTs.pairs {w : World} {B : Nat} {v : Value} {xs : List (Int × Int)} (h : OwnTs w B v xs) : PairsAt w v xs := (OwnRows.rows pairL_len h).pairs
set_option maxRecDepth 100000 in
set_option maxHeartbeats 1000000 in
theorem sclone_any (v : Value) (xs : List (Int × Int)) (w : World) (h : PairsAt w v xs) (hn : xs.length ≤ 1000000) : Calls Try.prog 101 #[v] w fun e w' => ∃ u, e = .returned u ∧ OwnTs w' w.heap.size u xs ∧ Ext w w' := by
  obtain ⟨i0, I0, I1, I2, I3⟩ := info_parts Try.infoTimer
  have hR := h.rows
  obtain ⟨A, c, rfl, hc⟩ := hR.form
  clear h
  cases A with
  | none =>
    have h0 : xs = [] := by
      obtain ⟨A', c', hv, _, hA⟩ := hR
      simp only [Value.slice.injEq] at hv
      cases xs with
      | nil => rfl
      | cons x xs => obtain ⟨b, o, hb, _⟩ := hA (by simp); rw [hb] at hv; simp at hv
    subst h0
    have hnil := fun (wx : World) (a : Option Addr) (n c : Nat) => Lib.run_eql_slice_nil (P := Try.prog) wx 30 76 a n c 0 0 Try.underlying30
    clear hR I0 I1 I2 I3
    go_enter Try.func101, Try.ntmps101
    go_wp2
    go_ret
    exact ⟨_, rfl, OwnRows.nil w _, Ext.refl _⟩
  | some a =>
    have hmade : OwnRows 76 2 pairL (w.alloc (.cells #[] 76)) w.heap.size (.slice (some ⟨w.heap.size, 0, none⟩) 0 0) [] := World.ownsRow_made (base := w.heap.size) (e := 76) (size := 2) w #[] 0 (Nat.le_refl _) (by decide) rfl
    obtain ⟨u, w1, hr, ho, hg⟩ := OwnRows.append (P := Try.prog) (e := 76) (m := 2) (f := pairL) (xs := []) 30 Try.underlying30 I0 I1 I2 I3 rfl (by decide) pairL_len pairL_one hmade (hR.ext ((Ext.refl w).alloc _)) (by simp [maxLen]; omega) (by simp; omega) (by simp)
    have HR := Lib.hid hr
    have HO := Lib.hid ho
    have HX : Hid (Ext w w1) := Lib.hid (OwnRows.grown (W := w) hmade ((Ext.refl w).alloc _) hg)
    have hnil := fun (wx : World) (a : Option Addr) (n c : Nat) => Lib.run_eql_slice_nil (P := Try.prog) wx 30 76 a n c 0 0 Try.underlying30
    clear hr ho hg hmade hR I0 I1 I2 I3
    go_enter Try.func101, Try.ntmps101
    go_wp2_with (at_builtin; refine wpList_append_run rfl _ _ 30 rfl _ _ rfl rfl HR.out ?_)
    go_ret
    exact ⟨_, rfl, HO.out, HX.out⟩
end Go.Proofs.Ytogcfndhcphpaaa
