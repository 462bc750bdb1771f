/-
  Contracts of the document's Fits, right and May (layer 8).
-/
import Derived.Test.YthkogcgdikgkaaaMe
import Derived.Test.YthkogcgdikgkaaaGe
set_option linter.unusedVariables false
set_option linter.unusedSimpArgs false
namespace Go.Proofs.Ythkogcgdikgkaaa
open Go.RowKit Go.Maps

set_option maxRecDepth 100000 in
set_option maxHeartbeats 1000000 in
theorem rfit_any (n : Int) (r : Bool) (hr : snNum n = r) (w : World) : Calls Try.prog 27 #[.int .i64 n] w fun e w' => e = .returned (.bool r) ∧ w = w' := by
  have HR := Lib.hid hr
  clear hr
  by_cases h0 : n < 0
  · obtain rfl : r = false := by rw [← HR.out]; unfold snNum; simp; omega
    go_enter Try.func27, Try.ntmps27
    go_wp2
    go_ret
    exact ⟨rfl, rfl⟩
  · have h0' : 0 ≤ n := by omega
    by_cases h1 : 4611686018427387904 ≤ n
    · obtain rfl : r = false := by rw [← HR.out]; unfold snNum; simp; omega
      go_enter Try.func27, Try.ntmps27
      go_wp2
      go_ret
      exact ⟨by first | rfl | (simp; done) | (simp; omega), rfl⟩
    · have h1' : n < 4611686018427387904 := by omega
      obtain rfl : r = true := by rw [← HR.out]; exact (snNum_iff n).2 ⟨h0', h1'⟩
      go_enter Try.func27, Try.ntmps27
      go_wp2
      go_ret
      exact ⟨by first | rfl | (simp; done) | (simp; omega), rfl⟩
/-- May a G be, of a snap? -/
def snRight (ps : List (Int × Int)) (gs : List Gs4) (st m : Int) : Bool :=
  if st = 1 ∨ st = 3 then decide (m = 0)
  else if m = 0 ∨ cntG gs m ≠ 1 then false
  else (decide (st = 2) && decide (cntP ps m = 1)) || (decide (st = 4) && decide (cntP ps m = 0))
set_option maxRecDepth 100000 in
set_option maxHeartbeats 1000000 in
theorem rright_any (time : Int) (ps : List (Int × Int)) (gs : List Gs4) (A B : Option Addr) (c d : Nat) (g st m q : Int) (w : World) (h2 : RowsAt 2 snPCells w (.slice A ps.length c) ps) (h3 : RowsAt 4 snGCells w (.slice B gs.length d) gs) (hp : ps.length ≤ 10000) (hg : gs.length ≤ 10000) (r : Bool) (hr : snRight ps gs st m = r) :
    Calls Try.prog 28 #[.agg #[.int .i64 time, .slice A ps.length c, .slice B gs.length d], .agg #[.int .i64 g, .int .i64 st, .int .i64 m, .int .i64 q]] w fun e w' => e = .returned (.bool r) ∧ Ext w w' := by
  have H2 := Lib.hid h2
  have H3 := Lib.hid h3
  have HR := Lib.hid hr
  have HX2 : Hid (Ext w ((w.alloc (.cells #[.int .i64 time, .slice A ps.length c, .slice B gs.length d] 25)).alloc (.cells #[.int .i64 g, .int .i64 st, .int .i64 m, .int .i64 q] 36))) := Lib.hid (((Ext.refl w).alloc _).alloc _)
  clear h2 h3 hr
  by_cases h1 : st = 1
  · have e1 : (st == 1) = true := by simp [h1]
    obtain rfl : r = (m == 0) := by rw [← HR.out]; unfold snRight; rw [if_pos (.inl h1)]; rfl
    clear h1
    go_enter Try.func28, Try.ntmps28
    go_wp2
    go_ret
    exact ⟨rfl, HX2.out⟩
  · by_cases h3 : st = 3
    · have e1 : (st == 1) = false := by simp [h1]
      have e3 : (st == 3) = true := by simp [h3]
      obtain rfl : r = (m == 0) := by rw [← HR.out]; unfold snRight; rw [if_pos (.inr h3)]; rfl
      clear h1 h3
      go_enter Try.func28, Try.ntmps28
      go_wp2
      go_ret
      exact ⟨rfl, HX2.out⟩
    · have e1 : (st == 1) = false := by simp [h1]
      have e3 : (st == 3) = false := by simp [h3]
      have HQ : Hid ((if m = 0 ∨ cntG gs m ≠ 1 then false else (decide (st = 2) && decide (cntP ps m = 1)) || (decide (st = 4) && decide (cntP ps m = 0))) = r) := Lib.hid (by rw [← HR.out]; unfold snRight; rw [if_neg (by omega : ¬ (st = 1 ∨ st = 3))])
      clear h1 h3
      have hgl := cntG_le gs m
      have hpl := cntP_le ps m
      generalize hcg : cntG gs m = ng at *
      generalize hcp : cntP ps m = np at *
      have HCG := Lib.hid hcg
      have HCP := Lib.hid hcp
      clear hcg hcp
      by_cases hm0 : m = 0
      · have e0 : (m == 0) = true := by simp [hm0]
        obtain rfl : r = false := by rw [← HQ.out, if_pos (.inl hm0)]
        clear hm0
        go_enter Try.func28, Try.ntmps28
        go_wp2
        go_ret
        exact ⟨rfl, HX2.out⟩
      · have e0 : (m == 0) = false := by simp [hm0]
        have hasK : ∀ w1, RowsAt 4 snGCells w1 (.slice B gs.length d) gs → Calls Try.prog 38 #[.slice B gs.length d, .int .i64 m] w1 fun e w' => e = .returned (.int .i64 (ng : Nat)) ∧ w1 = w' := fun w1 h => by rw [← HCG.out]; exact rhas_any _ gs m w1 h (by omega)
        have holdK : ∀ w1, RowsAt 2 snPCells w1 (.slice A ps.length c) ps → Calls Try.prog 17 #[.slice A ps.length c, .int .i64 m] w1 fun e w' => e = .returned (.int .i64 (np : Nat)) ∧ w1 = w' := fun w1 h => by rw [← HCP.out]; exact rholds_any _ ps m w1 h (by omega)
        have HASK := Lib.hid hasK
        have HOLDK := Lib.hid holdK
        clear hasK holdK
        by_cases hg1 : ng = 1
        · have g1 : ((ng : Int) != 1) = false := by simp; omega
          have HQ2 : Hid ((decide (st = 2) && decide (np = 1) || decide (st = 4) && decide (np = 0)) = r) := Lib.hid (by rw [← HQ.out, if_neg (by omega)])
          clear hm0 hg1
          have hcase : (st = 2 ∧ np = 1) ∨ (st = 2 ∧ np ≠ 1) ∨ (st ≠ 2 ∧ st = 4 ∧ np = 0) ∨ (st ≠ 2 ∧ st = 4 ∧ np ≠ 0) ∨ (st ≠ 2 ∧ st ≠ 4) := by omega
          rcases hcase with ⟨k1, k2⟩ | ⟨k1, k2⟩ | ⟨k1, k2, k3⟩ | ⟨k1, k2, k3⟩ | ⟨k1, k2⟩
          · have b1 : (st == 2) = true := by simp [k1]
            have b2 : ((np : Int) == 1) = true := by simp [k2]
            obtain rfl : r = true := by rw [← HQ2.out]; simp [k1, k2]
            clear k1 k2
            (try clear k3)
            go_enter Try.func28, Try.ntmps28
            go_wp2_with (first | (go_at_call 38; refine (HASK.out _ (H3.out.ext HX2.out)).mono ?_; rintro e w' ⟨rfl, rfl⟩) | (go_at_call 17; refine (HOLDK.out _ (H2.out.ext HX2.out)).mono ?_; rintro e w' ⟨rfl, rfl⟩))
            go_ret
            exact ⟨rfl, HX2.out⟩
          · have b1 : (st == 2) = true := by simp [k1]
            have b2 : ((np : Int) == 1) = false := by simp; omega
            have b4 : (st == 4) = false := by simp [k1]
            obtain rfl : r = false := by rw [← HQ2.out]; simp [k1, k2]
            clear k1 k2
            (try clear k3)
            go_enter Try.func28, Try.ntmps28
            go_wp2_with (first | (go_at_call 38; refine (HASK.out _ (H3.out.ext HX2.out)).mono ?_; rintro e w' ⟨rfl, rfl⟩) | (go_at_call 17; refine (HOLDK.out _ (H2.out.ext HX2.out)).mono ?_; rintro e w' ⟨rfl, rfl⟩))
            go_ret
            exact ⟨rfl, HX2.out⟩
          · have b1 : (st == 2) = false := by simp [k1]
            have b2 : (st == 4) = true := by simp [k2]
            have b3 : ((np : Int) == 0) = true := by simp [k3]
            obtain rfl : r = true := by rw [← HQ2.out]; simp [k2, k3]
            clear k1 k2
            (try clear k3)
            go_enter Try.func28, Try.ntmps28
            go_wp2_with (first | (go_at_call 38; refine (HASK.out _ (H3.out.ext HX2.out)).mono ?_; rintro e w' ⟨rfl, rfl⟩) | (go_at_call 17; refine (HOLDK.out _ (H2.out.ext HX2.out)).mono ?_; rintro e w' ⟨rfl, rfl⟩))
            go_ret
            exact ⟨rfl, HX2.out⟩
          · have b1 : (st == 2) = false := by simp [k1]
            have b2 : (st == 4) = true := by simp [k2]
            have b3 : ((np : Int) == 0) = false := by simp; omega
            obtain rfl : r = false := by rw [← HQ2.out]; simp [k2, k3]
            clear k1 k2
            (try clear k3)
            go_enter Try.func28, Try.ntmps28
            go_wp2_with (first | (go_at_call 38; refine (HASK.out _ (H3.out.ext HX2.out)).mono ?_; rintro e w' ⟨rfl, rfl⟩) | (go_at_call 17; refine (HOLDK.out _ (H2.out.ext HX2.out)).mono ?_; rintro e w' ⟨rfl, rfl⟩))
            go_ret
            exact ⟨rfl, HX2.out⟩
          · have b1 : (st == 2) = false := by simp [k1]
            have b2 : (st == 4) = false := by simp [k2]
            obtain rfl : r = false := by rw [← HQ2.out]; simp [k1, k2]
            clear k1 k2
            (try clear k3)
            go_enter Try.func28, Try.ntmps28
            go_wp2_with (first | (go_at_call 38; refine (HASK.out _ (H3.out.ext HX2.out)).mono ?_; rintro e w' ⟨rfl, rfl⟩) | (go_at_call 17; refine (HOLDK.out _ (H2.out.ext HX2.out)).mono ?_; rintro e w' ⟨rfl, rfl⟩))
            go_ret
            exact ⟨rfl, HX2.out⟩
        · have g1 : ((ng : Int) != 1) = true := by simp; omega
          obtain rfl : r = false := by rw [← HQ.out, if_pos (.inr hg1)]
          clear hm0 hg1
          go_enter Try.func28, Try.ntmps28
          go_wp2_with (first | (go_at_call 38; refine (HASK.out _ (H3.out.ext HX2.out)).mono ?_; rintro e w' ⟨rfl, rfl⟩) | (go_at_call 17; refine (HOLDK.out _ (H2.out.ext HX2.out)).mono ?_; rintro e w' ⟨rfl, rfl⟩))
          go_ret
          exact ⟨rfl, HX2.out⟩

end Go.Proofs.Ythkogcgdikgkaaa
