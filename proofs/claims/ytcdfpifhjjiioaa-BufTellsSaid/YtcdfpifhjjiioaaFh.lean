/-
  Layer 19's own helper 'fixed': it returns true; the walk of the statement BufFull.
-/
import Derived.Test.YtcdfpifhjjiioaaFg
import Derived.Test.YtcdfpifhjjiioaaLb
set_option linter.unusedVariables false
set_option linter.unusedSimpArgs false
namespace Go.Proofs.Ytcdfpifhjjiioaa
open Go.RowKit

theorem Bu.E0 : Ev.may ⟨8, 0, [], ⟨#[]⟩⟩ = true ∧ Ev.enc ⟨8, 0, [], ⟨#[]⟩⟩ = ⟨#[8, 0]⟩ := Ev.enc_of_dec (L := [8, 0]) (by kernel_rfl)
theorem Bu.E5 : Ev.may ⟨8, 5, [], ⟨#[]⟩⟩ = true ∧ Ev.enc ⟨8, 5, [], ⟨#[]⟩⟩ = ⟨#[8, 5]⟩ := Ev.enc_of_dec (L := [8, 5]) (by kernel_rfl)
theorem Bu.F1 : Bu.put ⟨1, 0, 0, ⟨#[]⟩⟩ 100 ⟨8, 0, [], ⟨#[]⟩⟩ = (⟨1, 100, 100, ⟨#[8, 0]⟩⟩, true) := by
  rw [Bu.put_empty rfl (by decide)]
  simp only [Bu.E0.1, Bu.E0.2, if_true]
  rfl
theorem Bu.F2 : Bu.put ⟨1, 100, 100, ⟨#[8, 0]⟩⟩ 105 ⟨8, 0, [], ⟨#[]⟩⟩ = (⟨1, 100, 105, ⟨#[8, 0, 8, 5]⟩⟩, true) := by
  rw [Bu.put_more (by decide) (by decide) (by decide)]
  have hw : IntKind.i64.wrap (105 - 100) = 5 := by rfl
  simp only [hw, Bu.E5.1, Bu.E5.2, if_true]
  rfl
theorem Bu.F3 : Bu.put ⟨1, 100, 105, ⟨#[8, 0, 8, 5]⟩⟩ 104 ⟨8, 0, [], ⟨#[]⟩⟩ = (⟨0, 0, 0, ⟨#[]⟩⟩, false) := Bu.put_early (by decide) (by decide)
theorem Bu.F4 : Bu.seal ⟨1, 100, 105, ⟨#[8, 0, 8, 5]⟩⟩ 3 = (⟨3, 2, 100, ⟨#[8, 0, 8, 5]⟩⟩, ⟨1, 0, 0, ⟨#[]⟩⟩, true) := by kernel_rfl
theorem Bu.F5 : Bu.seal ⟨1, 0, 0, ⟨#[]⟩⟩ 3 = (⟨0, 0, 0, ⟨#[]⟩⟩, ⟨0, 0, 0, ⟨#[]⟩⟩, false) := by kernel_rfl
def C4' (x : Nat) (g st ba : Int) (bo : ByteArray) (v : World) : Prop := v.cell? ⟨x, 0, none⟩ = some (.int .i64 g) ∧ v.cell? ⟨x, 1, none⟩ = some (.int .i64 st) ∧ v.cell? ⟨x, 2, none⟩ = some (.int .i64 ba) ∧ v.cell? ⟨x, 3, none⟩ = some (.string bo)
theorem ints_no (w : World) : IntsAt w (.slice none 0 0) [] := ⟨none, 0, rfl, fun h => by simp at h⟩
theorem bfull_eq (m ba la : Int) (bo : ByteArray) (n : Int) (r : Bool) (h : decide (n ≤ (bo.size : Int)) = r) (w : World) : Calls Try.prog 14 #[.agg #[.int .i64 m, .int .i64 ba, .int .i64 la, .string bo], .int .i64 n] w fun x w' => x = .returned (.bool r) ∧ Ext w w' := by
  subst h; exact bfull_any m ba la bo n w
set_option maxRecDepth 100000 in
set_option maxHeartbeats 4000000 in
theorem ufixed_gen (b2 b4 : ByteArray) (F1 : Bu.put ⟨1, 0, 0, ⟨#[]⟩⟩ 100 ⟨8, 0, [], ⟨#[]⟩⟩ = (⟨1, 100, 100, b2⟩, true)) (F2 : Bu.put ⟨1, 100, 100, b2⟩ 105 ⟨8, 0, [], ⟨#[]⟩⟩ = (⟨1, 100, 105, b4⟩, true)) (F3 : Bu.put ⟨1, 100, 105, b4⟩ 104 ⟨8, 0, [], ⟨#[]⟩⟩ = (⟨0, 0, 0, ⟨#[]⟩⟩, false))
    (F4 : Bu.seal ⟨1, 100, 105, b4⟩ 3 = (⟨3, 2, 100, b4⟩, ⟨1, 0, 0, ⟨#[]⟩⟩, true)) (h2 : b2.size = 2) (h4 : b4.size = 4) (hb4 : b4.toList = [8, 0, 8, 5]) (w : World) : Calls Try.prog 9 #[] w fun e w' => e = .returned (.bool true) ∧ Ext w w' := by
  have G1 := Lib.hid F1
  have G2 := Lib.hid F2
  have G3 := Lib.hid F3
  have G4 := Lib.hid F4
  have H2 := Lib.hid h2
  have H4 := Lib.hid h4
  have HB4 := Lib.hid hb4
  clear F1 F2 F3 F4 h2 h4 hb4
  go_enter Try.func9, Try.ntmps9
  go_wp2_with fail
  refine (bput_k 1 0 0 _ 100 8 0 [] _ _ _ _ _ _ G1.out none 0 _ (by decide) (ints_no _) (by simp) (by decide)).mono ?_
  rintro r w1 ⟨rfl, hx1⟩
  go_wp2_with fail
  refine (bput_k 1 100 100 _ 105 8 0 [] _ _ _ _ _ _ G2.out none 0 _ (by have := H2.out; omega) (ints_no _) (by simp) (by decide)).mono ?_
  rintro r w2 ⟨rfl, hx2⟩
  go_wp2_with fail
  refine (bput_k 1 100 105 _ 104 8 0 [] _ _ _ _ _ _ G3.out none 0 _ (by have := H4.out; omega) (ints_no _) (by simp) (by decide)).mono ?_
  rintro r w3 ⟨rfl, hx3⟩
  have HX1 := Lib.hid hx1
  have HX2 := Lib.hid hx2
  have HB3 : Hid (Ext (w2.alloc (.cells #[.int .i64 1, .int .i64 100, .int .i64 105, .string b4] 23)) (w3.alloc (.cells #[.int .i64 0, .int .i64 0, .int .i64 0, .string ⟨#[]⟩] 23))) := Lib.hid (hx3.alloc _)
  clear hx1 hx2 hx3
  obtain ⟨b0, b1, b2', b3⟩ : C4' w2.heap.size 1 100 105 b4 (w3.alloc (.cells #[.int .i64 0, .int .i64 0, .int .i64 0, .string ⟨#[]⟩] 23)) := ⟨Ext.box HB3.out 0 (.int .i64 1) rfl, Ext.box HB3.out 1 (.int .i64 100) rfl, Ext.box HB3.out 2 (.int .i64 105) rfl, Ext.box HB3.out 3 (.string b4) rfl⟩
  go_wp2_with fail
  refine (bseal_k 1 100 105 b4 3 _ _ _ _ _ _ _ _ _ G4.out _).mono ?_
  rintro r w4 ⟨rfl, hx4⟩
  have HX4 := Lib.hid hx4
  clear b0 b1 b2' b3 hx4
  go_wp2_with fail
  refine (bseal_k 1 0 0 _ 3 _ _ _ _ _ _ _ _ _ Bu.F5 _).mono ?_
  rintro r w5 ⟨rfl, hx5⟩
  have HC : Hid (Ext ((w4.alloc (.cells #[.int .i64 3, .int .i64 2, .int .i64 100, .string b4] 35)).alloc (.cells #[.int .i64 1, .int .i64 0, .int .i64 0, .string ⟨#[]⟩] 23)) ((w5.alloc (.cells #[.int .i64 0, .int .i64 0, .int .i64 0, .string ⟨#[]⟩] 35)).alloc (.cells #[.int .i64 0, .int .i64 0, .int .i64 0, .string ⟨#[]⟩] 23))) := Lib.hid ((hx5.alloc _).alloc _)
  clear hx5
  have HXX : Hid (Ext (w4.alloc (.cells #[.int .i64 3, .int .i64 2, .int .i64 100, .string b4] 35)) ((w5.alloc (.cells #[.int .i64 0, .int .i64 0, .int .i64 0, .string ⟨#[]⟩] 35)).alloc (.cells #[.int .i64 0, .int .i64 0, .int .i64 0, .string ⟨#[]⟩] 23))) := Lib.hid (((Ext.refl _).alloc _).trans HC.out)
  have HBB : Hid (Ext (w2.alloc (.cells #[.int .i64 1, .int .i64 100, .int .i64 105, .string b4] 23)) ((w5.alloc (.cells #[.int .i64 0, .int .i64 0, .int .i64 0, .string ⟨#[]⟩] 35)).alloc (.cells #[.int .i64 0, .int .i64 0, .int .i64 0, .string ⟨#[]⟩] 23))) := Lib.hid (HB3.out.trans (HX4.out.trans (((Ext.refl w4).alloc _).trans HXX.out)))
  have b0 := Ext.box HBB.out 0 (.int .i64 1) rfl
  have b1 := Ext.box HBB.out 1 (.int .i64 100) rfl
  have b2' := Ext.box HBB.out 2 (.int .i64 105) rfl
  have b3 := Ext.box HBB.out 3 (.string b4) rfl
  have x0 := Ext.box HXX.out 0 (.int .i64 3) rfl
  have x1 := Ext.box HXX.out 1 (.int .i64 2) rfl
  have x2 := Ext.box HXX.out 2 (.int .i64 100) rfl
  have x3 := Ext.box HXX.out 3 (.string b4) rfl
  have c0 := Ext.box HC.out 0 (.int .i64 1) rfl
  have c1 := Ext.box HC.out 1 (.int .i64 0) rfl
  have c2 := Ext.box HC.out 2 (.int .i64 0) rfl
  have c3 := Ext.box HC.out 3 (.string ⟨#[]⟩) rfl
  rw [World.size_alloc] at c0 c1 c2 c3
  have hb4 := HB4.out
  go_wp2_with fail
  refine (bfull_eq 1 100 105 b4 4 true (by rw [H4.out]; rfl) _).mono ?_
  rintro r w6 ⟨rfl, hx6⟩
  have HW6 := Lib.hid (HBB.out.trans hx6)
  clear b0 b1 b2' b3 x0 x1 x2 x3 c0 c1 c2 c3 hx6
  have b0 := Ext.box HW6.out 0 (.int .i64 1) rfl
  have b1 := Ext.box HW6.out 1 (.int .i64 100) rfl
  have b2' := Ext.box HW6.out 2 (.int .i64 105) rfl
  have b3 := Ext.box HW6.out 3 (.string b4) rfl
  go_wp2_with fail
  refine (bfull_eq 1 100 105 b4 5 false (by rw [H4.out]; rfl) _).mono ?_
  rintro r w7 ⟨rfl, hx7⟩
  go_wp2
  go_ret
  exact ⟨rfl, HX1.out.trans (((Ext.refl w1).alloc _).trans (HX2.out.trans (((Ext.refl w2).alloc _).trans (HW6.out.trans hx7))))⟩
theorem ufixed_yes (w : World) : Calls Try.prog 9 #[] w fun e w' => e = .returned (.bool true) ∧ Ext w w' :=
  ufixed_gen ⟨#[8, 0]⟩ ⟨#[8, 0, 8, 5]⟩ Bu.F1 Bu.F2 Bu.F3 Bu.F4 rfl rfl (by rw [ByteArray.toList_eq]) w

end Go.Proofs.Ytcdfpifhjjiioaa
