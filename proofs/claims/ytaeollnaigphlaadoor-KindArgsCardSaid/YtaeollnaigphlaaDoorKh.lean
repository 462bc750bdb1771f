/-
  A table of kinds: sync.Once's Do.
-/
import Derived.Test.YtaeollnaigphlaaDoorKg
import Derived.Laws.NewBlocks
set_option linter.unusedVariables false
set_option linter.unusedSimpArgs false
namespace Go.Proofs.YtaeollnaigphlaaDoor
open Go.RowKit Go.Maps

def KDoneP (b : Nat) (n : Int) (w : World) (e : Ending) (w' : World) : Prop := ∃ mb, e = .returned (.tuple #[]) ∧ KBox w' b 1 0 (.map (some mb)) n ∧ RowMap w' mb 256 Ki.row ∧ Upd b w w' ∧ w.heap.size ≤ mb
theorem kload_any (a : Addr) (x : Int) (r : Bool) (hr : (x != 0) = r) (w : World) (hc : w.cell? a = some (.int .u32 x)) : Calls Tryd.prog 33 #[.pointer (some a)] w fun e w' => e = .returned (.bool r) ∧ w' = w := by
  have hl := run_call_load (P := Tryd.prog) Tryd.func39 (by kernel_rfl) (by kernel_rfl) (by kernel_rfl) .u32 (by kernel_rfl) hc
  go_enter Tryd.func33, Tryd.ntmps33
  go_wp2
  go_ret
  subst hr
  exact ⟨rfl, rfl⟩
set_option maxRecDepth 100000 in
set_option maxHeartbeats 2000000 in
theorem kslow_any (b p : Nat) (n : Int) (r0 : Value) (w0 w : World) (ht : Tab w0) (hw0 : Upd b w0 w) (htb : w0.heap.size ≤ b) (hp : w.cell? ⟨p, 0, none⟩ = some (.pointer (some ⟨b, 0, none⟩))) (hpb : p ≠ b) (hb : KBox w b 0 0 r0 n) :
    Calls Tryd.prog 34 #[.pointer (some ⟨b, 0, none⟩), .func (.func 30) #[] #[.pointer (some ⟨p, 0, none⟩)]] w (KDoneP b n w) := by
  have HT := Lib.hid ht
  have HW0 := Lib.hid hw0
  have HTB := Lib.hid htb
  have HP := Lib.hid hp
  obtain ⟨w1, hw1⟩ : ∃ w1, w.setCell ⟨b, 1, none⟩ (.int .i32 1) = w1 := ⟨_, rfl⟩
  have HB1 : Hid (KBox w1 b 0 1 r0 n) := Lib.hid (by rw [← hw1]; exact blk_set hb 1 _)
  have HU1 : Hid (Upd b w w1) := Lib.hid (by rw [← hw1]; exact (Upd.refl b w).set 1 _)
  have HL := Lib.hid (klock_free ⟨b, 1, none⟩ w (blk_cell hb 1 _ rfl) (frozen_of_row _ _ 1 _ _ hb))
  rw [hw1] at HL
  have HP1 : Hid (w1.cell? ⟨p, 0, none⟩ = some (.pointer (some ⟨b, 0, none⟩))) := Lib.hid (World.grownBy.cell HU1.out hp (by simpa using hpb))
  have HLD := Lib.hid (kload_any ⟨b, 0, none⟩ 0 false rfl w1 (blk_cell HB1.out 0 _ rfl))
  have hnot : ∀ (x : Bool) (w : World), (Op.unary .not (.bool x)).run Tryd.prog w = .ok (.bool (!x)) w := fun _ _ => rfl
  have HCL := Lib.hid (kclos_any b p 0 1 n r0 w0 w1 ht (hw0.trans HU1.out) htb HP1.out hpb HB1.out)
  clear ht hw0 htb hp hw1 hb
  go_enter_defers Tryd.func34, Tryd.ntmps34
  go_wp2_with fail
  refine HL.out.mono ?_
  rintro e w' ⟨rfl, rfl⟩
  go_wp2_with fail
  refine HLD.out.mono ?_
  rintro e w'' ⟨rfl, rfl⟩
  go_wp2_with fail
  refine HCL.out.mono ?_
  rintro e w2 ⟨mb, rfl, hk, hm, hu, hmb⟩
  have HK2 := Lib.hid hk
  have HM2 := Lib.hid hm
  have HU2 := Lib.hid hu
  clear hk hm hu
  have k3 : KBox (w2.drew.setCell ⟨b, 0, none⟩ (.int .u32 1)) b 1 1 (.map (some mb)) n := blk_set (w := w2.drew) HK2.out 0 _
  have k4 : KBox ((w2.drew.setCell ⟨b, 0, none⟩ (.int .u32 1)).setCell ⟨b, 1, none⟩ (.int .i32 0)) b 1 0 (.map (some mb)) n := blk_set k3 1 _
  have HK3 := Lib.hid k3
  have HK4 := Lib.hid k4
  have HU4 : Hid (Upd b w2 ((w2.drew.setCell ⟨b, 0, none⟩ (.int .u32 1)).setCell ⟨b, 1, none⟩ (.int .i32 0))) := Lib.hid (((Upd.refl b w2).drew.set 0 _).set 1 _)
  clear k3 k4
  go_wp2
  refine leaves_cons (f := 42) (args := #[.pointer (some ⟨b, 0, none⟩), .bool true]) (by simp) (by simp [go_sem]) ?_
  refine (kstore_deferred ⟨b, 0, none⟩ (.int .u32 0) .returning w2 (blk_cell HK2.out 0 _ rfl) (frozen_of_row _ _ 0 _ _ HK2.out)).mono ?_
  rintro e u' w3 ⟨rfl, rfl, rfl⟩
  refine leaves_cons (f := 41) (args := #[.pointer (some ⟨b, 1, none⟩)]) (by simp [settle]) (by simp [go_sem]) ?_
  refine (kunlock_deferred ⟨b, 1, none⟩ _ _ (blk_cell HK3.out 1 _ rfl) (frozen_of_row _ _ 1 _ _ HK3.out)).mono ?_
  rintro e u' w4 ⟨rfl, rfl, rfl⟩
  simp only [Leaves, settle, results, Tryd.results34]
  refine ⟨.tuple #[], by simp, mb, rfl, HK4.out, HM2.out.upd HU4.out (by have := blk_lt HB1.out; omega), HU1.out.trans (HU2.out.trans HU4.out), by have := HU1.out.size; omega⟩
theorem kdo_first (b p : Nat) (n : Int) (r0 : Value) (w0 w : World) (ht : Tab w0) (hw0 : Upd b w0 w) (htb : w0.heap.size ≤ b) (hp : w.cell? ⟨p, 0, none⟩ = some (.pointer (some ⟨b, 0, none⟩))) (hpb : p ≠ b) (hb : KBox w b 0 0 r0 n) :
    Calls Tryd.prog 29 #[.pointer (some ⟨b, 0, none⟩), .func (.func 30) #[] #[.pointer (some ⟨p, 0, none⟩)]] w (KDoneP b n w) := by
  have HS := Lib.hid (kslow_any b p n r0 w0 w ht hw0 htb hp hpb hb)
  have HLD := Lib.hid (kload_any ⟨b, 0, none⟩ 0 false rfl w (blk_cell hb 0 _ rfl))
  have hnot : ∀ (x : Bool) (w : World), (Op.unary .not (.bool x)).run Tryd.prog w = .ok (.bool (!x)) w := fun _ _ => rfl
  clear ht hw0 htb hp hb
  go_enter Tryd.func29, Tryd.ntmps29
  go_wp2_with fail
  refine HLD.out.mono ?_
  rintro e w'' ⟨rfl, rfl⟩
  go_wp2_with fail
  refine HS.out.mono ?_
  rintro e w2 ⟨mb, rfl, hk, hm, hu, hmb⟩
  go_wp2
  go_end0
  exact ⟨mb, rfl, hk, hm, hu, hmb⟩
theorem kdo_done (b : Nat) (n st : Int) (r0 fv : Value) (w : World) (hb : KBox w b 1 st r0 n) :
    Calls Tryd.prog 29 #[.pointer (some ⟨b, 0, none⟩), fv] w fun e w' => e = .returned (.tuple #[]) ∧ w' = w := by
  have HLD := Lib.hid (kload_any ⟨b, 0, none⟩ 1 true rfl w (blk_cell hb 0 _ rfl))
  have hnot : ∀ (x : Bool) (w : World), (Op.unary .not (.bool x)).run Tryd.prog w = .ok (.bool (!x)) w := fun _ _ => rfl
  clear hb
  go_enter Tryd.func29, Tryd.ntmps29
  go_wp2_with fail
  refine HLD.out.mono ?_
  rintro e w'' ⟨rfl, rfl⟩
  go_wp2
  go_end0
  exact ⟨rfl, rfl⟩

end Go.Proofs.YtaeollnaigphlaaDoor
