/-
  The walk of the statement EventLen: for every event and number it returns true.
-/
import Derived.Test.YtnomofnhfaeohaaEq
set_option linter.unusedVariables false
set_option linter.unusedSimpArgs false
namespace Go.Proofs.Ytnomofnhfaeohaa
open Go.RowKit

theorem evs_single (w : World) (a : Ev) (A : Option Addr) (c : Nat) (ha : IntsAt w (.slice A a.args.length c) a.args) :
    EvsAt (w.alloc (.cells #[.int .i64 a.kind, .int .i64 a.dt, .slice A a.args.length c, .string a.text] 24)) (.slice (some ⟨w.heap.size, 0, none⟩) 1 1) [a] := by
  refine ⟨_, 1, rfl, fun _ => ⟨w.heap.size, 0, rfl, by simp, fun j e hj => ?_⟩⟩
  have hn := blk_new w (.cells #[.int .i64 a.kind, .int .i64 a.dt, .slice A a.args.length c, .string a.text] 24)
  match j with
  | 0 =>
    simp at hj; subst hj
    exact ⟨A, c, blk_cell hn 0 _ rfl, blk_cell hn 1 _ rfl, blk_cell hn 2 _ rfl, blk_cell hn 3 _ rfl, ha.ext ((Ext.refl w).alloc _)⟩
  | j + 1 => simp at hj
theorem Ev.enc_ne {e : Ev} (h : e.may = true) : e.enc.toList.isEmpty = false ∧ ¬ e.enc.toList = [] ∧ 0 < e.enc.size := by
  have h1 : e.enc.toList = e.encL := by rw [ByteArray.toList_eq, Ev.enc_data h]
  rw [h1, Ev.enc_size h]
  unfold Ev.encL
  simp
/-- How long an event's bytes are. -/
def Ev.len (e : Ev) : Nat := 1 + (Va.put e.dt.toNat).length + e.tailL.length
theorem Ev.encL_len (e : Ev) : e.encL.length = e.len := by unfold Ev.encL Ev.len; rw [List.length_cons, List.length_append]; omega
theorem Ev.pz_put {x : Int} (h : Ev.ok x = true) : (Va.pz x).size = (Va.put x.toNat).length := by
  have := Ev.ok_wi.1 h
  unfold Wi.ok at this
  unfold Va.pz
  rw [if_pos this, Va.puts_size]
set_option maxRecDepth 100000 in
set_option maxHeartbeats 1000000 in
theorem elen_out (A : Option Addr) (c : Nat) (k d : Int) (xs : List Int) (t : ByteArray) (dt : Int) (w : World) (hI : IntsAt w (.slice A xs.length c) xs) (hn : xs.length ≤ maxLen) (ht : t.size ≤ 140737488351232) (sh : Bool) (hsh : Ev.short [⟨k, d, xs, t⟩] = sh) (E : ByteArray) (hE : Ev.enc ⟨k, d, xs, t⟩ = E)
    (ho : sh = false ∨ E = ⟨#[]⟩ ∨ (E.toList.isEmpty = false ∧ ¬ E.toList = [] ∧ (dt < 0 ∨ 4611686018427387904 ≤ dt))) :
    Calls Try.prog 5 #[.agg #[.int .i64 k, .int .i64 d, .slice A xs.length c, .string t], .int .i64 dt] w fun e w' => e = .returned (.bool true) ∧ Ext w w' := by
  have HSH := Lib.hid hsh
  have HE := Lib.hid hE
  clear hsh hE
  cases sh with
  | false =>
    clear ho
    have HI : Hid (∀ v, Ext (w.alloc (.cells #[.int .i64 k, .int .i64 d, .slice A xs.length c, .string t] 24)) v → IntsAt v (.slice A xs.length c) xs) := Lib.hid fun v hv => hI.ext (((Ext.refl w).alloc _).trans hv)
    have HA : Hid (∀ v, Ext (w.alloc (.cells #[.int .i64 k, .int .i64 d, .slice A xs.length c, .string t] 24)) v → BoxA w (.int .i64 k) (.int .i64 d) (.slice A xs.length c) (.string t) v w.heap.size) := Lib.hid fun v hv => ⟨Ext.box hv 0 _ rfl, Ext.box hv 1 _ rfl, Ext.box hv 2 _ rfl, Ext.box hv 3 _ rfl⟩
    clear hI
    go_enter Try.func5, Try.ntmps5
    go_wp2_with fail
    refine (encode_k k d xs t _ HE.out _ _ _ (HI.out _ (Ext.refl _)) (by unfold maxLen at hn; omega) ht).mono ?_
    rintro r w1 ⟨rfl, hx1⟩
    go_wp2_with fail
    refine (efixed_yes _).mono ?_
    rintro r w2 ⟨rfl, hx2⟩
    have HX2 : Hid (Ext (w.alloc (.cells #[.int .i64 k, .int .i64 d, .slice A xs.length c, .string t] 24)) w2) := Lib.hid (hx1.trans hx2)
    clear hx1 hx2
    obtain ⟨a0, a1, a2, a3⟩ := HA.out _ HX2.out
    go_wp2_with fail
    refine (short_eq _ _ _ HSH.out _ (evs_single _ ⟨k, d, xs, t⟩ A c (HI.out _ HX2.out)) (by simp)).mono ?_
    rintro r w3 ⟨rfl, rfl⟩
    clear a0 a1 a2 a3
    go_wp2_with fail
    refine (efixed_yes _).mono ?_
    rintro r w4 ⟨rfl, hx4⟩
    go_wp2
    go_ret
    exact ⟨rfl, (((Ext.refl w).alloc _).trans (HX2.out.alloc _)).trans hx4⟩
  | true =>
    rcases ho with ho | rfl | ⟨h1, h2, ho⟩
    · cases ho
    · skip
      have HI : Hid (∀ v, Ext (w.alloc (.cells #[.int .i64 k, .int .i64 d, .slice A xs.length c, .string t] 24)) v → IntsAt v (.slice A xs.length c) xs) := Lib.hid fun v hv => hI.ext (((Ext.refl w).alloc _).trans hv)
      have HA : Hid (∀ v, Ext (w.alloc (.cells #[.int .i64 k, .int .i64 d, .slice A xs.length c, .string t] 24)) v → BoxA w (.int .i64 k) (.int .i64 d) (.slice A xs.length c) (.string t) v w.heap.size) := Lib.hid fun v hv => ⟨Ext.box hv 0 _ rfl, Ext.box hv 1 _ rfl, Ext.box hv 2 _ rfl, Ext.box hv 3 _ rfl⟩
      clear hI
      go_enter Try.func5, Try.ntmps5
      go_wp2_with fail
      refine (encode_k k d xs t _ HE.out _ _ _ (HI.out _ (Ext.refl _)) (by unfold maxLen at hn; omega) ht).mono ?_
      rintro r w1 ⟨rfl, hx1⟩
      go_wp2_with fail
      refine (efixed_yes _).mono ?_
      rintro r w2 ⟨rfl, hx2⟩
      have HX2 : Hid (Ext (w.alloc (.cells #[.int .i64 k, .int .i64 d, .slice A xs.length c, .string t] 24)) w2) := Lib.hid (hx1.trans hx2)
      clear hx1 hx2
      obtain ⟨a0, a1, a2, a3⟩ := HA.out _ HX2.out
      go_wp2_with fail
      refine (short_eq _ _ _ HSH.out _ (evs_single _ ⟨k, d, xs, t⟩ A c (HI.out _ HX2.out)) (by simp)).mono ?_
      rintro r w3 ⟨rfl, rfl⟩
      clear a0 a1 a2 a3
      go_wp2_with fail
      refine (efixed_yes _).mono ?_
      rintro r w4 ⟨rfl, hx4⟩
      go_wp2
      go_ret
      exact ⟨rfl, (((Ext.refl w).alloc _).trans (HX2.out.alloc _)).trans hx4⟩
    · rcases (by omega : dt < 0 ∨ (0 ≤ dt ∧ 4611686018427387904 ≤ dt)) with h3 | ⟨h3, h4⟩
      · clear ho
        have HI : Hid (∀ v, Ext (w.alloc (.cells #[.int .i64 k, .int .i64 d, .slice A xs.length c, .string t] 24)) v → IntsAt v (.slice A xs.length c) xs) := Lib.hid fun v hv => hI.ext (((Ext.refl w).alloc _).trans hv)
        have HA : Hid (∀ v, Ext (w.alloc (.cells #[.int .i64 k, .int .i64 d, .slice A xs.length c, .string t] 24)) v → BoxA w (.int .i64 k) (.int .i64 d) (.slice A xs.length c) (.string t) v w.heap.size) := Lib.hid fun v hv => ⟨Ext.box hv 0 _ rfl, Ext.box hv 1 _ rfl, Ext.box hv 2 _ rfl, Ext.box hv 3 _ rfl⟩
        clear hI
        go_enter Try.func5, Try.ntmps5
        go_wp2_with fail
        refine (encode_k k d xs t _ HE.out _ _ _ (HI.out _ (Ext.refl _)) (by unfold maxLen at hn; omega) ht).mono ?_
        rintro r w1 ⟨rfl, hx1⟩
        go_wp2_with fail
        refine (efixed_yes _).mono ?_
        rintro r w2 ⟨rfl, hx2⟩
        have HX2 : Hid (Ext (w.alloc (.cells #[.int .i64 k, .int .i64 d, .slice A xs.length c, .string t] 24)) w2) := Lib.hid (hx1.trans hx2)
        clear hx1 hx2
        obtain ⟨a0, a1, a2, a3⟩ := HA.out _ HX2.out
        go_wp2_with fail
        refine (short_eq _ _ _ HSH.out _ (evs_single _ ⟨k, d, xs, t⟩ A c (HI.out _ HX2.out)) (by simp)).mono ?_
        rintro r w3 ⟨rfl, rfl⟩
        clear a0 a1 a2 a3
        go_wp2_with fail
        refine (efixed_yes _).mono ?_
        rintro r w4 ⟨rfl, hx4⟩
        go_wp2
        go_ret
        exact ⟨rfl, (((Ext.refl w).alloc _).trans (HX2.out.alloc _)).trans hx4⟩
      · clear ho
        have HI : Hid (∀ v, Ext (w.alloc (.cells #[.int .i64 k, .int .i64 d, .slice A xs.length c, .string t] 24)) v → IntsAt v (.slice A xs.length c) xs) := Lib.hid fun v hv => hI.ext (((Ext.refl w).alloc _).trans hv)
        have HA : Hid (∀ v, Ext (w.alloc (.cells #[.int .i64 k, .int .i64 d, .slice A xs.length c, .string t] 24)) v → BoxA w (.int .i64 k) (.int .i64 d) (.slice A xs.length c) (.string t) v w.heap.size) := Lib.hid fun v hv => ⟨Ext.box hv 0 _ rfl, Ext.box hv 1 _ rfl, Ext.box hv 2 _ rfl, Ext.box hv 3 _ rfl⟩
        clear hI
        go_enter Try.func5, Try.ntmps5
        go_wp2_with fail
        refine (encode_k k d xs t _ HE.out _ _ _ (HI.out _ (Ext.refl _)) (by unfold maxLen at hn; omega) ht).mono ?_
        rintro r w1 ⟨rfl, hx1⟩
        go_wp2_with fail
        refine (efixed_yes _).mono ?_
        rintro r w2 ⟨rfl, hx2⟩
        have HX2 : Hid (Ext (w.alloc (.cells #[.int .i64 k, .int .i64 d, .slice A xs.length c, .string t] 24)) w2) := Lib.hid (hx1.trans hx2)
        clear hx1 hx2
        obtain ⟨a0, a1, a2, a3⟩ := HA.out _ HX2.out
        go_wp2_with fail
        refine (short_eq _ _ _ HSH.out _ (evs_single _ ⟨k, d, xs, t⟩ A c (HI.out _ HX2.out)) (by simp)).mono ?_
        rintro r w3 ⟨rfl, rfl⟩
        clear a0 a1 a2 a3
        go_wp2_with fail
        refine (efixed_yes _).mono ?_
        rintro r w4 ⟨rfl, hx4⟩
        go_wp2
        go_ret
        exact ⟨rfl, (((Ext.refl w).alloc _).trans (HX2.out.alloc _)).trans hx4⟩

end Go.Proofs.Ytnomofnhfaeohaa
