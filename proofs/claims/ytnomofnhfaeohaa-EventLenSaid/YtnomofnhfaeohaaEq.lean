/-
  The walk of the statement EventApart: for every two events it returns true.
-/
import Derived.Test.YtnomofnhfaeohaaEp
import Derived.Test.YtnomofnhfaeohaaLe
set_option linter.unusedVariables false
set_option linter.unusedSimpArgs false
namespace Go.Proofs.Ytnomofnhfaeohaa
open Go.RowKit

theorem Ev.enc_inj {a b : Ev} (ha : a.may = true) (hb : b.may = true) (ta : a.text.size < Va.most) (tb : b.text.size < Va.most) : (a.enc.toList == b.enc.toList) = Ev.sameB a b := by
  by_cases h : a = b
  · subst h
    rw [(Ev.sameB_iff a a).2 rfl]; exact beq_self_eq_true _
  · have h1 : Ev.sameB a b = false := by
      cases hs : Ev.sameB a b with
      | false => rfl
      | true => exact absurd ((Ev.sameB_iff a b).1 hs) h
    rw [h1, beq_eq_false_iff_ne]
    intro he
    rw [ByteArray.toList_eq, ByteArray.toList_eq, Ev.enc_data ha, Ev.enc_data hb] at he
    have e1 := Ev.dec_enc ha ta []
    have e2 := Ev.dec_enc hb tb []
    rw [he, e2] at e1
    simp at e1
    exact h e1.symm
theorem evs_two (w : World) (a b : Ev) (A B : Option Addr) (c c' : Nat) (ha : IntsAt w (.slice A a.args.length c) a.args) (hb : IntsAt w (.slice B b.args.length c') b.args) :
    EvsAt (w.alloc (.cells #[.int .i64 a.kind, .int .i64 a.dt, .slice A a.args.length c, .string a.text, .int .i64 b.kind, .int .i64 b.dt, .slice B b.args.length c', .string b.text] 24)) (.slice (some ⟨w.heap.size, 0, none⟩) 2 2) [a, b] := by
  refine ⟨_, 2, rfl, fun _ => ⟨w.heap.size, 0, rfl, by simp, fun j e hj => ?_⟩⟩
  have hn := blk_new w (.cells #[.int .i64 a.kind, .int .i64 a.dt, .slice A a.args.length c, .string a.text, .int .i64 b.kind, .int .i64 b.dt, .slice B b.args.length c', .string b.text] 24)
  match j with
  | 0 =>
    simp at hj; subst hj
    exact ⟨A, c, blk_cell hn 0 _ rfl, blk_cell hn 1 _ rfl, blk_cell hn 2 _ rfl, blk_cell hn 3 _ rfl, ha.ext ((Ext.refl w).alloc _)⟩
  | 1 =>
    simp at hj; subst hj
    exact ⟨B, c', blk_cell hn 4 _ rfl, blk_cell hn 5 _ rfl, blk_cell hn 6 _ rfl, blk_cell hn 7 _ rfl, hb.ext ((Ext.refl w).alloc _)⟩
  | j + 2 => simp at hj
theorem short_eq (v : Value) (l : List Ev) (b : Bool) (hb : Ev.short l = b) (w : World) (h : EvsAt w v l) (hn : l.length ≤ 9223372036854775807) :
    Calls Try.prog 8 #[v] w fun e w' => e = .returned (.bool b) ∧ w = w' := by subst hb; exact short_any v l w h hn

/-- The cells of the two events, in every world behind. -/
def BoxA (w : World) (a0 a1 a2 a3 : Value) (v : World) (g : Nat) : Prop := v.cell? ⟨g, 0, none⟩ = some a0 ∧ v.cell? ⟨g, 1, none⟩ = some a1 ∧ v.cell? ⟨g, 2, none⟩ = some a2 ∧ v.cell? ⟨g, 3, none⟩ = some a3
set_option maxRecDepth 100000 in
set_option maxHeartbeats 1000000 in
theorem eapart_short (A A' : Option Addr) (c c' : Nat) (k d k' d' : Int) (xs xs' : List Int) (t t' : ByteArray) (w : World) (hI : IntsAt w (.slice A xs.length c) xs) (hI' : IntsAt w (.slice A' xs'.length c') xs') (hsh : Ev.short [⟨k, d, xs, t⟩, ⟨k', d', xs', t'⟩] = false) :
    Calls Try.prog 6 #[.agg #[.int .i64 k, .int .i64 d, .slice A xs.length c, .string t], .agg #[.int .i64 k', .int .i64 d', .slice A' xs'.length c', .string t']] w fun e w' => e = .returned (.bool true) ∧ Ext w w' := by
  have HSH := Lib.hid hsh; clear hsh
  have HA : Hid (∀ v, Ext ((w.alloc (.cells #[.int .i64 k, .int .i64 d, .slice A xs.length c, .string t] 24)).alloc (.cells #[.int .i64 k', .int .i64 d', .slice A' xs'.length c', .string t'] 24)) v → BoxA w (.int .i64 k) (.int .i64 d) (.slice A xs.length c) (.string t) v w.heap.size) := Lib.hid fun v hv => by
    have hb := hv.blk (blk_alloc (blk_new w (.cells #[.int .i64 k, .int .i64 d, .slice A xs.length c, .string t] 24)) (.cells #[.int .i64 k', .int .i64 d', .slice A' xs'.length c', .string t'] 24))
    exact ⟨blk_cell hb 0 _ rfl, blk_cell hb 1 _ rfl, blk_cell hb 2 _ rfl, blk_cell hb 3 _ rfl⟩
  have HB : Hid (∀ v, Ext ((w.alloc (.cells #[.int .i64 k, .int .i64 d, .slice A xs.length c, .string t] 24)).alloc (.cells #[.int .i64 k', .int .i64 d', .slice A' xs'.length c', .string t'] 24)) v → BoxA w (.int .i64 k') (.int .i64 d') (.slice A' xs'.length c') (.string t') v (w.heap.size + 1)) := Lib.hid fun v hv => by
    have hb := hv.blk (blk_new (w.alloc (.cells #[.int .i64 k, .int .i64 d, .slice A xs.length c, .string t] 24)) (.cells #[.int .i64 k', .int .i64 d', .slice A' xs'.length c', .string t'] 24))
    rw [World.size_alloc] at hb
    exact ⟨blk_cell hb 0 _ rfl, blk_cell hb 1 _ rfl, blk_cell hb 2 _ rfl, blk_cell hb 3 _ rfl⟩
  have HI1 : Hid (∀ v, Ext ((w.alloc (.cells #[.int .i64 k, .int .i64 d, .slice A xs.length c, .string t] 24)).alloc (.cells #[.int .i64 k', .int .i64 d', .slice A' xs'.length c', .string t'] 24)) v → IntsAt v (.slice A xs.length c) xs) := Lib.hid fun v hv => hI.ext ((((Ext.refl w).alloc _).alloc _).trans hv)
  have HI2 : Hid (∀ v, Ext ((w.alloc (.cells #[.int .i64 k, .int .i64 d, .slice A xs.length c, .string t] 24)).alloc (.cells #[.int .i64 k', .int .i64 d', .slice A' xs'.length c', .string t'] 24)) v → IntsAt v (.slice A' xs'.length c') xs') := Lib.hid fun v hv => hI'.ext ((((Ext.refl w).alloc _).alloc _).trans hv)
  clear hI hI'
  go_enter Try.func6, Try.ntmps6
  go_wp2_with fail
  refine (efixed_yes _).mono ?_
  rintro r w1 ⟨rfl, hx1⟩
  have HX1 := Lib.hid hx1
  clear hx1
  obtain ⟨a0, a1, a2, a3⟩ := HA.out _ HX1.out
  obtain ⟨b0, b1, b2, b3⟩ := HB.out _ HX1.out
  go_wp2_with fail
  refine (short_eq _ _ false HSH.out _ (evs_two _ ⟨k, d, xs, t⟩ ⟨k', d', xs', t'⟩ A A' c c' (HI1.out _ HX1.out) (HI2.out _ HX1.out)) (by simp)).mono ?_
  rintro r w2 ⟨rfl, rfl⟩
  go_wp2_with fail
  refine (efixed_yes _).mono ?_
  rintro r w2 ⟨rfl, hx2⟩
  go_wp2
  go_ret
  exact ⟨rfl, ((((Ext.refl w).alloc _).alloc _).trans (HX1.out.alloc _)).trans hx2⟩
set_option maxRecDepth 100000 in
set_option maxHeartbeats 1000000 in
theorem eapart_a (A A' : Option Addr) (c c' : Nat) (k d k' d' : Int) (xs xs' : List Int) (t t' : ByteArray) (w : World) (hI : IntsAt w (.slice A xs.length c) xs) (hI' : IntsAt w (.slice A' xs'.length c') xs') (hsh : Ev.short [⟨k, d, xs, t⟩, ⟨k', d', xs', t'⟩] = true) (hz : xs.length ≤ 20) (hm : Ev.may ⟨k, d, xs, t⟩ = false) :
    Calls Try.prog 6 #[.agg #[.int .i64 k, .int .i64 d, .slice A xs.length c, .string t], .agg #[.int .i64 k', .int .i64 d', .slice A' xs'.length c', .string t']] w fun e w' => e = .returned (.bool true) ∧ Ext w w' := by
  have HSH := Lib.hid hsh; clear hsh
  have HM := Lib.hid hm; clear hm
  have HA : Hid (∀ v, Ext ((w.alloc (.cells #[.int .i64 k, .int .i64 d, .slice A xs.length c, .string t] 24)).alloc (.cells #[.int .i64 k', .int .i64 d', .slice A' xs'.length c', .string t'] 24)) v → BoxA w (.int .i64 k) (.int .i64 d) (.slice A xs.length c) (.string t) v w.heap.size) := Lib.hid fun v hv => by
    have hb := hv.blk (blk_alloc (blk_new w (.cells #[.int .i64 k, .int .i64 d, .slice A xs.length c, .string t] 24)) (.cells #[.int .i64 k', .int .i64 d', .slice A' xs'.length c', .string t'] 24))
    exact ⟨blk_cell hb 0 _ rfl, blk_cell hb 1 _ rfl, blk_cell hb 2 _ rfl, blk_cell hb 3 _ rfl⟩
  have HB : Hid (∀ v, Ext ((w.alloc (.cells #[.int .i64 k, .int .i64 d, .slice A xs.length c, .string t] 24)).alloc (.cells #[.int .i64 k', .int .i64 d', .slice A' xs'.length c', .string t'] 24)) v → BoxA w (.int .i64 k') (.int .i64 d') (.slice A' xs'.length c') (.string t') v (w.heap.size + 1)) := Lib.hid fun v hv => by
    have hb := hv.blk (blk_new (w.alloc (.cells #[.int .i64 k, .int .i64 d, .slice A xs.length c, .string t] 24)) (.cells #[.int .i64 k', .int .i64 d', .slice A' xs'.length c', .string t'] 24))
    rw [World.size_alloc] at hb
    exact ⟨blk_cell hb 0 _ rfl, blk_cell hb 1 _ rfl, blk_cell hb 2 _ rfl, blk_cell hb 3 _ rfl⟩
  have HI1 : Hid (∀ v, Ext ((w.alloc (.cells #[.int .i64 k, .int .i64 d, .slice A xs.length c, .string t] 24)).alloc (.cells #[.int .i64 k', .int .i64 d', .slice A' xs'.length c', .string t'] 24)) v → IntsAt v (.slice A xs.length c) xs) := Lib.hid fun v hv => hI.ext ((((Ext.refl w).alloc _).alloc _).trans hv)
  have HI2 : Hid (∀ v, Ext ((w.alloc (.cells #[.int .i64 k, .int .i64 d, .slice A xs.length c, .string t] 24)).alloc (.cells #[.int .i64 k', .int .i64 d', .slice A' xs'.length c', .string t'] 24)) v → IntsAt v (.slice A' xs'.length c') xs') := Lib.hid fun v hv => hI'.ext ((((Ext.refl w).alloc _).alloc _).trans hv)
  clear hI hI'
  go_enter Try.func6, Try.ntmps6
  go_wp2_with fail
  refine (efixed_yes _).mono ?_
  rintro r w1 ⟨rfl, hx1⟩
  have HX1 := Lib.hid hx1
  clear hx1
  obtain ⟨a0, a1, a2, a3⟩ := HA.out _ HX1.out
  obtain ⟨b0, b1, b2, b3⟩ := HB.out _ HX1.out
  go_wp2_with fail
  refine (short_eq _ _ true HSH.out _ (evs_two _ ⟨k, d, xs, t⟩ ⟨k', d', xs', t'⟩ A A' c c' (HI1.out _ HX1.out) (HI2.out _ HX1.out)) (by simp)).mono ?_
  rintro r w2 ⟨rfl, rfl⟩
  have HX2 : Hid (Ext ((w.alloc (.cells #[.int .i64 k, .int .i64 d, .slice A xs.length c, .string t] 24)).alloc (.cells #[.int .i64 k', .int .i64 d', .slice A' xs'.length c', .string t'] 24)) (w1.alloc (.cells #[.int .i64 k, .int .i64 d, .slice A xs.length c, .string t, .int .i64 k', .int .i64 d', .slice A' xs'.length c', .string t'] 24))) := Lib.hid (HX1.out.alloc _)
  clear a0 a1 a2 a3 b0 b1 b2 b3
  obtain ⟨a0, a1, a2, a3⟩ := HA.out _ HX2.out
  go_wp2_with fail
  refine (may_k k d xs t false HM.out _ _ _ (HI1.out _ HX2.out) (by omega)).mono ?_
  rintro r w2 ⟨rfl, hx2⟩
  go_wp2_with fail
  refine (efixed_yes _).mono ?_
  rintro r w3 ⟨rfl, hx3⟩
  go_wp2
  go_ret
  exact ⟨rfl, ((((Ext.refl w).alloc _).alloc _).trans (HX2.out.trans hx2)).trans hx3⟩
set_option maxRecDepth 100000 in
set_option maxHeartbeats 1000000 in
theorem eapart_b (A A' : Option Addr) (c c' : Nat) (k d k' d' : Int) (xs xs' : List Int) (t t' : ByteArray) (w : World) (hI : IntsAt w (.slice A xs.length c) xs) (hI' : IntsAt w (.slice A' xs'.length c') xs') (hsh : Ev.short [⟨k, d, xs, t⟩, ⟨k', d', xs', t'⟩] = true) (hz : xs.length ≤ 20) (hz' : xs'.length ≤ 20) (hm : Ev.may ⟨k, d, xs, t⟩ = true) (hm' : Ev.may ⟨k', d', xs', t'⟩ = false) :
    Calls Try.prog 6 #[.agg #[.int .i64 k, .int .i64 d, .slice A xs.length c, .string t], .agg #[.int .i64 k', .int .i64 d', .slice A' xs'.length c', .string t']] w fun e w' => e = .returned (.bool true) ∧ Ext w w' := by
  have HSH := Lib.hid hsh; clear hsh
  have HM := Lib.hid hm; clear hm
  have HM' := Lib.hid hm'; clear hm'
  have HA : Hid (∀ v, Ext ((w.alloc (.cells #[.int .i64 k, .int .i64 d, .slice A xs.length c, .string t] 24)).alloc (.cells #[.int .i64 k', .int .i64 d', .slice A' xs'.length c', .string t'] 24)) v → BoxA w (.int .i64 k) (.int .i64 d) (.slice A xs.length c) (.string t) v w.heap.size) := Lib.hid fun v hv => by
    have hb := hv.blk (blk_alloc (blk_new w (.cells #[.int .i64 k, .int .i64 d, .slice A xs.length c, .string t] 24)) (.cells #[.int .i64 k', .int .i64 d', .slice A' xs'.length c', .string t'] 24))
    exact ⟨blk_cell hb 0 _ rfl, blk_cell hb 1 _ rfl, blk_cell hb 2 _ rfl, blk_cell hb 3 _ rfl⟩
  have HB : Hid (∀ v, Ext ((w.alloc (.cells #[.int .i64 k, .int .i64 d, .slice A xs.length c, .string t] 24)).alloc (.cells #[.int .i64 k', .int .i64 d', .slice A' xs'.length c', .string t'] 24)) v → BoxA w (.int .i64 k') (.int .i64 d') (.slice A' xs'.length c') (.string t') v (w.heap.size + 1)) := Lib.hid fun v hv => by
    have hb := hv.blk (blk_new (w.alloc (.cells #[.int .i64 k, .int .i64 d, .slice A xs.length c, .string t] 24)) (.cells #[.int .i64 k', .int .i64 d', .slice A' xs'.length c', .string t'] 24))
    rw [World.size_alloc] at hb
    exact ⟨blk_cell hb 0 _ rfl, blk_cell hb 1 _ rfl, blk_cell hb 2 _ rfl, blk_cell hb 3 _ rfl⟩
  have HI1 : Hid (∀ v, Ext ((w.alloc (.cells #[.int .i64 k, .int .i64 d, .slice A xs.length c, .string t] 24)).alloc (.cells #[.int .i64 k', .int .i64 d', .slice A' xs'.length c', .string t'] 24)) v → IntsAt v (.slice A xs.length c) xs) := Lib.hid fun v hv => hI.ext ((((Ext.refl w).alloc _).alloc _).trans hv)
  have HI2 : Hid (∀ v, Ext ((w.alloc (.cells #[.int .i64 k, .int .i64 d, .slice A xs.length c, .string t] 24)).alloc (.cells #[.int .i64 k', .int .i64 d', .slice A' xs'.length c', .string t'] 24)) v → IntsAt v (.slice A' xs'.length c') xs') := Lib.hid fun v hv => hI'.ext ((((Ext.refl w).alloc _).alloc _).trans hv)
  clear hI hI'
  go_enter Try.func6, Try.ntmps6
  go_wp2_with fail
  refine (efixed_yes _).mono ?_
  rintro r w1 ⟨rfl, hx1⟩
  have HX1 := Lib.hid hx1
  clear hx1
  obtain ⟨a0, a1, a2, a3⟩ := HA.out _ HX1.out
  obtain ⟨b0, b1, b2, b3⟩ := HB.out _ HX1.out
  go_wp2_with fail
  refine (short_eq _ _ true HSH.out _ (evs_two _ ⟨k, d, xs, t⟩ ⟨k', d', xs', t'⟩ A A' c c' (HI1.out _ HX1.out) (HI2.out _ HX1.out)) (by simp)).mono ?_
  rintro r w2 ⟨rfl, rfl⟩
  have HX2 : Hid (Ext ((w.alloc (.cells #[.int .i64 k, .int .i64 d, .slice A xs.length c, .string t] 24)).alloc (.cells #[.int .i64 k', .int .i64 d', .slice A' xs'.length c', .string t'] 24)) (w1.alloc (.cells #[.int .i64 k, .int .i64 d, .slice A xs.length c, .string t, .int .i64 k', .int .i64 d', .slice A' xs'.length c', .string t'] 24))) := Lib.hid (HX1.out.alloc _)
  clear a0 a1 a2 a3 b0 b1 b2 b3
  obtain ⟨a0, a1, a2, a3⟩ := HA.out _ HX2.out
  go_wp2_with fail
  refine (may_k k d xs t true HM.out _ _ _ (HI1.out _ HX2.out) (by omega)).mono ?_
  rintro r w2 ⟨rfl, hx2⟩
  have HX3 : Hid (Ext ((w.alloc (.cells #[.int .i64 k, .int .i64 d, .slice A xs.length c, .string t] 24)).alloc (.cells #[.int .i64 k', .int .i64 d', .slice A' xs'.length c', .string t'] 24)) w2) := Lib.hid (HX2.out.trans hx2)
  clear a0 a1 a2 a3 hx2
  obtain ⟨b0, b1, b2, b3⟩ := HB.out _ HX3.out
  go_wp2_with fail
  refine (may_k k' d' xs' t' false HM'.out _ _ _ (HI2.out _ HX3.out) (by omega)).mono ?_
  rintro r w4 ⟨rfl, hx4⟩
  go_wp2_with fail
  refine (efixed_yes _).mono ?_
  rintro r w5 ⟨rfl, hx5⟩
  go_wp2
  go_ret
  exact ⟨rfl, ((((Ext.refl w).alloc _).alloc _).trans (HX3.out.trans hx4)).trans hx5⟩
set_option maxRecDepth 100000 in
set_option maxHeartbeats 1000000 in
theorem eapart_ok (A A' : Option Addr) (c c' : Nat) (k d k' d' : Int) (xs xs' : List Int) (t t' : ByteArray) (w : World) (hI : IntsAt w (.slice A xs.length c) xs) (hI' : IntsAt w (.slice A' xs'.length c') xs') (hsh : Ev.short [⟨k, d, xs, t⟩, ⟨k', d', xs', t'⟩] = true) (hz : xs.length ≤ 20) (hz' : xs'.length ≤ 20) (ht : t.size ≤ 300) (ht' : t'.size ≤ 300) (hm : Ev.may ⟨k, d, xs, t⟩ = true) (hm' : Ev.may ⟨k', d', xs', t'⟩ = true)
    (r : Bool) (hr : Ev.sameB ⟨k, d, xs, t⟩ ⟨k', d', xs', t'⟩ = r) :
    Calls Try.prog 6 #[.agg #[.int .i64 k, .int .i64 d, .slice A xs.length c, .string t], .agg #[.int .i64 k', .int .i64 d', .slice A' xs'.length c', .string t']] w fun e w' => e = .returned (.bool true) ∧ Ext w w' := by
  have heq := Ev.enc_inj hm hm' (by unfold Va.most; simp only; omega) (by unfold Va.most; simp only; omega)
  rw [hr] at heq
  have HEQ := Lib.hid heq; clear heq
  have HSH := Lib.hid hsh; clear hsh
  have HM := Lib.hid hm; clear hm
  have HM' := Lib.hid hm'; clear hm'
  have HR := Lib.hid hr; clear hr
  have HA : Hid (∀ v, Ext ((w.alloc (.cells #[.int .i64 k, .int .i64 d, .slice A xs.length c, .string t] 24)).alloc (.cells #[.int .i64 k', .int .i64 d', .slice A' xs'.length c', .string t'] 24)) v → BoxA w (.int .i64 k) (.int .i64 d) (.slice A xs.length c) (.string t) v w.heap.size) := Lib.hid fun v hv => by
    have hb := hv.blk (blk_alloc (blk_new w (.cells #[.int .i64 k, .int .i64 d, .slice A xs.length c, .string t] 24)) (.cells #[.int .i64 k', .int .i64 d', .slice A' xs'.length c', .string t'] 24))
    exact ⟨blk_cell hb 0 _ rfl, blk_cell hb 1 _ rfl, blk_cell hb 2 _ rfl, blk_cell hb 3 _ rfl⟩
  have HB : Hid (∀ v, Ext ((w.alloc (.cells #[.int .i64 k, .int .i64 d, .slice A xs.length c, .string t] 24)).alloc (.cells #[.int .i64 k', .int .i64 d', .slice A' xs'.length c', .string t'] 24)) v → BoxA w (.int .i64 k') (.int .i64 d') (.slice A' xs'.length c') (.string t') v (w.heap.size + 1)) := Lib.hid fun v hv => by
    have hb := hv.blk (blk_new (w.alloc (.cells #[.int .i64 k, .int .i64 d, .slice A xs.length c, .string t] 24)) (.cells #[.int .i64 k', .int .i64 d', .slice A' xs'.length c', .string t'] 24))
    rw [World.size_alloc] at hb
    exact ⟨blk_cell hb 0 _ rfl, blk_cell hb 1 _ rfl, blk_cell hb 2 _ rfl, blk_cell hb 3 _ rfl⟩
  have HI1 : Hid (∀ v, Ext ((w.alloc (.cells #[.int .i64 k, .int .i64 d, .slice A xs.length c, .string t] 24)).alloc (.cells #[.int .i64 k', .int .i64 d', .slice A' xs'.length c', .string t'] 24)) v → IntsAt v (.slice A xs.length c) xs) := Lib.hid fun v hv => hI.ext ((((Ext.refl w).alloc _).alloc _).trans hv)
  have HI2 : Hid (∀ v, Ext ((w.alloc (.cells #[.int .i64 k, .int .i64 d, .slice A xs.length c, .string t] 24)).alloc (.cells #[.int .i64 k', .int .i64 d', .slice A' xs'.length c', .string t'] 24)) v → IntsAt v (.slice A' xs'.length c') xs') := Lib.hid fun v hv => hI'.ext ((((Ext.refl w).alloc _).alloc _).trans hv)
  clear hI hI'
  go_enter Try.func6, Try.ntmps6
  go_wp2_with fail
  refine (efixed_yes _).mono ?_
  rintro r w1 ⟨rfl, hx1⟩
  have HX1 := Lib.hid hx1
  clear hx1
  obtain ⟨a0, a1, a2, a3⟩ := HA.out _ HX1.out
  obtain ⟨b0, b1, b2, b3⟩ := HB.out _ HX1.out
  go_wp2_with fail
  refine (short_eq _ _ true HSH.out _ (evs_two _ ⟨k, d, xs, t⟩ ⟨k', d', xs', t'⟩ A A' c c' (HI1.out _ HX1.out) (HI2.out _ HX1.out)) (by simp)).mono ?_
  rintro r w2 ⟨rfl, rfl⟩
  have HX2 : Hid (Ext ((w.alloc (.cells #[.int .i64 k, .int .i64 d, .slice A xs.length c, .string t] 24)).alloc (.cells #[.int .i64 k', .int .i64 d', .slice A' xs'.length c', .string t'] 24)) (w1.alloc (.cells #[.int .i64 k, .int .i64 d, .slice A xs.length c, .string t, .int .i64 k', .int .i64 d', .slice A' xs'.length c', .string t'] 24))) := Lib.hid (HX1.out.alloc _)
  clear a0 a1 a2 a3 b0 b1 b2 b3
  obtain ⟨a0, a1, a2, a3⟩ := HA.out _ HX2.out
  go_wp2_with fail
  refine (may_k k d xs t true HM.out _ _ _ (HI1.out _ HX2.out) (by omega)).mono ?_
  rintro r w2 ⟨rfl, hx2⟩
  have HX3 : Hid (Ext ((w.alloc (.cells #[.int .i64 k, .int .i64 d, .slice A xs.length c, .string t] 24)).alloc (.cells #[.int .i64 k', .int .i64 d', .slice A' xs'.length c', .string t'] 24)) w2) := Lib.hid (HX2.out.trans hx2)
  clear a0 a1 a2 a3 hx2
  obtain ⟨b0, b1, b2, b3⟩ := HB.out _ HX3.out
  go_wp2_with fail
  refine (may_k k' d' xs' t' true HM'.out _ _ _ (HI2.out _ HX3.out) (by omega)).mono ?_
  rintro r w4 ⟨rfl, hx4⟩
  have HX4 : Hid (Ext ((w.alloc (.cells #[.int .i64 k, .int .i64 d, .slice A xs.length c, .string t] 24)).alloc (.cells #[.int .i64 k', .int .i64 d', .slice A' xs'.length c', .string t'] 24)) w4) := Lib.hid (HX3.out.trans hx4)
  clear b0 b1 b2 b3 hx4
  go_wp2
  refine region_all (fun v => Ext ((w.alloc (.cells #[.int .i64 k, .int .i64 d, .slice A xs.length c, .string t] 24)).alloc (.cells #[.int .i64 k', .int .i64 d', .slice A' xs'.length c', .string t'] 24)) v) (by kernel_rfl) HX4.out.drew ?_
  have a0 := fun v hv => (HA.out v hv).1
  have a1 := fun v hv => (HA.out v hv).2.1
  have a2 := fun v hv => (HA.out v hv).2.2.1
  have a3 := fun v hv => (HA.out v hv).2.2.2
  have b0 := fun v hv => (HB.out v hv).1
  have b1 := fun v hv => (HB.out v hv).2.1
  have b2 := fun v hv => (HB.out v hv).2.2.1
  have b3 := fun v hv => (HB.out v hv).2.2.2
  have HEE := HEQ
  generalize hea : Ev.enc ⟨k, d, xs, t⟩ = ea at *
  generalize heb : Ev.enc ⟨k', d', xs', t'⟩ = eb at *
  have HEA := Lib.hid hea
  have HEB := Lib.hid heb
  clear hea heb
  have heq := HEE.out
  refine all_take (i := 0) (v := ?_) rfl (by kernel_rfl) (by kernel_rfl) (by kernel_rfl) (fun _ _ _ h => h) (Tame.yes (by kernel_rfl) fun w hS => ?_) ?_
  rotate_left 1
  · skip
    go_simp
    try simp only [heq, beq_self_eq_true]
    refine gives_mk ?_ hS
    with_reducible rfl
  refine all_take (i := 1) (v := .string ea) rfl (by kernel_rfl) (by kernel_rfl) (by kernel_rfl) (fun _ _ _ h => h) (Tame.yes (by kernel_rfl) fun w hS => ?_) ?_
  · go_simp
    refine gives_call ((encode_k k d xs t _ HEA.out _ _ _ (HI1.out _ hS) (by omega) (by omega)).mono ?_)
    exact fun r w2 ⟨he, hx⟩ => ⟨he, hS.trans hx⟩
  refine all_take (i := 2) (v := ?_) rfl (by kernel_rfl) (by kernel_rfl) (by kernel_rfl) (fun _ _ _ h => h) (Tame.yes (by kernel_rfl) fun w hS => ?_) ?_
  rotate_left 1
  · skip
    go_simp
    try simp only [heq, beq_self_eq_true]
    refine gives_mk ?_ hS
    with_reducible rfl
  refine all_take (i := 3) (v := .string eb) rfl (by kernel_rfl) (by kernel_rfl) (by kernel_rfl) (fun _ _ _ h => h) (Tame.yes (by kernel_rfl) fun w hS => ?_) ?_
  · go_simp
    refine gives_call ((encode_k k' d' xs' t' _ HEB.out _ _ _ (HI2.out _ hS) (by omega) (by omega)).mono ?_)
    exact fun r w2 ⟨he, hx⟩ => ⟨he, hS.trans hx⟩
  refine all_take (i := 4) (v := ?_) rfl (by kernel_rfl) (by kernel_rfl) (by kernel_rfl) (fun _ _ _ h => h) (Tame.yes (by kernel_rfl) fun w hS => ?_) ?_
  rotate_left 1
  · skip
    go_simp
    try simp only [heq, beq_self_eq_true]
    refine gives_mk ?_ hS
    with_reducible rfl
  refine all_take (i := 5) (v := ?_) rfl (by kernel_rfl) (by kernel_rfl) (by kernel_rfl) (fun _ _ _ h => h) (Tame.yes (by kernel_rfl) fun w hS => ?_) ?_
  rotate_left 1
  · skip
    go_simp
    try simp only [heq, beq_self_eq_true]
    refine gives_mk ?_ hS
    with_reducible rfl
  refine all_take (i := 6) (v := ?_) rfl (by kernel_rfl) (by kernel_rfl) (by kernel_rfl) (fun _ _ _ h => h) (Tame.yes (by kernel_rfl) fun w hS => ?_) ?_
  rotate_left 1
  · skip
    go_simp
    try simp only [heq, beq_self_eq_true]
    refine gives_mk ?_ hS
    with_reducible rfl
  refine all_take (i := 7) (v := .bool r) rfl (by kernel_rfl) (by kernel_rfl) (by kernel_rfl) (fun _ _ _ h => h) (Tame.yes (by kernel_rfl) fun w hS => ?_) ?_
  · go_simp
    refine gives_call ((same_k k d xs t k' d' xs' t' r HR.out _ _ _ _ _ (HI1.out _ hS) (HI2.out _ hS) (by omega)).mono ?_)
    exact fun r w2 ⟨he, hx⟩ => ⟨he, hS.trans hx⟩
  refine all_take (i := 8) (v := ?_) rfl (by kernel_rfl) (by kernel_rfl) (by kernel_rfl) (fun _ _ _ h => h) (Tame.yes (by kernel_rfl) fun w hS => ?_) ?_
  rotate_left 1
  · skip
    go_simp
    try simp only [heq, beq_self_eq_true]
    refine gives_mk ?_ hS
    with_reducible rfl
  refine all_take (i := 9) (v := ?_) rfl (by kernel_rfl) (by kernel_rfl) (by kernel_rfl) (fun _ _ _ h => h) (Tame.yes (by kernel_rfl) fun w hS => ?_) ?_
  rotate_left 1
  · skip
    go_simp
    try simp only [heq, beq_self_eq_true]
    refine gives_mk ?_ hS
    with_reducible rfl
  refine all_done ?_ ?_ _
  · kernel_rfl
  intro w5 hw5
  clear a0 a1 a2 a3 b0 b1 b2 b3 heq
  go_simp
  go_wp2
  go_ret
  exact ⟨by simp, (((Ext.refl w).alloc _).alloc _).trans hw5⟩
theorem Ev.short_two {a b : Ev} (h : Ev.short [a, b] = true) : a.args.length ≤ 20 ∧ a.text.size ≤ 300 ∧ b.args.length ≤ 20 ∧ b.text.size ≤ 300 := by
  unfold Ev.short at h
  simp [Ev.short1] at h
  omega
theorem walk_EventApart (v : Value) (a : Ev) (u : Value) (b : Ev) (w : World) (ha : EvAt w v a) (_ : EvIn a) (hb : EvAt w u b) (_ : EvIn b) :
    Calls Try.prog 6 #[v, u] w fun e w' => e = .returned (.bool true) ∧ Ext w w' := by
  obtain ⟨A, c, rfl, hI⟩ := ha
  obtain ⟨A', c', rfl, hI'⟩ := hb
  obtain ⟨k, d, xs, t⟩ := a
  obtain ⟨k', d', xs', t'⟩ := b
  cases hsh : Ev.short [⟨k, d, xs, t⟩, ⟨k', d', xs', t'⟩] with
  | false => exact eapart_short A A' c c' k d k' d' xs xs' t t' w hI hI' hsh
  | true =>
    obtain ⟨h1, h2, h3, h4⟩ := Ev.short_two hsh
    cases hm : Ev.may ⟨k, d, xs, t⟩ with
    | false => exact eapart_a A A' c c' k d k' d' xs xs' t t' w hI hI' hsh h1 hm
    | true =>
      cases hm' : Ev.may ⟨k', d', xs', t'⟩ with
      | false => exact eapart_b A A' c c' k d k' d' xs xs' t t' w hI hI' hsh h1 h3 hm hm'
      | true => exact eapart_ok A A' c c' k d k' d' xs xs' t t' w hI hI' hsh h1 h3 h2 h4 hm hm' _ rfl

end Go.Proofs.Ytnomofnhfaeohaa
