/-
  Contracts of the document's Same and Short, of events; and of Len, of numbers.
-/
import Derived.Test.YtcdfpifhjjiioaaEj
set_option linter.unusedVariables false
set_option linter.unusedSimpArgs false
namespace Go.Proofs.Ytcdfpifhjjiioaa
open Go.RowKit

theorem pz_nine (n : Int) : (Va.pz n).size ≤ 9 := by
  unfold Va.pz
  by_cases h : 0 ≤ n ∧ n < 4611686018427387904
  · rw [if_pos h]; exact Va.puts_nine h.1 h.2
  · rw [if_neg h]; decide
theorem sameB_split (k d : Int) (xs : List Int) (t : ByteArray) (k' d' : Int) (xs' : List Int) (t' : ByteArray) : Ev.sameB ⟨k, d, xs, t⟩ ⟨k', d', xs', t'⟩ = (decide (k = k') && decide (d = d') && decide (xs = xs') && (t.toList == t'.toList)) := rfl
set_option maxRecDepth 100000 in
set_option maxHeartbeats 1000000 in
theorem same_any (v u : Value) (a b : Ev) (w : World) (h : EvAt w v a) (h2 : EvAt w u b) (hn : a.args.length ≤ 9223372036854775807) :
    Calls Try.prog 17 #[v, u] w fun e w' => e = .returned (.bool (Ev.sameB a b)) ∧ Ext w w' := by
  obtain ⟨A, c, rfl, hI⟩ := h
  obtain ⟨A', c', rfl, hI'⟩ := h2
  obtain ⟨k, d, xs, t⟩ := a
  obtain ⟨k', d', xs', t'⟩ := b
  simp only at *
  have HN := Lib.hid hn
  have HI := Lib.hid (hI.ext (((Ext.refl w).alloc (.cells #[.int .i64 k, .int .i64 d, .slice A xs.length c, .string t] 28)).alloc (.cells #[.int .i64 k', .int .i64 d', .slice A' xs'.length c', .string t'] 28)))
  have HI' := Lib.hid (hI'.ext (((Ext.refl w).alloc (.cells #[.int .i64 k, .int .i64 d, .slice A xs.length c, .string t] 28)).alloc (.cells #[.int .i64 k', .int .i64 d', .slice A' xs'.length c', .string t'] 28)))
  have HS := Lib.hid (sameB_split k d xs t k' d' xs' t')
  clear hI hI' hn
  by_cases hk : k = k'
  · by_cases hd : d = d'
    · have hkb : (k == k') = true := by simpa using hk
      have hdb : (d == d') = true := by simpa using hd
      rw [decide_eq_true hk, decide_eq_true hd] at HS
      clear hk hd
      cases hx : decide (xs = xs') with
      | false =>
        have HX := Lib.hid hx
        rw [hx] at HS
        clear hx
        go_enter Try.func17, Try.ntmps17
        go_wp2_with fail
        refine (rints_eq _ _ xs xs' false HX.out _ HI.out HI'.out HN.out).mono ?_
        rintro r w1 ⟨rfl, hx1⟩
        go_wp2
        go_ret
        exact ⟨by rw [HS.out]; rfl, (((Ext.refl w).alloc _).alloc _).trans hx1⟩
      | true =>
        have HX := Lib.hid hx
        rw [hx] at HS
        clear hx
        go_enter Try.func17, Try.ntmps17
        go_wp2_with fail
        refine (rints_eq _ _ xs xs' true HX.out _ HI.out HI'.out HN.out).mono ?_
        rintro r w1 ⟨rfl, hx1⟩
        have c3 : w1.cell? ⟨w.heap.size, 3, none⟩ = some (.string t) := blk_cell (hx1.blk (blk_alloc (blk_new w (.cells #[.int .i64 k, .int .i64 d, .slice A xs.length c, .string t] 28)) _)) 3 _ rfl
        have d3 : w1.cell? ⟨w.heap.size + 1, 3, none⟩ = some (.string t') := blk_cell (hx1.blk (by have := blk_new (w.alloc (.cells #[.int .i64 k, .int .i64 d, .slice A xs.length c, .string t] 28)) (.cells #[.int .i64 k', .int .i64 d', .slice A' xs'.length c', .string t'] 28); rwa [World.size_alloc] at this)) 3 _ rfl
        have HX1 := Lib.hid hx1
        clear hx1
        go_wp2
        go_ret
        exact ⟨by rw [HS.out]; rfl, (((Ext.refl w).alloc _).alloc _).trans HX1.out⟩
    · have hkb : (k == k') = true := by simpa using hk
      have hdb : (d == d') = false := by simpa using hd
      rw [decide_eq_true hk, decide_eq_false hd] at HS
      clear hk hd
      go_enter Try.func17, Try.ntmps17
      go_wp2
      go_ret
      exact ⟨by rw [HS.out]; rfl, (((Ext.refl w).alloc _).alloc _)⟩
  · have hkb : (k == k') = false := by simpa using hk
    rw [decide_eq_false hk] at HS
    clear hk
    go_enter Try.func17, Try.ntmps17
    go_wp2
    go_ret
    exact ⟨by rw [HS.out]; rfl, (((Ext.refl w).alloc _).alloc _)⟩
theorem same_eq (v u : Value) (a b : Ev) (r : Bool) (hr : Ev.sameB a b = r) (w : World) (h : EvAt w v a) (h2 : EvAt w u b) (hn : a.args.length ≤ 9223372036854775807) :
    Calls Try.prog 17 #[v, u] w fun e w' => e = .returned (.bool r) ∧ Ext w w' := by subst hr; exact same_any v u a b w h h2 hn

/-- An event that lies in four cells. -/
def EvCell (w : World) (b p : Nat) (e : Ev) : Prop :=
  ∃ A c, w.cell? ⟨b, p, none⟩ = some (.int .i64 e.kind) ∧ w.cell? ⟨b, p + 1, none⟩ = some (.int .i64 e.dt) ∧ w.cell? ⟨b, p + 2, none⟩ = some (.slice A e.args.length c) ∧ w.cell? ⟨b, p + 3, none⟩ = some (.string e.text) ∧ IntsAt w (.slice A e.args.length c) e.args
/-- A slice of events. -/
def EvsAt (w : World) (v : Value) (l : List Ev) : Prop :=
  ∃ A c, v = .slice A l.length c ∧ (0 < l.length → ∃ b o, A = some ⟨b, o, none⟩ ∧ b < w.heap.size ∧ ∀ j e, l[j]? = some e → EvCell w b (o + j * 4) e)
theorem EvCell.ext {w w' : World} {b p : Nat} {e : Ev} (h : EvCell w b p e) (hx : Ext w w') (hb : b < w.heap.size) : EvCell w' b p e := by
  obtain ⟨A, c, h0, h1, h2, h3, hi⟩ := h
  exact ⟨A, c, by rw [Below.cell hx hb]; exact h0, by rw [Below.cell hx hb]; exact h1, by rw [Below.cell hx hb]; exact h2, by rw [Below.cell hx hb]; exact h3, hi.ext hx⟩
theorem EvsAt.ext {w w' : World} {v : Value} {l : List Ev} (h : EvsAt w v l) (hx : Ext w w') : EvsAt w' v l := by
  obtain ⟨A, c, rfl, hA⟩ := h
  refine ⟨A, c, rfl, fun h0 => ?_⟩
  obtain ⟨b, o, hb, hlt, hc⟩ := hA h0
  exact ⟨b, o, hb, Nat.lt_of_lt_of_le hlt hx.size, fun j e hj => (hc j e hj).ext hx hlt⟩
def Ev.short1 (e : Ev) : Bool := decide (e.args.length ≤ 20) && decide (e.text.size ≤ 300)
def Ev.short (l : List Ev) : Bool := l.all Ev.short1 && decide (l.length ≤ 60)
set_option maxRecDepth 100000 in
set_option maxHeartbeats 1000000 in
theorem short_any (v : Value) (l : List Ev) (w : World) (h : EvsAt w v l) (hn : l.length ≤ 9223372036854775807) :
    Calls Try.prog 8 #[v] w fun e w' => e = .returned (.bool (Ev.short l)) ∧ w = w' := by
  obtain ⟨A, c, rfl, hA⟩ := h
  have HA := Lib.hid hA; clear hA
  go_enter Try.func8, Try.ntmps8
  go_wp2
  go_loop [3] (fun i => ∃ k : Nat, k ≤ l.length ∧ i = .int .i64 k ∧ (l.take k).all Ev.short1 = true) (fun i => l.length - (intOf i).toNat)
  case atStart => exact ⟨0, by omega, rfl, by simp⟩
  case round =>
    obtain ⟨k, hk, rfl, hall⟩ := hrel
    have HL := Lib.hid hall; clear hall
    by_cases hlt : k < l.length
    · obtain ⟨b, o, rfl, hb, hc⟩ := HA.out (by omega)
      obtain ⟨A', c', h0, h1, h2, h3, hi⟩ := hc k _ (List.getElem?_eq_getElem hlt)
      have HT : Hid (l.take (k + 1) = l.take k ++ [l[k]]) := Lib.hid (by rw [List.take_succ_eq_append_getElem hlt])
      have HD : Hid (l = l.take k ++ l[k] :: l.drop (k + 1)) := Lib.hid (by rw [← List.drop_eq_getElem_cons hlt, List.take_append_drop])
      clear hc h0 h1 hi
      generalize l[k] = e at *
      by_cases ha : e.args.length ≤ 20
      · by_cases ht : e.text.size ≤ 300
        · have hs : Hid (Ev.short1 e = true) := Lib.hid (by unfold Ev.short1; simp [ha, ht])
          go_wp2
          go_round
          case rel => exact ⟨k + 1, by omega, by go_num, by rw [HT.out, List.all_append, HL.out]; simp [hs.out]⟩
          case measure => simp [intOf]; omega
        · have hs : Hid (Ev.short l = false) := Lib.hid (by unfold Ev.short; rw [HD.out, List.all_append, List.all_cons]; unfold Ev.short1; simp [ht])
          have ht' : 300 < e.text.size := by omega
          clear ht
          go_wp2
          go_ret
          exact ⟨by rw [hs.out]; rfl, rfl⟩
      · have hs : Hid (Ev.short l = false) := Lib.hid (by unfold Ev.short; rw [HD.out, List.all_append, List.all_cons]; unfold Ev.short1; simp [ha])
        have ha' : 20 < e.args.length := by omega
        clear ha
        go_wp2
        go_ret
        exact ⟨by rw [hs.out]; rfl, rfl⟩
    · have HE : Hid (l.take k = l) := Lib.hid (List.take_of_length_le (by omega))
      by_cases h6 : l.length ≤ 60
      · have hs : Hid (Ev.short l = true) := Lib.hid (by unfold Ev.short; rw [show l.all Ev.short1 = true by have := HL.out; rwa [HE.out] at this]; simp [h6])
        go_wp2
        go_ret
        exact ⟨by rw [hs.out]; (first | rfl | (simp; omega)), rfl⟩
      · have hs : Hid (Ev.short l = false) := Lib.hid (by unfold Ev.short; simp [h6])
        go_wp2
        go_ret
        exact ⟨by rw [hs.out]; (first | rfl | (simp; omega)), rfl⟩

end Go.Proofs.Ytcdfpifhjjiioaa
