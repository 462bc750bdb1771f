/-
  The document's answers for layer 11: Next and Due.
-/
import Derived.Test.YtonnpmgnbmbooaaSm
set_option linter.unusedVariables false
set_option linter.unusedSimpArgs false
namespace Go.Proofs.Ytonnpmgnbmbooaa
open Go.RowKit

theorem srmay_eq (v : Value) (xs : List (Int × Int)) (b : Bool) (hb : decide (Sl.May xs) = b) (w : World) (h : PairsAt w v xs) (hn : xs.length ≤ 1000000) :
    Calls Try.prog 13 #[v] w fun e w' => e = .returned (.bool b) ∧ Ext w w' := by subst hb; exact srmay_any v xs w h hn
set_option maxRecDepth 100000 in
set_option maxHeartbeats 1000000 in
theorem srnext_any (v : Value) (xs : List (Int × Int)) (n : Int) (hne : Sl.next xs = n) (w : World) (h : PairsAt w v xs) (hn : xs.length ≤ 9000) :
    Calls Try.prog 17 #[v] w fun e w' => e = .returned (.int .i64 n) ∧ Ext w w' := by
  have H := Lib.hid h
  obtain ⟨A, c, rfl, hc, hA⟩ := h
  have HNE := Lib.hid hne
  clear hne
  cases xs with
  | nil =>
    have hv : Hid (n = -1) := Lib.hid (by rw [← HNE.out]; rfl)
    clear hA HNE
    go_enter Try.func17, Try.ntmps17
    go_wp2
    go_ret
    exact ⟨by rw [hv.out]; rfl, Ext.refl _⟩
  | cons p xs =>
    obtain ⟨b, o, rfl, hb, hcc⟩ := hA (by simp)
    have HC := Lib.hid (hcc 0 p rfl)
    have HB := Lib.hid hb
    clear hcc hb hA
    have hz : (((p :: xs).length : Int) == 0) = false := by rw [beq_eq_false_iff_ne]; simp; omega
    cases hm : decide (Sl.May (p :: xs)) with
    | false =>
      have HM := Lib.hid hm
      have hv : Hid (n = -1) := Lib.hid (by rw [← HNE.out]; unfold Sl.next; rw [if_neg (of_decide_eq_false hm)])
      clear hm HNE
      go_enter Try.func17, Try.ntmps17
      go_wp2_with fail
      refine (srmay_eq _ (p :: xs) false HM.out _ H.out (by omega)).mono ?_
      rintro r w1 ⟨rfl, hx1⟩
      go_wp2
      go_ret
      exact ⟨by rw [hv.out]; rfl, hx1⟩
    | true =>
      have HM := Lib.hid hm
      have hv : Hid (n = p.1) := Lib.hid (by rw [← HNE.out]; unfold Sl.next; rw [if_pos (of_decide_eq_true hm)])
      clear hm HNE
      go_enter Try.func17, Try.ntmps17
      go_wp2_with fail
      refine (srmay_eq _ (p :: xs) true HM.out _ H.out (by omega)).mono ?_
      rintro r w1 ⟨rfl, hx1⟩
      have c0 : w1.cell? ⟨b, o, none⟩ = some (.int .i64 p.1) := by rw [Below.cell hx1 HB.out]; have := HC.out.1; simpa using this
      have hl0 : 0 < (p :: xs).length := by simp
      have HX1 := Lib.hid hx1
      clear hx1
      go_wp2
      go_ret
      exact ⟨by rw [hv.out]; rfl, HX1.out⟩
/-- Who is due, picked out one by one. -/
def Sl.early (l : List (Int × Int)) (now : Int) : List (Int × Int) := l.filter fun q => decide (q.1 ≤ now)
def Sl.late (l : List (Int × Int)) (now : Int) : List (Int × Int) := l.filter fun q => !decide (q.1 ≤ now)
theorem Sl.early_eq : ∀ (l : List (Int × Int)) (now : Int), Sl.May l → Sl.early l now = l.take (Sl.many l now) ∧ Sl.late l now = Sl.left l now
  | [], now, _ => ⟨rfl, rfl⟩
  | p :: l, now, hm => by
    obtain ⟨h1, h2⟩ := Sl.early_eq l now (hm.sub (List.sublist_cons_self _ _))
    unfold Sl.early Sl.late Sl.left at *
    by_cases hp : p.1 ≤ now
    · have hmn : Sl.many (p :: l) now = Sl.many l now + 1 := by
        unfold Sl.many
        rw [List.takeWhile_cons]
        simp [hp]
      rw [hmn, List.filter_cons, List.filter_cons]
      simp only [hp, decide_true, if_true, Bool.not_true, Bool.false_eq_true, if_false]
      exact ⟨by rw [h1]; rfl, by rw [h2]; rfl⟩
    · have hmn : Sl.many (p :: l) now = 0 := by
        unfold Sl.many
        rw [List.takeWhile_cons]
        simp [hp]
      have hl : ∀ q ∈ p :: l, ¬ q.1 ≤ now := fun q hq => by have := Sl.head_le hm q hq; omega
      rw [hmn]
      refine ⟨?_, ?_⟩
      · rw [List.take_zero, List.filter_eq_nil_iff]
        intro q hq; simpa using hl q hq
      · rw [List.drop_zero, List.filter_eq_self]
        intro q hq; simpa using hl q hq
theorem Sl.early_next {l : List (Int × Int)} {k : Nat} {p : Int × Int} (now : Int) (h : l.take (k + 1) = l.take k ++ [p]) :
    (p.1 ≤ now → Sl.early (l.take (k + 1)) now = Sl.early (l.take k) now ++ [p] ∧ Sl.late (l.take (k + 1)) now = Sl.late (l.take k) now) ∧
    (¬ p.1 ≤ now → Sl.early (l.take (k + 1)) now = Sl.early (l.take k) now ∧ Sl.late (l.take (k + 1)) now = Sl.late (l.take k) now ++ [p]) := by
  rw [h]
  unfold Sl.early Sl.late
  rw [List.filter_append, List.filter_append]
  refine ⟨fun hp => ?_, fun hp => ?_⟩ <;> simp [hp]
theorem Sl.early_le (l : List (Int × Int)) (now : Int) (k : Nat) : (Sl.early (l.take k) now).length ≤ l.length ∧ (Sl.late (l.take k) now).length ≤ l.length := by
  unfold Sl.early Sl.late
  have h1 := List.length_filter_le (fun q : Int × Int => decide (q.1 ≤ now)) (l.take k)
  have h2 := List.length_filter_le (fun q : Int × Int => !decide (q.1 ≤ now)) (l.take k)
  rw [List.length_take] at h1 h2
  omega
theorem pairs_made' (v : World) (g : Nat) (hg : g = v.heap.size) : OwnTs (v.alloc (.cells #[] 24)) v.heap.size (.slice (some ⟨g, 0, none⟩) 0 0) [] := by
  subst hg
  exact World.ownsRow_made (base := v.heap.size) (e := 24) (size := 2) v #[] 0 (Nat.le_refl _) (by decide) rfl
/-- What holds at each round's head. -/
def DueAt (xs : List (Int × Int)) (now : Int) (W : World) (k : Nat) (d r : Value) (wr : World) : Prop :=
  OwnInts wr W.heap.size d ((Sl.early (xs.take k) now).map Prod.snd) ∧ OwnTs wr W.heap.size r (Sl.late (xs.take k) now) ∧ Apart d r ∧ Ext W wr
set_option maxRecDepth 100000 in
set_option maxHeartbeats 1000000 in
theorem srdue_yes (v : Value) (xs : List (Int × Int)) (now : Int) (w : World) (h : PairsAt w v xs) (hn : xs.length ≤ 9000) (hm : decide (Sl.May xs) = true) :
    Calls Try.prog 11 #[v, .int .i64 now] w (DuePost (Sl.due xs now, Sl.left xs now) w) := by
  obtain ⟨j0, J0', J1', J2', J3'⟩ := info_parts Try.infoTimer
  have J0 := Lib.hid J0'
  have J1 := Lib.hid J1'
  have J2 := Lib.hid J2'
  have J3 := Lib.hid J3'
  clear J0' J1' J2' J3'
  have H := Lib.hid h
  obtain ⟨A, c, rfl, hc, hA⟩ := h
  have HA := Lib.hid hA
  have HM := Lib.hid hm
  clear hA hm
  go_enter Try.func11, Try.ntmps11
  go_wp2
  go_loopw [6, 7, 8] (fun dv rv i wr => ∃ (k : Nat) (d r : Value), k ≤ xs.length ∧ i = .int .i64 k ∧ d = dv ∧ r = rv ∧ DueAt xs now w k d r wr) (fun _ _ i _ => xs.length - (intOf i).toNat)
  case atStart =>
    refine ⟨0, _, _, by omega, rfl, rfl, rfl, ?_, ?_, .inr (by simp [Value.ownBlock]), ((Ext.refl w).alloc _).alloc _⟩
    · exact World.ownsRow.alloc (World.ownsRow_made (base := w.heap.size) (e := 3) (size := 1) w #[] 0 (Nat.le_refl _) (by decide) rfl) _
    · have := World.ownsRow_made (base := w.heap.size) (e := 24) (size := 2) (w.alloc (.cells #[] 3)) #[] 0 (by simp) (by decide) rfl
      rwa [World.size_alloc] at this
  case round =>
    obtain ⟨k, d, r, hk, rfl, rfl, rfl, hd, hr, hap, hx⟩ := hrel
    have HD := Lib.hid hd
    have HRR := Lib.hid hr
    have HAP := Lib.hid hap
    have HX := Lib.hid hx
    have HLE := Lib.hid (Sl.early_le xs now k)
    clear hd hr hap hx
    by_cases hlt : k < xs.length
    · obtain ⟨b, o, rfl, hb, hcc⟩ := HA.out (by omega)
      have HB := Lib.hid hb
      have HC := Lib.hid (hcc k _ (List.getElem?_eq_getElem hlt))
      have HTK : Hid (xs.take (k + 1) = xs.take k ++ [xs[k]]) := Lib.hid (List.take_succ_eq_append_getElem hlt)
      clear hcc hb
      generalize xs[k] = p at *
      have HNX := Lib.hid (Sl.early_next now HTK.out)
      obtain ⟨p0, p1⟩ := p
      simp only at HC HNX
      go_wp2_with fail
      refine (srmay_eq _ xs true HM.out _ (H.out.ext HX.out) (by omega)).mono ?_
      rintro r1 w2 ⟨rfl, hx2⟩
      have HX2 := Lib.hid (HX.out.trans hx2)
      have HD2 := Lib.hid (OwnInts.ext HD.out hx2)
      have HR2 := Lib.hid (OwnRows.ext HRR.out hx2)
      clear hx2 HD HRR HX
      have c0 : w2.cell? ⟨b, o + k * 2, none⟩ = some (.int .i64 p0) := by rw [Below.cell HX2.out HB.out]; exact HC.out.1
      have c1 : w2.cell? ⟨b, o + k * 2 + 1, none⟩ = some (.int .i64 p1) := by rw [Below.cell HX2.out HB.out]; exact HC.out.2
      by_cases hle : p0 ≤ now
      · have HE := Lib.hid (HNX.out.1 hle)
        obtain ⟨u, w3, hr3, ho3, hg3, hb3⟩ := OwnInts.append2 28 (OwnInts.alloc HD2.out (.cells #[.int .i64 p1] 3)) (m := [p1]) (ints_one w2 p1) (by have := HLE.out.1; simp; omega) (by have := HX2.out.size; simp; omega)
        simp only [List.length_singleton] at hr3
        have HAT : Hid (DueAt xs now w (k + 1) u r w3) := Lib.hid (by
          refine ⟨by rw [HE.out.1, List.map_append]; exact ho3, ?_, ?_, Below.grown (HX2.out.alloc _) hg3 (by have := HX2.out.size; simp; omega) (own_block_le HD2.out)⟩
          · rw [HE.out.2]
            exact OwnRows.kept (OwnRows.alloc HR2.out _) hg3 HAP.out.symm'
          · refine HAP.out.grows (w := w2) (w' := w2) (hb3.imp id fun h k hk => ?_) fun k hk => (OwnRows.lt HR2.out k hk).2
            rw [h] at hk; simp at hk; omega)
        have HR3 := Lib.hid hr3
        clear hr3 ho3 hg3 hb3
        go_wp2_with (at_builtin; refine wpList_append_run rfl _ _ 28 rfl _ _ rfl rfl HR3.out ?_)
        go_roundw
        case rel => exact ⟨k + 1, u, r, by omega, by go_num, rfl, rfl, HAT.out⟩
        case measure => simp [intOf]; omega
      · have HE := Lib.hid (HNX.out.2 (by omega))
        have hgt : now < p0 := by omega
        clear hle
        obtain ⟨u, w3, hr3, ho3, hg3, hb3⟩ := OwnRows.append2 (P := Try.prog) 22 Try.underlying22 J0.out J1.out J2.out J3.out rfl (by decide) pairL_len pairL_one (OwnRows.alloc HR2.out (.cells #[.int .i64 p0, .int .i64 p1] 24)) (ys := [(p0, p1)]) (pairs_one w2 p0 p1).rows (by have := HLE.out.2; unfold maxLen; simp; omega) (by have := HLE.out.2; simp; omega) (by have := HX2.out.size; simp; omega)
        simp only [List.length_singleton] at hr3
        have HAT : Hid (DueAt xs now w (k + 1) d u w3) := Lib.hid (by
          refine ⟨?_, by rw [HE.out.2]; exact ho3, ?_, Below.grown (HX2.out.alloc _) hg3 (by have := HX2.out.size; simp; omega) fun k hk => (OwnRows.lt HR2.out k hk).1⟩
          · rw [HE.out.1]
            exact World.ownsRow.kept (OwnInts.alloc HD2.out _) hg3 HAP.out
          · refine (HAP.out.symm'.grows (w := w2) (w' := w2) (hb3.imp id fun h k hk => ?_) fun k hk => (World.ownsRow.lt HD2.out k hk).2).symm'
            rw [h] at hk; simp at hk; omega)
        have HR3 := Lib.hid hr3
        clear hr3 ho3 hg3 hb3
        go_wp2_with (at_builtin; refine wpList_append_run rfl _ _ 22 rfl _ _ rfl rfl HR3.out ?_)
        go_roundw
        case rel => exact ⟨k + 1, d, u, by omega, by go_num, rfl, rfl, HAT.out⟩
        case measure => simp [intOf]; omega
    · obtain rfl : k = xs.length := by omega
      have HE := Lib.hid (Sl.early_eq xs now (of_decide_eq_true HM.out))
      go_wp2
      go_ret2
      refine ⟨d, r, rfl, ?_, ?_, HX.out⟩
      · obtain ⟨A9, c9, h9, hI9⟩ := HD.out.ints
        rw [List.take_length] at h9 hI9
        rw [h9]
        unfold Sl.due
        rw [← HE.out.1]
        exact hI9
      · have := OwnTs.pairs HRR.out
        rw [List.take_length, HE.out.2] at this
        exact this
set_option maxRecDepth 100000 in
set_option maxHeartbeats 1000000 in
theorem srdue_no (v : Value) (xs : List (Int × Int)) (now : Int) (w : World) (h : PairsAt w v xs) (hn : xs.length ≤ 9000) (hm : decide (Sl.May xs) = false) :
    Calls Try.prog 11 #[v, .int .i64 now] w (DuePost ([], []) w) := by
  have H := Lib.hid h
  obtain ⟨A, c, rfl, hc, hA⟩ := h
  have hpos : 0 < xs.length := by
    cases xs with
    | nil => exact absurd Sl.May.nil (of_decide_eq_false hm)
    | cons p l => simp
  have HM := Lib.hid hm
  clear hA hm
  go_enter Try.func11, Try.ntmps11
  go_wp2
  refine wp_loop_rounds 1 ?_
  rw [rounds_succ]
  go_wp2_with fail
  refine (srmay_eq _ xs false HM.out _ (H.out.ext (((Ext.refl w).alloc _).alloc _)) (by omega)).mono ?_
  rintro r1 w2 ⟨rfl, hx2⟩
  go_wp2
  go_ret2
  exact ⟨_, _, rfl, ⟨_, 0, rfl, fun h => by simp at h⟩, ⟨_, 0, rfl, Nat.le_refl _, fun h => by simp at h⟩, (((Ext.refl w).alloc _).alloc _).trans hx2⟩

end Go.Proofs.Ytonnpmgnbmbooaa
