/-
  Several texts in one: Sb, Sc.
-/
import Derived.Test.YtdcbaddndoilfaaE02
import Derived.Maps.OwnSet
import Derived.Test.YtdcbaddndoilfaaE01
import Derived.Lib.SliceRun
set_option linter.unusedVariables false
set_option linter.unusedSimpArgs false
namespace Go.Proofs.Ytdcbaddndoilfaa
open Go.RowKit
open Go.RowKit Go.Maps
theorem Sl.law : Keyed Try.prog 3 := int_keyed Try.underlying3
theorem Sl.zero (w : World) : (zeroValue 59).run Try.prog w = .ok (.agg #[]) w := by kernel_rfl
theorem Sl.make (w : World) (n : Int) : (Instr.makeMap 142 (some (.int .i64 n))).run Try.prog w = .ok (.map (some w.heap.size)) (w.alloc (.map #[] 0)) := by kernel_rfl
def SetAt (w : World) (b n : Nat) (l : List Int) : Prop := ∃ D : DataW Unit, w.ownsMap Try.prog 3 unitElem b n D ∧ IsMap D ∧ ∀ x, (Lit.int .i64 x).wf = true → Maps.has D (.int .i64 x) = decide (x ∈ l)
theorem SetAt.ext {w w' : World} {b n : Nat} {l : List Int} (h : SetAt w b n l) (hx : Ext w w') : SetAt w' b n l := by
  obtain ⟨D, h1, h2⟩ := h
  exact ⟨D, h1.kept (row := none) ⟨hx.os, hx.tape, hx.output, hx.size, fun i hi _ => hx.block i hi⟩ (by simp), h2⟩
theorem SetAt.start (w : World) : SetAt (w.alloc (.map #[] 0)) w.heap.size 0 [] :=
  ⟨.map [], World.ownsMap_made _ _ _ _, ⟨[], rfl⟩, fun x _ => rfl⟩
theorem i64_wf {x : Int} (h : i64ok x) : (Lit.int .i64 x).wf = true := by
  unfold i64ok at h
  simp [Lit.wf, IntKind.min, IntKind.max, IntKind.signed, IntKind.bits]
  omega
theorem SetAt.add {w' : World} {b n : Nat} {l m : List (Int × Int)} {p0 p1 : Int} {D : DataW Unit} (hI : IsMap D) (hh : ∀ x, (Lit.int .i64 x).wf = true → Maps.has D (.int .i64 x) = decide (x ∈ l.map Prod.snd)) (ho : w'.ownsMap Try.prog 3 unitElem b (n + 1) (D.put (.int .i64 p1) (.agg [])))
    (hm : m = l ++ [(p0, p1)]) (hw : (Lit.int .i64 p1).wf = true) : SetAt w' b (n + 1) (m.map Prod.snd) := by
  subst hm
  refine ⟨_, ho, ho.isMap, fun x hx => ?_⟩
  by_cases he : x = p1
  · subst he
    rw [has_put_same hI (by simp [WideAt.IsKeyLit])]
    simp
  · rw [has_put_other (by simpa using he), hh x hx]
    simp [he]
theorem Sl.may_next {l : List (Int × Int)} {k : Nat} (h : k < l.length) : Sl.May (l.take (k + 1)) ↔ Sl.May (l.take k) ∧ Sl.fit l[k] ∧ (∀ q, 0 < k → l[k - 1]? = some q → Sl.lt q l[k]) ∧ l[k].2 ∉ (l.take k).map Prod.snd := by
  rw [List.take_succ_eq_append_getElem h, Sl.may_snoc]
  have e : ∀ q, (l.take k).getLast? = some q ↔ 0 < k ∧ l[k - 1]? = some q := fun q => by
    rw [List.getLast?_eq_getElem?, List.length_take, Nat.min_eq_left (by omega), List.getElem?_take]
    by_cases hk : 0 < k
    · rw [if_pos (by omega)]; simp [hk]
    · obtain rfl : k = 0 := by omega
      simp
  simp only [e, and_imp]
theorem Sl.may_no {l : List (Int × Int)} {k : Nat} (h : k < l.length) (hn : ¬ Sl.May (l.take (k + 1))) : decide (Sl.May l) = false :=
  decide_eq_false fun hm => hn (hm.sub (List.take_sublist _ _))
theorem before_eq (a0 a1 b0 b1 : Int) (r : Bool) (hr : decide (Sl.lt (a0, a1) (b0, b1)) = r) (w : World) : Calls Try.prog 102 #[.agg #[.int .i64 a0, .int .i64 a1], .agg #[.int .i64 b0, .int .i64 b1]] w fun e w' => e = .returned (.bool r) ∧ Ext w w' := by
  subst hr; exact before_any (a0, a1) (b0, b1) w
set_option maxRecDepth 100000 in
set_option maxHeartbeats 1000000 in
theorem smay_any (v : Value) (xs : List (Int × Int)) (w : World) (h : PairsAt w v xs) (hn : xs.length ≤ 1000000) (hr : ∀ p ∈ xs, i64ok p.1 ∧ i64ok p.2) :
    Calls Try.prog 88 #[v] w fun e w' => e = .returned (.bool (decide (Sl.May xs))) ∧ Ext w w' := by
  have hmm := Sl.make
  obtain ⟨A, c, rfl, hc, hA⟩ := h
  have HA := Lib.hid hA; clear hA
  have HR := Lib.hid hr; clear hr
  go_enter Try.func88, Try.ntmps88
  go_wp2
  go_loopw [13] (fun i wr => ∃ k : Nat, k ≤ xs.length ∧ i = .int .i64 k ∧ Sl.May (xs.take k) ∧ SetAt wr w.heap.size k ((xs.take k).map Prod.snd) ∧ Ext w wr) (fun i _ => xs.length - (intOf i).toNat)
  case atStart => exact ⟨0, by omega, rfl, by simpa using Sl.May.nil, by simpa using SetAt.start w, (Ext.refl _).alloc _⟩
  case round =>
    obtain ⟨k, hk, rfl, hm, hset, hx⟩ := hrel
    have HM := Lib.hid hm; clear hm
    have HS := Lib.hid hset; clear hset
    have HX := Lib.hid hx; clear hx
    by_cases hlt : k < xs.length
    · obtain ⟨b, o, rfl, hb, hc⟩ := HA.out (by omega)
      have HB := Lib.hid hb
      have HC := Lib.hid (hc k _ (List.getElem?_eq_getElem hlt))
      have HP : Hid (0 < k → ∃ q, xs[k - 1]? = some q ∧ w.cell? ⟨b, o + (k - 1) * 2, none⟩ = some (.int .i64 q.1) ∧ w.cell? ⟨b, o + (k - 1) * 2 + 1, none⟩ = some (.int .i64 q.2)) := Lib.hid fun h0 => ⟨xs[k - 1], List.getElem?_eq_getElem (by omega), hc (k - 1) _ (List.getElem?_eq_getElem (by omega))⟩
      have HNX := Lib.hid (Sl.may_next hlt)
      have HNO := Lib.hid (@Sl.may_no xs k hlt)
      have HI := Lib.hid (HR.out xs[k] (List.getElem_mem hlt))
      have HTK : Hid (xs.take (k + 1) = xs.take k ++ [xs[k]]) := Lib.hid (List.take_succ_eq_append_getElem hlt)
      clear hc hb
      generalize xs[k] = p at *
      obtain ⟨p0, p1⟩ := p
      simp only at HC HI HNX
      have HXB : Hid (Ext w (wr.alloc (.cells #[.int .i64 p0, .int .i64 p1] 129))) := Lib.hid (HX.out.alloc _)
      have c0 : wr.cell? ⟨b, o + k * 2, none⟩ = some (.int .i64 p0) := by rw [Below.cell HX.out HB.out]; exact HC.out.1
      have c1 : wr.cell? ⟨b, o + k * 2 + 1, none⟩ = some (.int .i64 p1) := by rw [Below.cell HX.out HB.out]; exact HC.out.2
      by_cases hf : Sl.fit (p0, p1)
      · have hfit := hf
        unfold Sl.fit at hfit
        obtain ⟨f0, f1, f2⟩ := hfit
        simp only at f0 f1 f2
        have HF := Lib.hid hf
        clear hf
        rcases Nat.eq_zero_or_pos k with h0 | h0
        · subst h0
          have HCON : Hid (p1 ∉ (xs.take 0).map Prod.snd → Sl.May (xs.take (0 + 1))) := Lib.hid fun hn => HNX.out.2 ⟨HM.out, HF.out, fun q h => absurd h (by omega), hn⟩
          clear HP HC
          simp only [Nat.zero_mul, Nat.add_zero] at c0 c1
          go_wp2
          refine region_all (fun v => Ext (wr.alloc (.cells #[.int .i64 p0, .int .i64 p1] 129)) v) (by kernel_rfl) (Ext.refl _).drew ?_
          clear c0 c1
          have K0 := fun v (hv : Ext (wr.alloc (.cells #[.int .i64 p0, .int .i64 p1] 129)) v) => Ext.box hv 0 (.int .i64 p0) rfl
          have K1 := fun v (hv : Ext (wr.alloc (.cells #[.int .i64 p0, .int .i64 p1] 129)) v) => Ext.box hv 1 (.int .i64 p1) rfl
          have b0 : decide (p0 < 0) = false := by simp; omega
          have b1 : decide (4611686018427387904 ≤ p0) = false := by simp; omega
          have b2 : decide (p1 < 1) = false := by simp; omega
          refine all_take (i := 0) (v := ?_) rfl (by kernel_rfl) (by kernel_rfl) (by kernel_rfl) (fun _ _ _ h => h) (Tame.yes (by kernel_rfl) fun w hS => ?_) ?_
          rotate_left 1
          · skip
            go_simp
            try simp only [b0, b1, b2, Bool.or_false]
            refine gives_mk ?_ hS
            with_reducible rfl
          refine all_take (i := 1) (v := ?_) rfl (by kernel_rfl) (by kernel_rfl) (by kernel_rfl) (fun _ _ _ h => h) (Tame.yes (by kernel_rfl) fun w hS => ?_) ?_
          rotate_left 1
          · skip
            go_simp
            try simp only [b0, b1, b2, Bool.or_false]
            refine gives_mk ?_ hS
            with_reducible rfl
          refine all_take (i := 2) (v := ?_) rfl (by kernel_rfl) (by kernel_rfl) (by kernel_rfl) (fun _ _ _ h => h) (Tame.yes (by kernel_rfl) fun w hS => ?_) ?_
          rotate_left 1
          · skip
            go_simp
            try simp only [b0, b1, b2, Bool.or_false]
            refine gives_mk ?_ hS
            with_reducible rfl
          refine all_take (i := 3) (v := ?_) rfl (by kernel_rfl) (by kernel_rfl) (by kernel_rfl) (fun _ _ _ h => h) (Tame.yes (by kernel_rfl) fun w hS => ?_) ?_
          rotate_left 1
          · skip
            go_simp
            try simp only [b0, b1, b2, Bool.or_false]
            refine gives_mk ?_ hS
            with_reducible rfl
          refine all_take (i := 4) (v := ?_) rfl (by kernel_rfl) (by kernel_rfl) (by kernel_rfl) (fun _ _ _ h => h) (Tame.yes (by kernel_rfl) fun w hS => ?_) ?_
          rotate_left 1
          · skip
            go_simp
            try simp only [b0, b1, b2, Bool.or_false]
            refine gives_mk ?_ hS
            with_reducible rfl
          refine all_take (i := 5) (v := ?_) rfl (by kernel_rfl) (by kernel_rfl) (by kernel_rfl) (fun _ _ _ h => h) (Tame.yes (by kernel_rfl) fun w hS => ?_) ?_
          rotate_left 1
          · skip
            go_simp
            try simp only [b0, b1, b2, Bool.or_false]
            refine gives_mk ?_ hS
            with_reducible rfl
          refine all_take (i := 6) (v := ?_) rfl (by kernel_rfl) (by kernel_rfl) (by kernel_rfl) (fun _ _ _ h => h) (Tame.yes (by kernel_rfl) fun w hS => ?_) ?_
          rotate_left 1
          · skip
            go_simp
            try simp only [b0, b1, b2, Bool.or_false]
            refine gives_mk ?_ hS
            with_reducible rfl
          refine all_take (i := 7) (v := ?_) rfl (by kernel_rfl) (by kernel_rfl) (by kernel_rfl) (fun _ _ _ h => h) (Tame.yes (by kernel_rfl) fun w hS => ?_) ?_
          rotate_left 1
          · skip
            go_simp
            try simp only [b0, b1, b2, Bool.or_false]
            refine gives_mk ?_ hS
            with_reducible rfl
          refine all_take (i := 8) (v := ?_) rfl (by kernel_rfl) (by kernel_rfl) (by kernel_rfl) (fun _ _ _ h => h) (Tame.yes (by kernel_rfl) fun w hS => ?_) ?_
          rotate_left 1
          · skip
            go_simp
            try simp only [b0, b1, b2, Bool.or_false]
            refine gives_mk ?_ hS
            with_reducible rfl
          refine all_take (i := 9) (v := ?_) rfl (by kernel_rfl) (by kernel_rfl) (by kernel_rfl) (fun _ _ _ h => h) (Tame.yes (by kernel_rfl) fun w hS => ?_) ?_
          rotate_left 1
          · skip
            go_simp
            try simp only [b0, b1, b2, Bool.or_false]
            refine gives_mk ?_ hS
            with_reducible rfl
          refine all_take (i := 10) (v := ?_) rfl (by kernel_rfl) (by kernel_rfl) (by kernel_rfl) (fun _ _ _ h => h) (Tame.yes (by kernel_rfl) fun w hS => ?_) ?_
          rotate_left 1
          · skip
            go_simp
            try simp only [b0, b1, b2, Bool.or_false]
            refine gives_mk ?_ hS
            with_reducible rfl
          refine all_take (i := 11) (v := ?_) rfl (by kernel_rfl) (by kernel_rfl) (by kernel_rfl) (fun _ _ _ h => h) (Tame.yes (by kernel_rfl) fun w hS => ?_) ?_
          rotate_left 1
          · skip
            go_simp
            try simp only [b0, b1, b2, Bool.or_false]
            refine gives_mk ?_ hS
            with_reducible rfl
          refine all_take (i := 12) (v := ?_) rfl (by kernel_rfl) (by kernel_rfl) (by kernel_rfl) (fun _ _ _ h => h) (Tame.yes (by kernel_rfl) fun w hS => ?_) ?_
          rotate_left 1
          · skip
            go_simp
            try simp only [b0, b1, b2, Bool.or_false]
            refine gives_mk ?_ hS
            with_reducible rfl
          refine all_take (i := 13) (v := ?_) rfl (by kernel_rfl) (by kernel_rfl) (by kernel_rfl) (fun _ _ _ h => h) (Tame.yes (by kernel_rfl) fun w hS => ?_) ?_
          rotate_left 1
          · skip
            go_simp
            try simp only [b0, b1, b2, Bool.or_false]
            refine gives_mk ?_ hS
            with_reducible rfl
          refine all_take (i := 14) (v := ?_) rfl (by kernel_rfl) (by kernel_rfl) (by kernel_rfl) (fun _ _ _ h => h) (Tame.yes (by kernel_rfl) fun w hS => ?_) ?_
          rotate_left 1
          · skip
            go_simp
            try simp only [b0, b1, b2, Bool.or_false]
            refine gives_mk ?_ hS
            with_reducible rfl
          refine all_take (i := 15) (v := ?_) rfl (by kernel_rfl) (by kernel_rfl) (by kernel_rfl) (fun _ _ _ h => h) (Tame.yes (by kernel_rfl) fun w hS => ?_) ?_
          rotate_left 1
          · skip
            go_simp
            try simp only [b0, b1, b2, Bool.or_false]
            refine gives_mk ?_ hS
            with_reducible rfl
          refine all_take (i := 16) (v := ?_) rfl (by kernel_rfl) (by kernel_rfl) (by kernel_rfl) (fun _ _ _ h => h) (Tame.yes (by kernel_rfl) fun w hS => ?_) ?_
          rotate_left 1
          · skip
            go_simp
            try simp only [b0, b1, b2, Bool.or_false]
            refine gives_mk ?_ hS
            with_reducible rfl
          refine all_take (i := 17) rfl (by kernel_rfl) (by kernel_rfl) (by kernel_rfl) (fun _ _ _ h => h) (Tame.no (by kernel_rfl)) ?_
          refine all_take (i := 18) rfl (by kernel_rfl) (by kernel_rfl) (by kernel_rfl) (fun _ _ _ h => h) (Tame.no (by kernel_rfl)) ?_
          refine all_take (i := 19) rfl (by kernel_rfl) (by kernel_rfl) (by kernel_rfl) (fun _ _ _ h => h) (Tame.no (by kernel_rfl)) ?_
          refine all_take (i := 20) rfl (by kernel_rfl) (by kernel_rfl) (by kernel_rfl) (fun _ _ _ h => h) (Tame.no (by kernel_rfl)) ?_
          refine all_take (i := 21) rfl (by kernel_rfl) (by kernel_rfl) (by kernel_rfl) (fun _ _ _ h => h) (Tame.no (by kernel_rfl)) ?_
          refine all_take (i := 22) rfl (by kernel_rfl) (by kernel_rfl) (by kernel_rfl) (fun _ _ _ h => h) (Tame.no (by kernel_rfl)) ?_
          refine all_take (i := 23) rfl (by kernel_rfl) (by kernel_rfl) (by kernel_rfl) (fun _ _ _ h => h) (Tame.no (by kernel_rfl)) ?_
          refine all_take (i := 24) rfl (by kernel_rfl) (by kernel_rfl) (by kernel_rfl) (fun _ _ _ h => h) (Tame.no (by kernel_rfl)) ?_
          refine all_take (i := 25) (v := ?_) rfl (by kernel_rfl) (by kernel_rfl) (by kernel_rfl) (fun _ _ _ h => h) (Tame.yes (by kernel_rfl) fun w hS => ?_) ?_
          rotate_left 1
          · skip
            go_simp
            try simp only [b0, b1, b2, Bool.or_false]
            refine gives_mk ?_ hS
            with_reducible rfl
          refine all_take (i := 26) (v := ?_) rfl (by kernel_rfl) (by kernel_rfl) (by kernel_rfl) (fun _ _ _ h => h) (Tame.yes (by kernel_rfl) fun w hS => ?_) ?_
          rotate_left 1
          · skip
            go_simp
            try simp only [b0, b1, b2, Bool.or_false]
            refine gives_mk ?_ hS
            with_reducible rfl
          clear b0 b1 b2
          refine all_done (by kernel_rfl) ?_ _
          intro w2 hx2
          have HX2 := Lib.hid hx2
          have k1 := K1 _ hx2
          clear hx2 K0 K1
          go_simp
          obtain ⟨D, hown, hism, hhas⟩ := SetAt.ext HS.out ((((Ext.refl wr).alloc _)).trans HX2.out)
          have HOWN := Lib.hid hown
          have HISM := Lib.hid hism
          have HHAS := Lib.hid hhas
          have HKEY : Hid (keyOf Try.prog 3 (.int .i64 p1) = some (.int .i64 p1)) := Lib.hid (keyOf_int_mk Try.underlying3 (i64_wf HI.out.2))
          clear hown hism hhas
          by_cases hin : p1 ∈ (xs.take 0).map Prod.snd
          · have hh : Maps.has D (Lit.int .i64 p1) = true := by rw [HHAS.out p1 (i64_wf HI.out.2)]; exact decide_eq_true hin
            have HE : Hid (decide (Sl.May xs) = false) := Lib.hid (HNO.out fun hm => (HNX.out.1 hm).2.2.2 hin)
            clear hin
            go_wp2_with (at_lookup; refine wpList_lookup_own_unit _ rfl _ _ 142 rfl 3 59 Sl.law Try.underlying142 (Sl.zero _) w.heap.size 0 _ rfl HOWN.out _ _ rfl HKEY.out ?_)
            go_ret
            exact ⟨by rw [HE.out]; rfl, (HXB.out.trans HX2.out).alloc _⟩
          · have hh : Maps.has D (Lit.int .i64 p1) = false := by rw [HHAS.out p1 (i64_wf HI.out.2)]; exact decide_eq_false hin
            have HCN := Lib.hid (HCON.out hin)
            clear hin HCON
            have k2 : (w2.alloc (.cells #[] 59)).cell? ⟨wr.heap.size, 1, none⟩ = some (.int .i64 p1) := Ext.box (HX2.out.alloc _) 1 (.int .i64 p1) rfl
            go_wp2_with (first | (at_lookup; refine wpList_lookup_own_unit _ rfl _ _ 142 rfl 3 59 Sl.law Try.underlying142 (Sl.zero _) w.heap.size 0 _ rfl HOWN.out _ _ rfl HKEY.out ?_) | (at_mapUpdate; refine wpList_mapUpdate_own _ rfl _ _ _ 142 rfl 3 59 Sl.law Try.underlying142 (unitElem (H := Unit)) w.heap.size 0 _ rfl (HOWN.out.alloc _) (by unfold maxLen; omega) _ _ _ rfl rfl HKEY.out _ [] unitElem_mk ?_; intro w3 hown3 hgrow3))
            have HSN : Hid (SetAt w3 w.heap.size (0 + 1) ((xs.take (0 + 1)).map Prod.snd)) := Lib.hid (SetAt.add HISM.out HHAS.out hown3 HTK.out (i64_wf HI.out.2))
            have HX3 : Hid (Ext w w3) := Lib.hid (Below.grown ((HXB.out.trans HX2.out).alloc _) hgrow3 (((HXB.out.trans HX2.out).alloc _).size) (fun k e => by injection e with e; omega))
            go_roundw
            case rel => exact ⟨0 + 1, by omega, by go_num, HCN.out, HSN.out, HX3.out⟩
            case measure => simp [intOf]; omega
        · obtain ⟨q, hq, hq0, hq1⟩ := HP.out h0
          obtain ⟨q0, q1⟩ := q
          simp only at hq0 hq1
          have HQ0 := Lib.hid hq0
          have HQ1 := Lib.hid hq1
          have HQ := Lib.hid hq
          clear hq hq0 hq1 HP HC
          cases hl : decide (Sl.lt (q0, q1) (p0, p1)) with
          | false =>
            have HL := Lib.hid hl
            have HE : Hid (decide (Sl.May xs) = false) := Lib.hid (HNO.out fun hm => of_decide_eq_false HL.out ((HNX.out.1 hm).2.2.1 _ h0 HQ.out))
            clear hl
            go_wp2
            refine region_all (fun v => Ext (wr.alloc (.cells #[.int .i64 p0, .int .i64 p1] 129)) v) (by kernel_rfl) (Ext.refl _).drew ?_
            clear c0 c1
            have K0 := fun v (hv : Ext (wr.alloc (.cells #[.int .i64 p0, .int .i64 p1] 129)) v) => Ext.box hv 0 (.int .i64 p0) rfl
            have K1 := fun v (hv : Ext (wr.alloc (.cells #[.int .i64 p0, .int .i64 p1] 129)) v) => Ext.box hv 1 (.int .i64 p1) rfl
            have K2 : ∀ v, Ext (wr.alloc (.cells #[.int .i64 p0, .int .i64 p1] 129)) v → v.cell? ⟨b, o + (k - 1) * 2, none⟩ = some (.int .i64 q0) := fun v hv => by rw [Below.cell (HXB.out.trans hv) HB.out]; exact HQ0.out
            have K3 : ∀ v, Ext (wr.alloc (.cells #[.int .i64 p0, .int .i64 p1] 129)) v → v.cell? ⟨b, o + (k - 1) * 2 + 1, none⟩ = some (.int .i64 q1) := fun v hv => by rw [Below.cell (HXB.out.trans hv) HB.out]; exact HQ1.out
            have e1 : ((k : Int) - 1).toNat = k - 1 := by omega
            have e2 : 1 ≤ (k : Int) := by omega
            have e3 : (k : Int) - 1 < (xs.length : Int) := by omega
            have e4 : IntKind.i64.wrap ((k : Int) - 1) = (k : Int) - 1 := IntWalk.i64_in _ (by omega)
            have b0 : decide (p0 < 0) = false := by simp; omega
            have b1 : decide (4611686018427387904 ≤ p0) = false := by simp; omega
            have b2 : decide (p1 < 1) = false := by simp; omega
            refine all_take (i := 0) (v := ?_) rfl (by kernel_rfl) (by kernel_rfl) (by kernel_rfl) (fun _ _ _ h => h) (Tame.yes (by kernel_rfl) fun w hS => ?_) ?_
            rotate_left 1
            · skip
              go_simp
              try simp only [e1, e4, b0, b1, b2, Bool.or_false]
              refine gives_mk ?_ hS
              with_reducible rfl
            refine all_take (i := 1) (v := ?_) rfl (by kernel_rfl) (by kernel_rfl) (by kernel_rfl) (fun _ _ _ h => h) (Tame.yes (by kernel_rfl) fun w hS => ?_) ?_
            rotate_left 1
            · skip
              go_simp
              try simp only [e1, e4, b0, b1, b2, Bool.or_false]
              refine gives_mk ?_ hS
              with_reducible rfl
            refine all_take (i := 2) (v := ?_) rfl (by kernel_rfl) (by kernel_rfl) (by kernel_rfl) (fun _ _ _ h => h) (Tame.yes (by kernel_rfl) fun w hS => ?_) ?_
            rotate_left 1
            · skip
              go_simp
              try simp only [e1, e4, b0, b1, b2, Bool.or_false]
              refine gives_mk ?_ hS
              with_reducible rfl
            refine all_take (i := 3) (v := ?_) rfl (by kernel_rfl) (by kernel_rfl) (by kernel_rfl) (fun _ _ _ h => h) (Tame.yes (by kernel_rfl) fun w hS => ?_) ?_
            rotate_left 1
            · skip
              go_simp
              try simp only [e1, e4, b0, b1, b2, Bool.or_false]
              refine gives_mk ?_ hS
              with_reducible rfl
            refine all_take (i := 4) (v := ?_) rfl (by kernel_rfl) (by kernel_rfl) (by kernel_rfl) (fun _ _ _ h => h) (Tame.yes (by kernel_rfl) fun w hS => ?_) ?_
            rotate_left 1
            · skip
              go_simp
              try simp only [e1, e4, b0, b1, b2, Bool.or_false]
              refine gives_mk ?_ hS
              with_reducible rfl
            refine all_take (i := 5) (v := ?_) rfl (by kernel_rfl) (by kernel_rfl) (by kernel_rfl) (fun _ _ _ h => h) (Tame.yes (by kernel_rfl) fun w hS => ?_) ?_
            rotate_left 1
            · skip
              go_simp
              try simp only [e1, e4, b0, b1, b2, Bool.or_false]
              refine gives_mk ?_ hS
              with_reducible rfl
            refine all_take (i := 6) (v := ?_) rfl (by kernel_rfl) (by kernel_rfl) (by kernel_rfl) (fun _ _ _ h => h) (Tame.yes (by kernel_rfl) fun w hS => ?_) ?_
            rotate_left 1
            · skip
              go_simp
              try simp only [e1, e4, b0, b1, b2, Bool.or_false]
              refine gives_mk ?_ hS
              with_reducible rfl
            refine all_take (i := 7) (v := ?_) rfl (by kernel_rfl) (by kernel_rfl) (by kernel_rfl) (fun _ _ _ h => h) (Tame.yes (by kernel_rfl) fun w hS => ?_) ?_
            rotate_left 1
            · skip
              go_simp
              try simp only [e1, e4, b0, b1, b2, Bool.or_false]
              refine gives_mk ?_ hS
              with_reducible rfl
            refine all_take (i := 8) (v := ?_) rfl (by kernel_rfl) (by kernel_rfl) (by kernel_rfl) (fun _ _ _ h => h) (Tame.yes (by kernel_rfl) fun w hS => ?_) ?_
            rotate_left 1
            · skip
              go_simp
              try simp only [e1, e4, b0, b1, b2, Bool.or_false]
              refine gives_mk ?_ hS
              with_reducible rfl
            refine all_take (i := 9) (v := ?_) rfl (by kernel_rfl) (by kernel_rfl) (by kernel_rfl) (fun _ _ _ h => h) (Tame.yes (by kernel_rfl) fun w hS => ?_) ?_
            rotate_left 1
            · skip
              go_simp
              try simp only [e1, e4, b0, b1, b2, Bool.or_false]
              refine gives_mk ?_ hS
              with_reducible rfl
            refine all_take (i := 10) (v := ?_) rfl (by kernel_rfl) (by kernel_rfl) (by kernel_rfl) (fun _ _ _ h => h) (Tame.yes (by kernel_rfl) fun w hS => ?_) ?_
            rotate_left 1
            · skip
              go_simp
              try simp only [e1, e4, b0, b1, b2, Bool.or_false]
              refine gives_mk ?_ hS
              with_reducible rfl
            refine all_take (i := 11) (v := ?_) rfl (by kernel_rfl) (by kernel_rfl) (by kernel_rfl) (fun _ _ _ h => h) (Tame.yes (by kernel_rfl) fun w hS => ?_) ?_
            rotate_left 1
            · skip
              go_simp
              try simp only [e1, e4, b0, b1, b2, Bool.or_false]
              refine gives_mk ?_ hS
              with_reducible rfl
            refine all_take (i := 12) (v := ?_) rfl (by kernel_rfl) (by kernel_rfl) (by kernel_rfl) (fun _ _ _ h => h) (Tame.yes (by kernel_rfl) fun w hS => ?_) ?_
            rotate_left 1
            · skip
              go_simp
              try simp only [e1, e4, b0, b1, b2, Bool.or_false]
              refine gives_mk ?_ hS
              with_reducible rfl
            refine all_take (i := 13) (v := ?_) rfl (by kernel_rfl) (by kernel_rfl) (by kernel_rfl) (fun _ _ _ h => h) (Tame.yes (by kernel_rfl) fun w hS => ?_) ?_
            rotate_left 1
            · skip
              go_simp
              try simp only [e1, e4, b0, b1, b2, Bool.or_false]
              refine gives_mk ?_ hS
              with_reducible rfl
            refine all_take (i := 14) (v := ?_) rfl (by kernel_rfl) (by kernel_rfl) (by kernel_rfl) (fun _ _ _ h => h) (Tame.yes (by kernel_rfl) fun w hS => ?_) ?_
            rotate_left 1
            · skip
              go_simp
              try simp only [e1, e4, b0, b1, b2, Bool.or_false]
              refine gives_mk ?_ hS
              with_reducible rfl
            refine all_take (i := 15) (v := ?_) rfl (by kernel_rfl) (by kernel_rfl) (by kernel_rfl) (fun _ _ _ h => h) (Tame.yes (by kernel_rfl) fun w hS => ?_) ?_
            rotate_left 1
            · skip
              go_simp
              try simp only [e1, e4, b0, b1, b2, Bool.or_false]
              refine gives_mk ?_ hS
              with_reducible rfl
            refine all_take (i := 16) (v := ?_) rfl (by kernel_rfl) (by kernel_rfl) (by kernel_rfl) (fun _ _ _ h => h) (Tame.yes (by kernel_rfl) fun w hS => ?_) ?_
            rotate_left 1
            · skip
              go_simp
              try simp only [e1, e4, b0, b1, b2, Bool.or_false]
              refine gives_mk ?_ hS
              with_reducible rfl
            refine all_take (i := 17) (v := ?_) rfl (by kernel_rfl) (by kernel_rfl) (by kernel_rfl) (fun _ _ _ h => h) (Tame.yes (by kernel_rfl) fun w hS => ?_) ?_
            rotate_left 1
            · skip
              go_simp
              try simp only [e1, e4, b0, b1, b2, Bool.or_false]
              refine gives_mk ?_ hS
              with_reducible rfl
            refine all_take (i := 18) (v := ?_) rfl (by kernel_rfl) (by kernel_rfl) (by kernel_rfl) (fun _ _ _ h => h) (Tame.yes (by kernel_rfl) fun w hS => ?_) ?_
            rotate_left 1
            · skip
              go_simp
              try simp only [e1, e4, b0, b1, b2, Bool.or_false]
              refine gives_mk ?_ hS
              with_reducible rfl
            refine all_take (i := 19) (v := ?_) rfl (by kernel_rfl) (by kernel_rfl) (by kernel_rfl) (fun _ _ _ h => h) (Tame.yes (by kernel_rfl) fun w hS => ?_) ?_
            rotate_left 1
            · skip
              go_simp
              try simp only [e1, e4, b0, b1, b2, Bool.or_false]
              refine gives_mk ?_ hS
              with_reducible rfl
            refine all_take (i := 20) (v := ?_) rfl (by kernel_rfl) (by kernel_rfl) (by kernel_rfl) (fun _ _ _ h => h) (Tame.yes (by kernel_rfl) fun w hS => ?_) ?_
            rotate_left 1
            · skip
              go_simp
              try simp only [e1, e4, b0, b1, b2, Bool.or_false]
              refine gives_mk ?_ hS
              with_reducible rfl
            refine all_take (i := 21) (v := ?_) rfl (by kernel_rfl) (by kernel_rfl) (by kernel_rfl) (fun _ _ _ h => h) (Tame.yes (by kernel_rfl) fun w hS => ?_) ?_
            rotate_left 1
            · skip
              go_simp
              try simp only [e1, e4, b0, b1, b2, Bool.or_false]
              refine gives_mk ?_ hS
              with_reducible rfl
            refine all_take (i := 22) (v := ?_) rfl (by kernel_rfl) (by kernel_rfl) (by kernel_rfl) (fun _ _ _ h => h) (Tame.yes (by kernel_rfl) fun w hS => ?_) ?_
            rotate_left 1
            · skip
              go_simp
              try simp only [e1, e4, b0, b1, b2, Bool.or_false]
              refine gives_mk ?_ hS
              with_reducible rfl
            refine all_take (i := 23) (v := .bool false) rfl (by kernel_rfl) (by kernel_rfl) (by kernel_rfl) (fun _ _ _ h => h) (Tame.yes (by kernel_rfl) fun w hS => ?_) ?_
            · go_simp
              refine gives_call ((before_eq q0 q1 p0 p1 false HL.out _).mono ?_)
              exact fun r w2 ⟨he, hx⟩ => ⟨he, hS.trans hx⟩
            refine all_take (i := 24) (v := ?_) rfl (by kernel_rfl) (by kernel_rfl) (by kernel_rfl) (fun _ _ _ h => h) (Tame.yes (by kernel_rfl) fun w hS => ?_) ?_
            rotate_left 1
            · skip
              go_simp
              try simp only [e1, e4, b0, b1, b2, Bool.or_false]
              refine gives_mk ?_ hS
              with_reducible rfl
            refine all_take (i := 25) (v := ?_) rfl (by kernel_rfl) (by kernel_rfl) (by kernel_rfl) (fun _ _ _ h => h) (Tame.yes (by kernel_rfl) fun w hS => ?_) ?_
            rotate_left 1
            · skip
              go_simp
              try simp only [e1, e4, b0, b1, b2, Bool.or_false]
              refine gives_mk ?_ hS
              with_reducible rfl
            refine all_take (i := 26) (v := ?_) rfl (by kernel_rfl) (by kernel_rfl) (by kernel_rfl) (fun _ _ _ h => h) (Tame.yes (by kernel_rfl) fun w hS => ?_) ?_
            rotate_left 1
            · skip
              go_simp
              try simp only [e1, e4, b0, b1, b2, Bool.or_false]
              refine gives_mk ?_ hS
              with_reducible rfl
            clear e1 e2 e3 e4 K2 K3 b0 b1 b2
            refine all_done (by kernel_rfl) ?_ _
            intro w2 hx2
            have HX2 := Lib.hid hx2
            have k1 := K1 _ hx2
            clear hx2 K0 K1
            go_simp
            clear k1
            go_wp2
            go_ret
            exact ⟨by rw [HE.out]; rfl, HXB.out.trans HX2.out⟩
          | true =>
            have HL := Lib.hid hl
            have HCON : Hid (p1 ∉ (xs.take k).map Prod.snd → Sl.May (xs.take (k + 1))) := Lib.hid fun hn => HNX.out.2 ⟨HM.out, HF.out, fun q _ h => by rw [HQ.out] at h; cases h; exact of_decide_eq_true HL.out, hn⟩
            clear hl
            go_wp2
            refine region_all (fun v => Ext (wr.alloc (.cells #[.int .i64 p0, .int .i64 p1] 129)) v) (by kernel_rfl) (Ext.refl _).drew ?_
            clear c0 c1
            have K0 := fun v (hv : Ext (wr.alloc (.cells #[.int .i64 p0, .int .i64 p1] 129)) v) => Ext.box hv 0 (.int .i64 p0) rfl
            have K1 := fun v (hv : Ext (wr.alloc (.cells #[.int .i64 p0, .int .i64 p1] 129)) v) => Ext.box hv 1 (.int .i64 p1) rfl
            have K2 : ∀ v, Ext (wr.alloc (.cells #[.int .i64 p0, .int .i64 p1] 129)) v → v.cell? ⟨b, o + (k - 1) * 2, none⟩ = some (.int .i64 q0) := fun v hv => by rw [Below.cell (HXB.out.trans hv) HB.out]; exact HQ0.out
            have K3 : ∀ v, Ext (wr.alloc (.cells #[.int .i64 p0, .int .i64 p1] 129)) v → v.cell? ⟨b, o + (k - 1) * 2 + 1, none⟩ = some (.int .i64 q1) := fun v hv => by rw [Below.cell (HXB.out.trans hv) HB.out]; exact HQ1.out
            have e1 : ((k : Int) - 1).toNat = k - 1 := by omega
            have e2 : 1 ≤ (k : Int) := by omega
            have e3 : (k : Int) - 1 < (xs.length : Int) := by omega
            have e4 : IntKind.i64.wrap ((k : Int) - 1) = (k : Int) - 1 := IntWalk.i64_in _ (by omega)
            have b0 : decide (p0 < 0) = false := by simp; omega
            have b1 : decide (4611686018427387904 ≤ p0) = false := by simp; omega
            have b2 : decide (p1 < 1) = false := by simp; omega
            refine all_take (i := 0) (v := ?_) rfl (by kernel_rfl) (by kernel_rfl) (by kernel_rfl) (fun _ _ _ h => h) (Tame.yes (by kernel_rfl) fun w hS => ?_) ?_
            rotate_left 1
            · skip
              go_simp
              try simp only [e1, e4, b0, b1, b2, Bool.or_false]
              refine gives_mk ?_ hS
              with_reducible rfl
            refine all_take (i := 1) (v := ?_) rfl (by kernel_rfl) (by kernel_rfl) (by kernel_rfl) (fun _ _ _ h => h) (Tame.yes (by kernel_rfl) fun w hS => ?_) ?_
            rotate_left 1
            · skip
              go_simp
              try simp only [e1, e4, b0, b1, b2, Bool.or_false]
              refine gives_mk ?_ hS
              with_reducible rfl
            refine all_take (i := 2) (v := ?_) rfl (by kernel_rfl) (by kernel_rfl) (by kernel_rfl) (fun _ _ _ h => h) (Tame.yes (by kernel_rfl) fun w hS => ?_) ?_
            rotate_left 1
            · skip
              go_simp
              try simp only [e1, e4, b0, b1, b2, Bool.or_false]
              refine gives_mk ?_ hS
              with_reducible rfl
            refine all_take (i := 3) (v := ?_) rfl (by kernel_rfl) (by kernel_rfl) (by kernel_rfl) (fun _ _ _ h => h) (Tame.yes (by kernel_rfl) fun w hS => ?_) ?_
            rotate_left 1
            · skip
              go_simp
              try simp only [e1, e4, b0, b1, b2, Bool.or_false]
              refine gives_mk ?_ hS
              with_reducible rfl
            refine all_take (i := 4) (v := ?_) rfl (by kernel_rfl) (by kernel_rfl) (by kernel_rfl) (fun _ _ _ h => h) (Tame.yes (by kernel_rfl) fun w hS => ?_) ?_
            rotate_left 1
            · skip
              go_simp
              try simp only [e1, e4, b0, b1, b2, Bool.or_false]
              refine gives_mk ?_ hS
              with_reducible rfl
            refine all_take (i := 5) (v := ?_) rfl (by kernel_rfl) (by kernel_rfl) (by kernel_rfl) (fun _ _ _ h => h) (Tame.yes (by kernel_rfl) fun w hS => ?_) ?_
            rotate_left 1
            · skip
              go_simp
              try simp only [e1, e4, b0, b1, b2, Bool.or_false]
              refine gives_mk ?_ hS
              with_reducible rfl
            refine all_take (i := 6) (v := ?_) rfl (by kernel_rfl) (by kernel_rfl) (by kernel_rfl) (fun _ _ _ h => h) (Tame.yes (by kernel_rfl) fun w hS => ?_) ?_
            rotate_left 1
            · skip
              go_simp
              try simp only [e1, e4, b0, b1, b2, Bool.or_false]
              refine gives_mk ?_ hS
              with_reducible rfl
            refine all_take (i := 7) (v := ?_) rfl (by kernel_rfl) (by kernel_rfl) (by kernel_rfl) (fun _ _ _ h => h) (Tame.yes (by kernel_rfl) fun w hS => ?_) ?_
            rotate_left 1
            · skip
              go_simp
              try simp only [e1, e4, b0, b1, b2, Bool.or_false]
              refine gives_mk ?_ hS
              with_reducible rfl
            refine all_take (i := 8) (v := ?_) rfl (by kernel_rfl) (by kernel_rfl) (by kernel_rfl) (fun _ _ _ h => h) (Tame.yes (by kernel_rfl) fun w hS => ?_) ?_
            rotate_left 1
            · skip
              go_simp
              try simp only [e1, e4, b0, b1, b2, Bool.or_false]
              refine gives_mk ?_ hS
              with_reducible rfl
            refine all_take (i := 9) (v := ?_) rfl (by kernel_rfl) (by kernel_rfl) (by kernel_rfl) (fun _ _ _ h => h) (Tame.yes (by kernel_rfl) fun w hS => ?_) ?_
            rotate_left 1
            · skip
              go_simp
              try simp only [e1, e4, b0, b1, b2, Bool.or_false]
              refine gives_mk ?_ hS
              with_reducible rfl
            refine all_take (i := 10) (v := ?_) rfl (by kernel_rfl) (by kernel_rfl) (by kernel_rfl) (fun _ _ _ h => h) (Tame.yes (by kernel_rfl) fun w hS => ?_) ?_
            rotate_left 1
            · skip
              go_simp
              try simp only [e1, e4, b0, b1, b2, Bool.or_false]
              refine gives_mk ?_ hS
              with_reducible rfl
            refine all_take (i := 11) (v := ?_) rfl (by kernel_rfl) (by kernel_rfl) (by kernel_rfl) (fun _ _ _ h => h) (Tame.yes (by kernel_rfl) fun w hS => ?_) ?_
            rotate_left 1
            · skip
              go_simp
              try simp only [e1, e4, b0, b1, b2, Bool.or_false]
              refine gives_mk ?_ hS
              with_reducible rfl
            refine all_take (i := 12) (v := ?_) rfl (by kernel_rfl) (by kernel_rfl) (by kernel_rfl) (fun _ _ _ h => h) (Tame.yes (by kernel_rfl) fun w hS => ?_) ?_
            rotate_left 1
            · skip
              go_simp
              try simp only [e1, e4, b0, b1, b2, Bool.or_false]
              refine gives_mk ?_ hS
              with_reducible rfl
            refine all_take (i := 13) (v := ?_) rfl (by kernel_rfl) (by kernel_rfl) (by kernel_rfl) (fun _ _ _ h => h) (Tame.yes (by kernel_rfl) fun w hS => ?_) ?_
            rotate_left 1
            · skip
              go_simp
              try simp only [e1, e4, b0, b1, b2, Bool.or_false]
              refine gives_mk ?_ hS
              with_reducible rfl
            refine all_take (i := 14) (v := ?_) rfl (by kernel_rfl) (by kernel_rfl) (by kernel_rfl) (fun _ _ _ h => h) (Tame.yes (by kernel_rfl) fun w hS => ?_) ?_
            rotate_left 1
            · skip
              go_simp
              try simp only [e1, e4, b0, b1, b2, Bool.or_false]
              refine gives_mk ?_ hS
              with_reducible rfl
            refine all_take (i := 15) (v := ?_) rfl (by kernel_rfl) (by kernel_rfl) (by kernel_rfl) (fun _ _ _ h => h) (Tame.yes (by kernel_rfl) fun w hS => ?_) ?_
            rotate_left 1
            · skip
              go_simp
              try simp only [e1, e4, b0, b1, b2, Bool.or_false]
              refine gives_mk ?_ hS
              with_reducible rfl
            refine all_take (i := 16) (v := ?_) rfl (by kernel_rfl) (by kernel_rfl) (by kernel_rfl) (fun _ _ _ h => h) (Tame.yes (by kernel_rfl) fun w hS => ?_) ?_
            rotate_left 1
            · skip
              go_simp
              try simp only [e1, e4, b0, b1, b2, Bool.or_false]
              refine gives_mk ?_ hS
              with_reducible rfl
            refine all_take (i := 17) (v := ?_) rfl (by kernel_rfl) (by kernel_rfl) (by kernel_rfl) (fun _ _ _ h => h) (Tame.yes (by kernel_rfl) fun w hS => ?_) ?_
            rotate_left 1
            · skip
              go_simp
              try simp only [e1, e4, b0, b1, b2, Bool.or_false]
              refine gives_mk ?_ hS
              with_reducible rfl
            refine all_take (i := 18) (v := ?_) rfl (by kernel_rfl) (by kernel_rfl) (by kernel_rfl) (fun _ _ _ h => h) (Tame.yes (by kernel_rfl) fun w hS => ?_) ?_
            rotate_left 1
            · skip
              go_simp
              try simp only [e1, e4, b0, b1, b2, Bool.or_false]
              refine gives_mk ?_ hS
              with_reducible rfl
            refine all_take (i := 19) (v := ?_) rfl (by kernel_rfl) (by kernel_rfl) (by kernel_rfl) (fun _ _ _ h => h) (Tame.yes (by kernel_rfl) fun w hS => ?_) ?_
            rotate_left 1
            · skip
              go_simp
              try simp only [e1, e4, b0, b1, b2, Bool.or_false]
              refine gives_mk ?_ hS
              with_reducible rfl
            refine all_take (i := 20) (v := ?_) rfl (by kernel_rfl) (by kernel_rfl) (by kernel_rfl) (fun _ _ _ h => h) (Tame.yes (by kernel_rfl) fun w hS => ?_) ?_
            rotate_left 1
            · skip
              go_simp
              try simp only [e1, e4, b0, b1, b2, Bool.or_false]
              refine gives_mk ?_ hS
              with_reducible rfl
            refine all_take (i := 21) (v := ?_) rfl (by kernel_rfl) (by kernel_rfl) (by kernel_rfl) (fun _ _ _ h => h) (Tame.yes (by kernel_rfl) fun w hS => ?_) ?_
            rotate_left 1
            · skip
              go_simp
              try simp only [e1, e4, b0, b1, b2, Bool.or_false]
              refine gives_mk ?_ hS
              with_reducible rfl
            refine all_take (i := 22) (v := ?_) rfl (by kernel_rfl) (by kernel_rfl) (by kernel_rfl) (fun _ _ _ h => h) (Tame.yes (by kernel_rfl) fun w hS => ?_) ?_
            rotate_left 1
            · skip
              go_simp
              try simp only [e1, e4, b0, b1, b2, Bool.or_false]
              refine gives_mk ?_ hS
              with_reducible rfl
            refine all_take (i := 23) (v := .bool true) rfl (by kernel_rfl) (by kernel_rfl) (by kernel_rfl) (fun _ _ _ h => h) (Tame.yes (by kernel_rfl) fun w hS => ?_) ?_
            · go_simp
              refine gives_call ((before_eq q0 q1 p0 p1 true HL.out _).mono ?_)
              exact fun r w2 ⟨he, hx⟩ => ⟨he, hS.trans hx⟩
            refine all_take (i := 24) (v := ?_) rfl (by kernel_rfl) (by kernel_rfl) (by kernel_rfl) (fun _ _ _ h => h) (Tame.yes (by kernel_rfl) fun w hS => ?_) ?_
            rotate_left 1
            · skip
              go_simp
              try simp only [e1, e4, b0, b1, b2, Bool.or_false]
              refine gives_mk ?_ hS
              with_reducible rfl
            refine all_take (i := 25) (v := ?_) rfl (by kernel_rfl) (by kernel_rfl) (by kernel_rfl) (fun _ _ _ h => h) (Tame.yes (by kernel_rfl) fun w hS => ?_) ?_
            rotate_left 1
            · skip
              go_simp
              try simp only [e1, e4, b0, b1, b2, Bool.or_false]
              refine gives_mk ?_ hS
              with_reducible rfl
            refine all_take (i := 26) (v := ?_) rfl (by kernel_rfl) (by kernel_rfl) (by kernel_rfl) (fun _ _ _ h => h) (Tame.yes (by kernel_rfl) fun w hS => ?_) ?_
            rotate_left 1
            · skip
              go_simp
              try simp only [e1, e4, b0, b1, b2, Bool.or_false]
              refine gives_mk ?_ hS
              with_reducible rfl
            clear e1 e2 e3 e4 K2 K3 b0 b1 b2
            refine all_done (by kernel_rfl) ?_ _
            intro w2 hx2
            have HX2 := Lib.hid hx2
            have k1 := K1 _ hx2
            clear hx2 K0 K1
            go_simp
            obtain ⟨D, hown, hism, hhas⟩ := SetAt.ext HS.out ((((Ext.refl wr).alloc _)).trans HX2.out)
            have HOWN := Lib.hid hown
            have HISM := Lib.hid hism
            have HHAS := Lib.hid hhas
            have HKEY : Hid (keyOf Try.prog 3 (.int .i64 p1) = some (.int .i64 p1)) := Lib.hid (keyOf_int_mk Try.underlying3 (i64_wf HI.out.2))
            clear hown hism hhas
            by_cases hin : p1 ∈ (xs.take k).map Prod.snd
            · have hh : Maps.has D (Lit.int .i64 p1) = true := by rw [HHAS.out p1 (i64_wf HI.out.2)]; exact decide_eq_true hin
              have HE : Hid (decide (Sl.May xs) = false) := Lib.hid (HNO.out fun hm => (HNX.out.1 hm).2.2.2 hin)
              clear hin
              go_wp2_with (at_lookup; refine wpList_lookup_own_unit _ rfl _ _ 142 rfl 3 59 Sl.law Try.underlying142 (Sl.zero _) w.heap.size k _ rfl HOWN.out _ _ rfl HKEY.out ?_)
              go_ret
              exact ⟨by rw [HE.out]; rfl, (HXB.out.trans HX2.out).alloc _⟩
            · have hh : Maps.has D (Lit.int .i64 p1) = false := by rw [HHAS.out p1 (i64_wf HI.out.2)]; exact decide_eq_false hin
              have HCN := Lib.hid (HCON.out hin)
              clear hin HCON
              have k2 : (w2.alloc (.cells #[] 59)).cell? ⟨wr.heap.size, 1, none⟩ = some (.int .i64 p1) := Ext.box (HX2.out.alloc _) 1 (.int .i64 p1) rfl
              go_wp2_with (first | (at_lookup; refine wpList_lookup_own_unit _ rfl _ _ 142 rfl 3 59 Sl.law Try.underlying142 (Sl.zero _) w.heap.size k _ rfl HOWN.out _ _ rfl HKEY.out ?_) | (at_mapUpdate; refine wpList_mapUpdate_own _ rfl _ _ _ 142 rfl 3 59 Sl.law Try.underlying142 (unitElem (H := Unit)) w.heap.size k _ rfl (HOWN.out.alloc _) (by unfold maxLen; omega) _ _ _ rfl rfl HKEY.out _ [] unitElem_mk ?_; intro w3 hown3 hgrow3))
              have HSN : Hid (SetAt w3 w.heap.size (k + 1) ((xs.take (k + 1)).map Prod.snd)) := Lib.hid (SetAt.add HISM.out HHAS.out hown3 HTK.out (i64_wf HI.out.2))
              have HX3 : Hid (Ext w w3) := Lib.hid (Below.grown ((HXB.out.trans HX2.out).alloc _) hgrow3 (((HXB.out.trans HX2.out).alloc _).size) (fun k e => by injection e with e; omega))
              go_roundw
              case rel => exact ⟨k + 1, by omega, by go_num, HCN.out, HSN.out, HX3.out⟩
              case measure => simp [intOf]; omega
      · have HE : Hid (decide (Sl.May xs) = false) := Lib.hid (HNO.out fun hm => hf (HNX.out.1 hm).2.1)
        clear HP HC HNX HNO
        have hf' : p0 < 0 ∨ (0 ≤ p0 ∧ (4611686018427387904 ≤ p0 ∨ (p0 < 4611686018427387904 ∧ p1 < 1))) := by unfold Sl.fit at hf; simp only at hf; omega
        clear hf
        rcases hf' with f0 | ⟨f0, f1 | ⟨f1, f2⟩⟩
        · go_wp2
          refine region_all (fun v => Ext (wr.alloc (.cells #[.int .i64 p0, .int .i64 p1] 129)) v) (by kernel_rfl) (Ext.refl _).drew ?_
          clear c0 c1
          have K0 := fun v (hv : Ext (wr.alloc (.cells #[.int .i64 p0, .int .i64 p1] 129)) v) => Ext.box hv 0 (.int .i64 p0) rfl
          have K1 := fun v (hv : Ext (wr.alloc (.cells #[.int .i64 p0, .int .i64 p1] 129)) v) => Ext.box hv 1 (.int .i64 p1) rfl
          have b0 : decide (p0 < 0) = true := by simp; omega
          refine all_take (i := 0) (v := ?_) rfl (by kernel_rfl) (by kernel_rfl) (by kernel_rfl) (fun _ _ _ h => h) (Tame.yes (by kernel_rfl) fun w hS => ?_) ?_
          rotate_left 1
          · skip
            go_simp
            try simp only [b0]
            refine gives_mk ?_ hS
            with_reducible rfl
          refine all_take (i := 1) (v := ?_) rfl (by kernel_rfl) (by kernel_rfl) (by kernel_rfl) (fun _ _ _ h => h) (Tame.yes (by kernel_rfl) fun w hS => ?_) ?_
          rotate_left 1
          · skip
            go_simp
            try simp only [b0]
            refine gives_mk ?_ hS
            with_reducible rfl
          refine all_take (i := 2) (v := ?_) rfl (by kernel_rfl) (by kernel_rfl) (by kernel_rfl) (fun _ _ _ h => h) (Tame.yes (by kernel_rfl) fun w hS => ?_) ?_
          rotate_left 1
          · skip
            go_simp
            try simp only [b0]
            refine gives_mk ?_ hS
            with_reducible rfl
          refine all_take (i := 3) (v := ?_) rfl (by kernel_rfl) (by kernel_rfl) (by kernel_rfl) (fun _ _ _ h => h) (Tame.yes (by kernel_rfl) fun w hS => ?_) ?_
          rotate_left 1
          · skip
            go_simp
            try simp only [b0]
            refine gives_mk ?_ hS
            with_reducible rfl
          refine all_take (i := 4) rfl (by kernel_rfl) (by kernel_rfl) (by kernel_rfl) (fun _ _ _ h => h) (Tame.no (by kernel_rfl)) ?_
          refine all_take (i := 5) rfl (by kernel_rfl) (by kernel_rfl) (by kernel_rfl) (fun _ _ _ h => h) (Tame.no (by kernel_rfl)) ?_
          refine all_take (i := 6) rfl (by kernel_rfl) (by kernel_rfl) (by kernel_rfl) (fun _ _ _ h => h) (Tame.no (by kernel_rfl)) ?_
          refine all_take (i := 7) (v := ?_) rfl (by kernel_rfl) (by kernel_rfl) (by kernel_rfl) (fun _ _ _ h => h) (Tame.yes (by kernel_rfl) fun w hS => ?_) ?_
          rotate_left 1
          · skip
            go_simp
            try simp only [b0]
            refine gives_mk ?_ hS
            with_reducible rfl
          refine all_take (i := 8) (v := ?_) rfl (by kernel_rfl) (by kernel_rfl) (by kernel_rfl) (fun _ _ _ h => h) (Tame.yes (by kernel_rfl) fun w hS => ?_) ?_
          rotate_left 1
          · skip
            go_simp
            try simp only [b0]
            refine gives_mk ?_ hS
            with_reducible rfl
          refine all_take (i := 9) rfl (by kernel_rfl) (by kernel_rfl) (by kernel_rfl) (fun _ _ _ h => h) (Tame.no (by kernel_rfl)) ?_
          refine all_take (i := 10) rfl (by kernel_rfl) (by kernel_rfl) (by kernel_rfl) (fun _ _ _ h => h) (Tame.no (by kernel_rfl)) ?_
          refine all_take (i := 11) rfl (by kernel_rfl) (by kernel_rfl) (by kernel_rfl) (fun _ _ _ h => h) (Tame.no (by kernel_rfl)) ?_
          refine all_take (i := 12) (v := ?_) rfl (by kernel_rfl) (by kernel_rfl) (by kernel_rfl) (fun _ _ _ h => h) (Tame.yes (by kernel_rfl) fun w hS => ?_) ?_
          rotate_left 1
          · skip
            go_simp
            try simp only [b0]
            refine gives_mk ?_ hS
            with_reducible rfl
          refine all_take (i := 13) (v := ?_) rfl (by kernel_rfl) (by kernel_rfl) (by kernel_rfl) (fun _ _ _ h => h) (Tame.yes (by kernel_rfl) fun w hS => ?_) ?_
          rotate_left 1
          · skip
            go_simp
            try simp only [b0]
            refine gives_mk ?_ hS
            with_reducible rfl
          refine all_take (i := 14) rfl (by kernel_rfl) (by kernel_rfl) (by kernel_rfl) (fun _ _ _ h => h) (Tame.no (by kernel_rfl)) ?_
          refine all_take (i := 15) rfl (by kernel_rfl) (by kernel_rfl) (by kernel_rfl) (fun _ _ _ h => h) (Tame.no (by kernel_rfl)) ?_
          refine all_take (i := 16) rfl (by kernel_rfl) (by kernel_rfl) (by kernel_rfl) (fun _ _ _ h => h) (Tame.no (by kernel_rfl)) ?_
          refine all_take (i := 17) rfl (by kernel_rfl) (by kernel_rfl) (by kernel_rfl) (fun _ _ _ h => h) (Tame.no (by kernel_rfl)) ?_
          refine all_take (i := 18) rfl (by kernel_rfl) (by kernel_rfl) (by kernel_rfl) (fun _ _ _ h => h) (Tame.no (by kernel_rfl)) ?_
          refine all_take (i := 19) rfl (by kernel_rfl) (by kernel_rfl) (by kernel_rfl) (fun _ _ _ h => h) (Tame.no (by kernel_rfl)) ?_
          refine all_take (i := 20) rfl (by kernel_rfl) (by kernel_rfl) (by kernel_rfl) (fun _ _ _ h => h) (Tame.no (by kernel_rfl)) ?_
          refine all_take (i := 21) rfl (by kernel_rfl) (by kernel_rfl) (by kernel_rfl) (fun _ _ _ h => h) (Tame.no (by kernel_rfl)) ?_
          refine all_take (i := 22) rfl (by kernel_rfl) (by kernel_rfl) (by kernel_rfl) (fun _ _ _ h => h) (Tame.no (by kernel_rfl)) ?_
          refine all_take (i := 23) rfl (by kernel_rfl) (by kernel_rfl) (by kernel_rfl) (fun _ _ _ h => h) (Tame.no (by kernel_rfl)) ?_
          refine all_take (i := 24) rfl (by kernel_rfl) (by kernel_rfl) (by kernel_rfl) (fun _ _ _ h => h) (Tame.no (by kernel_rfl)) ?_
          refine all_take (i := 25) rfl (by kernel_rfl) (by kernel_rfl) (by kernel_rfl) (fun _ _ _ h => h) (Tame.no (by kernel_rfl)) ?_
          refine all_take (i := 26) (v := ?_) rfl (by kernel_rfl) (by kernel_rfl) (by kernel_rfl) (fun _ _ _ h => h) (Tame.yes (by kernel_rfl) fun w hS => ?_) ?_
          rotate_left 1
          · skip
            go_simp
            try simp only [b0]
            refine gives_mk ?_ hS
            with_reducible rfl
          clear b0
          refine all_done (by kernel_rfl) ?_ _
          intro w2 hx2
          have HX2 := Lib.hid hx2
          have k1 := K1 _ hx2
          clear hx2 K0 K1
          go_simp
          clear k1
          go_wp2
          go_ret
          exact ⟨by rw [HE.out]; rfl, HXB.out.trans HX2.out⟩
        · go_wp2
          refine region_all (fun v => Ext (wr.alloc (.cells #[.int .i64 p0, .int .i64 p1] 129)) v) (by kernel_rfl) (Ext.refl _).drew ?_
          clear c0 c1
          have K0 := fun v (hv : Ext (wr.alloc (.cells #[.int .i64 p0, .int .i64 p1] 129)) v) => Ext.box hv 0 (.int .i64 p0) rfl
          have K1 := fun v (hv : Ext (wr.alloc (.cells #[.int .i64 p0, .int .i64 p1] 129)) v) => Ext.box hv 1 (.int .i64 p1) rfl
          have b0 : decide (p0 < 0) = false := by simp; omega
          have b1 : decide (4611686018427387904 ≤ p0) = true := by simp; omega
          refine all_take (i := 0) (v := ?_) rfl (by kernel_rfl) (by kernel_rfl) (by kernel_rfl) (fun _ _ _ h => h) (Tame.yes (by kernel_rfl) fun w hS => ?_) ?_
          rotate_left 1
          · skip
            go_simp
            try simp only [b0, b1, Bool.false_or]
            refine gives_mk ?_ hS
            with_reducible rfl
          refine all_take (i := 1) (v := ?_) rfl (by kernel_rfl) (by kernel_rfl) (by kernel_rfl) (fun _ _ _ h => h) (Tame.yes (by kernel_rfl) fun w hS => ?_) ?_
          rotate_left 1
          · skip
            go_simp
            try simp only [b0, b1, Bool.false_or]
            refine gives_mk ?_ hS
            with_reducible rfl
          refine all_take (i := 2) (v := ?_) rfl (by kernel_rfl) (by kernel_rfl) (by kernel_rfl) (fun _ _ _ h => h) (Tame.yes (by kernel_rfl) fun w hS => ?_) ?_
          rotate_left 1
          · skip
            go_simp
            try simp only [b0, b1, Bool.false_or]
            refine gives_mk ?_ hS
            with_reducible rfl
          refine all_take (i := 3) (v := ?_) rfl (by kernel_rfl) (by kernel_rfl) (by kernel_rfl) (fun _ _ _ h => h) (Tame.yes (by kernel_rfl) fun w hS => ?_) ?_
          rotate_left 1
          · skip
            go_simp
            try simp only [b0, b1, Bool.false_or]
            refine gives_mk ?_ hS
            with_reducible rfl
          refine all_take (i := 4) (v := ?_) rfl (by kernel_rfl) (by kernel_rfl) (by kernel_rfl) (fun _ _ _ h => h) (Tame.yes (by kernel_rfl) fun w hS => ?_) ?_
          rotate_left 1
          · skip
            go_simp
            try simp only [b0, b1, Bool.false_or]
            refine gives_mk ?_ hS
            with_reducible rfl
          refine all_take (i := 5) (v := ?_) rfl (by kernel_rfl) (by kernel_rfl) (by kernel_rfl) (fun _ _ _ h => h) (Tame.yes (by kernel_rfl) fun w hS => ?_) ?_
          rotate_left 1
          · skip
            go_simp
            try simp only [b0, b1, Bool.false_or]
            refine gives_mk ?_ hS
            with_reducible rfl
          refine all_take (i := 6) (v := ?_) rfl (by kernel_rfl) (by kernel_rfl) (by kernel_rfl) (fun _ _ _ h => h) (Tame.yes (by kernel_rfl) fun w hS => ?_) ?_
          rotate_left 1
          · skip
            go_simp
            try simp only [b0, b1, Bool.false_or]
            refine gives_mk ?_ hS
            with_reducible rfl
          refine all_take (i := 7) (v := ?_) rfl (by kernel_rfl) (by kernel_rfl) (by kernel_rfl) (fun _ _ _ h => h) (Tame.yes (by kernel_rfl) fun w hS => ?_) ?_
          rotate_left 1
          · skip
            go_simp
            try simp only [b0, b1, Bool.false_or]
            refine gives_mk ?_ hS
            with_reducible rfl
          refine all_take (i := 8) (v := ?_) rfl (by kernel_rfl) (by kernel_rfl) (by kernel_rfl) (fun _ _ _ h => h) (Tame.yes (by kernel_rfl) fun w hS => ?_) ?_
          rotate_left 1
          · skip
            go_simp
            try simp only [b0, b1, Bool.false_or]
            refine gives_mk ?_ hS
            with_reducible rfl
          refine all_take (i := 9) rfl (by kernel_rfl) (by kernel_rfl) (by kernel_rfl) (fun _ _ _ h => h) (Tame.no (by kernel_rfl)) ?_
          refine all_take (i := 10) rfl (by kernel_rfl) (by kernel_rfl) (by kernel_rfl) (fun _ _ _ h => h) (Tame.no (by kernel_rfl)) ?_
          refine all_take (i := 11) rfl (by kernel_rfl) (by kernel_rfl) (by kernel_rfl) (fun _ _ _ h => h) (Tame.no (by kernel_rfl)) ?_
          refine all_take (i := 12) (v := ?_) rfl (by kernel_rfl) (by kernel_rfl) (by kernel_rfl) (fun _ _ _ h => h) (Tame.yes (by kernel_rfl) fun w hS => ?_) ?_
          rotate_left 1
          · skip
            go_simp
            try simp only [b0, b1, Bool.false_or]
            refine gives_mk ?_ hS
            with_reducible rfl
          refine all_take (i := 13) (v := ?_) rfl (by kernel_rfl) (by kernel_rfl) (by kernel_rfl) (fun _ _ _ h => h) (Tame.yes (by kernel_rfl) fun w hS => ?_) ?_
          rotate_left 1
          · skip
            go_simp
            try simp only [b0, b1, Bool.false_or]
            refine gives_mk ?_ hS
            with_reducible rfl
          refine all_take (i := 14) rfl (by kernel_rfl) (by kernel_rfl) (by kernel_rfl) (fun _ _ _ h => h) (Tame.no (by kernel_rfl)) ?_
          refine all_take (i := 15) rfl (by kernel_rfl) (by kernel_rfl) (by kernel_rfl) (fun _ _ _ h => h) (Tame.no (by kernel_rfl)) ?_
          refine all_take (i := 16) rfl (by kernel_rfl) (by kernel_rfl) (by kernel_rfl) (fun _ _ _ h => h) (Tame.no (by kernel_rfl)) ?_
          refine all_take (i := 17) rfl (by kernel_rfl) (by kernel_rfl) (by kernel_rfl) (fun _ _ _ h => h) (Tame.no (by kernel_rfl)) ?_
          refine all_take (i := 18) rfl (by kernel_rfl) (by kernel_rfl) (by kernel_rfl) (fun _ _ _ h => h) (Tame.no (by kernel_rfl)) ?_
          refine all_take (i := 19) rfl (by kernel_rfl) (by kernel_rfl) (by kernel_rfl) (fun _ _ _ h => h) (Tame.no (by kernel_rfl)) ?_
          refine all_take (i := 20) rfl (by kernel_rfl) (by kernel_rfl) (by kernel_rfl) (fun _ _ _ h => h) (Tame.no (by kernel_rfl)) ?_
          refine all_take (i := 21) rfl (by kernel_rfl) (by kernel_rfl) (by kernel_rfl) (fun _ _ _ h => h) (Tame.no (by kernel_rfl)) ?_
          refine all_take (i := 22) rfl (by kernel_rfl) (by kernel_rfl) (by kernel_rfl) (fun _ _ _ h => h) (Tame.no (by kernel_rfl)) ?_
          refine all_take (i := 23) rfl (by kernel_rfl) (by kernel_rfl) (by kernel_rfl) (fun _ _ _ h => h) (Tame.no (by kernel_rfl)) ?_
          refine all_take (i := 24) rfl (by kernel_rfl) (by kernel_rfl) (by kernel_rfl) (fun _ _ _ h => h) (Tame.no (by kernel_rfl)) ?_
          refine all_take (i := 25) rfl (by kernel_rfl) (by kernel_rfl) (by kernel_rfl) (fun _ _ _ h => h) (Tame.no (by kernel_rfl)) ?_
          refine all_take (i := 26) (v := ?_) rfl (by kernel_rfl) (by kernel_rfl) (by kernel_rfl) (fun _ _ _ h => h) (Tame.yes (by kernel_rfl) fun w hS => ?_) ?_
          rotate_left 1
          · skip
            go_simp
            try simp only [b0, b1, Bool.false_or]
            refine gives_mk ?_ hS
            with_reducible rfl
          clear b0 b1
          refine all_done (by kernel_rfl) ?_ _
          intro w2 hx2
          have HX2 := Lib.hid hx2
          have k1 := K1 _ hx2
          clear hx2 K0 K1
          go_simp
          clear k1
          go_wp2
          go_ret
          exact ⟨by rw [HE.out]; rfl, HXB.out.trans HX2.out⟩
        · go_wp2
          refine region_all (fun v => Ext (wr.alloc (.cells #[.int .i64 p0, .int .i64 p1] 129)) v) (by kernel_rfl) (Ext.refl _).drew ?_
          clear c0 c1
          have K0 := fun v (hv : Ext (wr.alloc (.cells #[.int .i64 p0, .int .i64 p1] 129)) v) => Ext.box hv 0 (.int .i64 p0) rfl
          have K1 := fun v (hv : Ext (wr.alloc (.cells #[.int .i64 p0, .int .i64 p1] 129)) v) => Ext.box hv 1 (.int .i64 p1) rfl
          have b0 : decide (p0 < 0) = false := by simp; omega
          have b1 : decide (4611686018427387904 ≤ p0) = false := by simp; omega
          have b2 : decide (p1 < 1) = true := by simp; omega
          refine all_take (i := 0) (v := ?_) rfl (by kernel_rfl) (by kernel_rfl) (by kernel_rfl) (fun _ _ _ h => h) (Tame.yes (by kernel_rfl) fun w hS => ?_) ?_
          rotate_left 1
          · skip
            go_simp
            try simp only [b0, b1, b2, Bool.false_or]
            refine gives_mk ?_ hS
            with_reducible rfl
          refine all_take (i := 1) (v := ?_) rfl (by kernel_rfl) (by kernel_rfl) (by kernel_rfl) (fun _ _ _ h => h) (Tame.yes (by kernel_rfl) fun w hS => ?_) ?_
          rotate_left 1
          · skip
            go_simp
            try simp only [b0, b1, b2, Bool.false_or]
            refine gives_mk ?_ hS
            with_reducible rfl
          refine all_take (i := 2) (v := ?_) rfl (by kernel_rfl) (by kernel_rfl) (by kernel_rfl) (fun _ _ _ h => h) (Tame.yes (by kernel_rfl) fun w hS => ?_) ?_
          rotate_left 1
          · skip
            go_simp
            try simp only [b0, b1, b2, Bool.false_or]
            refine gives_mk ?_ hS
            with_reducible rfl
          refine all_take (i := 3) (v := ?_) rfl (by kernel_rfl) (by kernel_rfl) (by kernel_rfl) (fun _ _ _ h => h) (Tame.yes (by kernel_rfl) fun w hS => ?_) ?_
          rotate_left 1
          · skip
            go_simp
            try simp only [b0, b1, b2, Bool.false_or]
            refine gives_mk ?_ hS
            with_reducible rfl
          refine all_take (i := 4) (v := ?_) rfl (by kernel_rfl) (by kernel_rfl) (by kernel_rfl) (fun _ _ _ h => h) (Tame.yes (by kernel_rfl) fun w hS => ?_) ?_
          rotate_left 1
          · skip
            go_simp
            try simp only [b0, b1, b2, Bool.false_or]
            refine gives_mk ?_ hS
            with_reducible rfl
          refine all_take (i := 5) (v := ?_) rfl (by kernel_rfl) (by kernel_rfl) (by kernel_rfl) (fun _ _ _ h => h) (Tame.yes (by kernel_rfl) fun w hS => ?_) ?_
          rotate_left 1
          · skip
            go_simp
            try simp only [b0, b1, b2, Bool.false_or]
            refine gives_mk ?_ hS
            with_reducible rfl
          refine all_take (i := 6) (v := ?_) rfl (by kernel_rfl) (by kernel_rfl) (by kernel_rfl) (fun _ _ _ h => h) (Tame.yes (by kernel_rfl) fun w hS => ?_) ?_
          rotate_left 1
          · skip
            go_simp
            try simp only [b0, b1, b2, Bool.false_or]
            refine gives_mk ?_ hS
            with_reducible rfl
          refine all_take (i := 7) (v := ?_) rfl (by kernel_rfl) (by kernel_rfl) (by kernel_rfl) (fun _ _ _ h => h) (Tame.yes (by kernel_rfl) fun w hS => ?_) ?_
          rotate_left 1
          · skip
            go_simp
            try simp only [b0, b1, b2, Bool.false_or]
            refine gives_mk ?_ hS
            with_reducible rfl
          refine all_take (i := 8) (v := ?_) rfl (by kernel_rfl) (by kernel_rfl) (by kernel_rfl) (fun _ _ _ h => h) (Tame.yes (by kernel_rfl) fun w hS => ?_) ?_
          rotate_left 1
          · skip
            go_simp
            try simp only [b0, b1, b2, Bool.false_or]
            refine gives_mk ?_ hS
            with_reducible rfl
          refine all_take (i := 9) (v := ?_) rfl (by kernel_rfl) (by kernel_rfl) (by kernel_rfl) (fun _ _ _ h => h) (Tame.yes (by kernel_rfl) fun w hS => ?_) ?_
          rotate_left 1
          · skip
            go_simp
            try simp only [b0, b1, b2, Bool.false_or]
            refine gives_mk ?_ hS
            with_reducible rfl
          refine all_take (i := 10) (v := ?_) rfl (by kernel_rfl) (by kernel_rfl) (by kernel_rfl) (fun _ _ _ h => h) (Tame.yes (by kernel_rfl) fun w hS => ?_) ?_
          rotate_left 1
          · skip
            go_simp
            try simp only [b0, b1, b2, Bool.false_or]
            refine gives_mk ?_ hS
            with_reducible rfl
          refine all_take (i := 11) (v := ?_) rfl (by kernel_rfl) (by kernel_rfl) (by kernel_rfl) (fun _ _ _ h => h) (Tame.yes (by kernel_rfl) fun w hS => ?_) ?_
          rotate_left 1
          · skip
            go_simp
            try simp only [b0, b1, b2, Bool.false_or]
            refine gives_mk ?_ hS
            with_reducible rfl
          refine all_take (i := 12) (v := ?_) rfl (by kernel_rfl) (by kernel_rfl) (by kernel_rfl) (fun _ _ _ h => h) (Tame.yes (by kernel_rfl) fun w hS => ?_) ?_
          rotate_left 1
          · skip
            go_simp
            try simp only [b0, b1, b2, Bool.false_or]
            refine gives_mk ?_ hS
            with_reducible rfl
          refine all_take (i := 13) (v := ?_) rfl (by kernel_rfl) (by kernel_rfl) (by kernel_rfl) (fun _ _ _ h => h) (Tame.yes (by kernel_rfl) fun w hS => ?_) ?_
          rotate_left 1
          · skip
            go_simp
            try simp only [b0, b1, b2, Bool.false_or]
            refine gives_mk ?_ hS
            with_reducible rfl
          refine all_take (i := 14) rfl (by kernel_rfl) (by kernel_rfl) (by kernel_rfl) (fun _ _ _ h => h) (Tame.no (by kernel_rfl)) ?_
          refine all_take (i := 15) rfl (by kernel_rfl) (by kernel_rfl) (by kernel_rfl) (fun _ _ _ h => h) (Tame.no (by kernel_rfl)) ?_
          refine all_take (i := 16) rfl (by kernel_rfl) (by kernel_rfl) (by kernel_rfl) (fun _ _ _ h => h) (Tame.no (by kernel_rfl)) ?_
          refine all_take (i := 17) rfl (by kernel_rfl) (by kernel_rfl) (by kernel_rfl) (fun _ _ _ h => h) (Tame.no (by kernel_rfl)) ?_
          refine all_take (i := 18) rfl (by kernel_rfl) (by kernel_rfl) (by kernel_rfl) (fun _ _ _ h => h) (Tame.no (by kernel_rfl)) ?_
          refine all_take (i := 19) rfl (by kernel_rfl) (by kernel_rfl) (by kernel_rfl) (fun _ _ _ h => h) (Tame.no (by kernel_rfl)) ?_
          refine all_take (i := 20) rfl (by kernel_rfl) (by kernel_rfl) (by kernel_rfl) (fun _ _ _ h => h) (Tame.no (by kernel_rfl)) ?_
          refine all_take (i := 21) rfl (by kernel_rfl) (by kernel_rfl) (by kernel_rfl) (fun _ _ _ h => h) (Tame.no (by kernel_rfl)) ?_
          refine all_take (i := 22) rfl (by kernel_rfl) (by kernel_rfl) (by kernel_rfl) (fun _ _ _ h => h) (Tame.no (by kernel_rfl)) ?_
          refine all_take (i := 23) rfl (by kernel_rfl) (by kernel_rfl) (by kernel_rfl) (fun _ _ _ h => h) (Tame.no (by kernel_rfl)) ?_
          refine all_take (i := 24) rfl (by kernel_rfl) (by kernel_rfl) (by kernel_rfl) (fun _ _ _ h => h) (Tame.no (by kernel_rfl)) ?_
          refine all_take (i := 25) rfl (by kernel_rfl) (by kernel_rfl) (by kernel_rfl) (fun _ _ _ h => h) (Tame.no (by kernel_rfl)) ?_
          refine all_take (i := 26) (v := ?_) rfl (by kernel_rfl) (by kernel_rfl) (by kernel_rfl) (fun _ _ _ h => h) (Tame.yes (by kernel_rfl) fun w hS => ?_) ?_
          rotate_left 1
          · skip
            go_simp
            try simp only [b0, b1, b2, Bool.false_or]
            refine gives_mk ?_ hS
            with_reducible rfl
          clear b0 b1 b2
          refine all_done (by kernel_rfl) ?_ _
          intro w2 hx2
          have HX2 := Lib.hid hx2
          have k1 := K1 _ hx2
          clear hx2 K0 K1
          go_simp
          clear k1
          go_wp2
          go_ret
          exact ⟨by rw [HE.out]; rfl, HXB.out.trans HX2.out⟩
    · have HE : Hid (decide (Sl.May xs) = true) := Lib.hid (decide_eq_true (by have := HM.out; rwa [List.take_of_length_le (by omega)] at this))
      go_wp2
      go_ret
      exact ⟨by rw [HE.out]; rfl, HX.out⟩
def pairL (p : Int × Int) : List Value := [.int .i64 p.1, .int .i64 p.2]
theorem PairsAt.rows {w : World} {v : Value} {xs : List (Int × Int)} (h : PairsAt w v xs) : RowsAt 2 pairL w v xs := by
  obtain ⟨A, c, rfl, hc, hA⟩ := h
  refine ⟨A, c, rfl, hc, fun h0 => ?_⟩
  obtain ⟨b, o, hb, hlt, hcell⟩ := hA h0
  refine ⟨b, o, hb, hlt, fun j p hj i u hu => ?_⟩
  match i with
  | 0 => simp [pairL] at hu; subst hu; exact (hcell j p hj).1
  | 1 => simp [pairL] at hu; subst hu; exact (hcell j p hj).2
  | i + 2 => simp [pairL] at hu
theorem RowsAt.pairs {w : World} {v : Value} {xs : List (Int × Int)} (h : RowsAt 2 pairL w v xs) : PairsAt w v xs := by
  obtain ⟨A, c, rfl, hc, hA⟩ := h
  refine ⟨A, c, rfl, hc, fun h0 => ?_⟩
  obtain ⟨b, o, hb, hlt, hcell⟩ := hA h0
  exact ⟨b, o, hb, hlt, fun j p hj => ⟨hcell j p hj 0 _ rfl, hcell j p hj 1 _ rfl⟩⟩
end Go.Proofs.Ytdcbaddndoilfaa
