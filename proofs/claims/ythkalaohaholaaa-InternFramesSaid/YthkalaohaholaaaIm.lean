/-
  The contract of intern's Frames.
-/
import Derived.Test.YthkalaohaholaaaIl
import Derived.Test.YthkalaohaholaaaRx
set_option linter.unusedVariables false
set_option linter.unusedSimpArgs false
namespace Go.Proofs.Ythkalaohaholaaa
open Go.RowKit Go.Maps

def fcL (f : ByteArray × Int) : List Value := [.string f.1, .int .i64 f.2]
theorem fcL_len (f : ByteArray × Int) : (fcL f).length = 2 := rfl
theorem fcL_one (p : ByteArray × Int) : ∀ u ∈ fcL p, u.oneCell' = true := by intro u hu; simp [fcL] at hu; rcases hu with rfl | rfl <;> rfl
theorem Try.infoFr : (Try.prog.info? 45).map (fun i => (i.zero, i.size, i.bytes)) = some (some (.agg #[.string ⟨#[]⟩, .int .i64 0]), 2, 24) := by kernel_rfl
def FramesP (r : List (ByteArray × Int) × Bool) (w : World) (e : Ending) (w' : World) : Prop := ∃ v, e = .returned (.tuple #[v, .bool r.2]) ∧ RowsAt 2 fcL w' v r.1 ∧ Ext w w'
theorem Tb.told_next {ss : List ByteArray} {l : List (Int × Int)} {k : Nat} (h : k < l.length) : Tb.told ss (l.take (k + 1)) = Tb.told ss (l.take k) ++ [(ss.getD (l[k].1 - 1).toNat ⟨#[]⟩, l[k].2)] := by
  unfold Tb.told
  rw [List.take_succ_eq_append_getElem h, List.map_append]
  rfl
theorem frs_get {w : World} {A : Option Addr} {n c : Nat} {l : List (Int × Int)} (h : RowsAt 2 frL w (.slice A n c) l) {k : Nat} {f : Int × Int} (hk : l[k]? = some f) : ∃ b o, A = some ⟨b, o, none⟩ ∧ b < w.heap.size ∧ w.cell? ⟨b, o + k * 2, none⟩ = some (.int .i64 f.1) ∧ w.cell? ⟨b, o + k * 2 + 1, none⟩ = some (.int .i64 f.2) := by
  have hl := (List.getElem?_eq_some_iff.1 hk).1
  obtain ⟨b, o, hA, hb, hc⟩ := h.cell (by omega)
  exact ⟨b, o, hA, hb, by have := hc k f hk 0 _ rfl; rwa [Nat.add_zero] at this, hc k f hk 1 _ rfl⟩
/-- What a round's region keeps: the frames so far, the frame that it reads. -/
structure FrK (n : Nat) (c0 c1 : Value) (B : Nat) (v : Value) (xs : List (ByteArray × Int)) (w : World) : Prop where
  own : OwnRows 45 2 fcL w B v xs
  box : w.heap[n]? = some (.cells #[c0, c1] 54 (0, 0))
theorem FrK.low {n M : Nat} {c0 c1 : Value} {B : Nat} {v : Value} {xs : List (ByteArray × Int)} {w w' : World} (h : FrK n c0 c1 B v xs w) (hl : LowSame M w w') (hlt : (∀ k, v.ownBlock = some k → k < M) ∧ n < M) : FrK n c0 c1 B v xs w' := ⟨h.own.low hl hlt.1, (hl n hlt.2).trans h.box⟩
set_option maxRecDepth 100000 in
set_option maxHeartbeats 8000000 in
theorem iframes_any (v : Value) (t : Tb) (id : Int) (w : World) (h : TabAt w v t) (hl : t.ss.length ≤ 100000) (hm' : t.ks.length ≤ 100000) :
    Calls Try.prog 17 #[v, .int .i64 id] w (FramesP (t.frames id) w) := by
  obtain ⟨A, c, B, d, rfl, h1, h2⟩ := h.two
  obtain ⟨w1, hw1⟩ : ∃ w1, w.alloc (.cells #[.slice A t.ss.length c, .slice B t.ks.length d] 25) = w1 := ⟨_, rfl⟩
  have HX1 : Hid (Ext w w1) := Lib.hid (by rw [← hw1]; exact (Ext.refl w).alloc _)
  have HB1 : Hid (w1.heap[w.heap.size]? = some (.cells #[.slice A t.ss.length c, .slice B t.ks.length d] 25)) := Lib.hid (by rw [← hw1]; exact blk_new w _)
  have HM := Lib.hid (imay_any _ t w1 (h.ext HX1.out) hl hm')
  have HW1 := Lib.hid hw1
  have HS := Lib.hid h1
  have HK := Lib.hid h2
  have b0 := blk_cell HB1.out 0 _ rfl
  have b1 := blk_cell HB1.out 1 _ rfl
  clear h h1 h2 hw1
  have HNIL : Hid (∀ w' b, Ext w w' → t.frames id = ([], b) → FramesP (t.frames id) w (.returned (.tuple #[.slice none 0 0, .bool b])) w') := Lib.hid fun w' b hx ht => by
    rw [ht]
    exact ⟨_, rfl, RowsAt.nil w', hx⟩
  by_cases hin : 0 ≤ id ∧ id ≤ t.ks.length
  · obtain ⟨i0, i1⟩ := hin
    cases hm : t.may with
    | false =>
      have HT : Hid (t.frames id = ([], false)) := Lib.hid (by unfold Tb.frames; rw [if_neg (by rw [hm]; simp)])
      rw [hm] at HM
      go_enter Try.func17, Try.ntmps17
      go_wp2_with (rw [HW1.out])
      refine HM.out.mono ?_
      rintro e wm ⟨rfl, hx⟩
      go_wp2
      go_ret2
      exact HNIL.out _ _ (HX1.out.trans hx) HT.out
    | true =>
      rw [hm] at HM
      by_cases h0 : id = 0
      · subst h0
        have HT : Hid (t.frames 0 = ([], true)) := Lib.hid (by unfold Tb.frames; rw [if_pos ⟨i0, i1, hm⟩, if_pos rfl])
        go_enter Try.func17, Try.ntmps17
        go_wp2_with (rw [HW1.out])
        refine HM.out.mono ?_
        rintro e wm ⟨rfl, hx⟩
        go_wp2
        go_ret2
        exact HNIL.out _ _ (HX1.out.trans hx) HT.out
      · obtain ⟨k, rfl⟩ : ∃ k : Nat, id = (k : Int) + 1 := ⟨(id - 1).toNat, by omega⟩
        have hk : k < t.ks.length := by omega
        obtain ⟨l, hs⟩ : ∃ l, t.ks[k]? = some l := ⟨_, List.getElem?_eq_getElem hk⟩
        have HT : Hid (t.frames ((k : Int) + 1) = (Tb.told t.ss l, true)) := Lib.hid (by
          unfold Tb.frames
          rw [if_pos ⟨i0, i1, hm⟩, if_neg h0, show ((k : Int) + 1 - 1).toNat = k by omega, List.getD, hs]
          rfl)
        have hz0 : (((k : Int) + 1) == 0) = false := by simpa using h0
        have hml := Tb.mayK_iff.1 ((Tb.may_iff.1 hm).2.2.2.2.1 l (List.mem_of_getElem? hs))
        have HML := Lib.hid hml.2.2
        have hl100 := hml.2.1
        have HSS := Lib.hid hs
        clear hs hml
        go_enter Try.func17, Try.ntmps17
        go_wp2_with (rw [HW1.out])
        refine HM.out.mono ?_
        rintro e wm ⟨rfl, hx⟩
        obtain ⟨b, o, u, rfl, hb, hcell, hrow⟩ := (HK.out.ext (HX1.out.trans hx)).one HSS.out
        obtain ⟨C, q, rfl, hq⟩ := hrow.form
        have HB2 := Lib.hid (hx.blk HB1.out)
        have HX2 := Lib.hid (HX1.out.trans hx)
        have HR2 := Lib.hid hrow
        clear hx b0 b1 hrow
        have b1 := blk_cell HB2.out 1 _ rfl
        go_wp2_with fail
        go_loopw [6, 32] (fun ov iv wr => ∃ j : Nat, j ≤ l.length ∧ iv = .int .i64 j ∧ OwnRows 45 2 fcL wr wm.heap.size ov (Tb.told t.ss (l.take j)) ∧ Ext wm wr) (fun _ iv _ => l.length - (intOf iv).toNat)
        case atStart => exact ⟨0, by omega, rfl, OwnRows.nil _ _, Ext.refl wm⟩
        case round =>
          obtain ⟨j, hj, rfl, hown, hxr⟩ := hrel
          have HO := Lib.hid hown
          have HXR := Lib.hid hxr
          have hlr : (Tb.told t.ss (l.take j)).length = j := by unfold Tb.told; rw [List.length_map, List.length_take]; omega
          obtain ⟨Ao, co, rfl, hco⟩ := (OwnRows.rows fcL_len hown).form
          rw [hlr] at hco HO ⊢
          clear hown hxr b1
          by_cases hlt : j < l.length
          · obtain ⟨f, hf⟩ : ∃ f, l[j]? = some f := ⟨_, List.getElem?_eq_getElem hlt⟩
            have hff : l[j] = f := (List.getElem?_eq_some_iff.1 hf).2
            have hfm := HML.out f (List.mem_of_getElem? hf)
            have HTN := Lib.hid (Tb.told_next (ss := t.ss) hlt)
            rw [hff] at HTN
            obtain ⟨b', o', rfl, hb', c0, c1⟩ := frs_get (HR2.out.ext HXR.out) hf
            obtain ⟨f0, f1⟩ := f
            simp only at hfm c0 c1 HTN
            obtain ⟨p, rfl⟩ : ∃ p : Nat, f0 = (p : Int) + 1 := ⟨(f0 - 1).toNat, by omega⟩
            have hp : p < t.ss.length := by omega
            obtain ⟨s, hs⟩ : ∃ s, t.ss[p]? = some s := ⟨_, List.getElem?_eq_getElem hp⟩
            rw [show ((p : Int) + 1 - 1).toNat = p by omega, List.getD, hs, Option.getD_some] at HTN
            obtain ⟨bs, os, rfl, hbs, cs⟩ := strs_get (HS.out.ext (HX2.out.trans HXR.out)) hs
            obtain ⟨w3, hw3⟩ : ∃ w3, wr.alloc (.cells #[.int .i64 ((p : Int) + 1), .int .i64 f1] 54) = w3 := ⟨_, rfl⟩
            obtain ⟨n, hn⟩ : ∃ n, wr.heap.size = n := ⟨_, rfl⟩
            have hx3 : Ext wr w3 := by rw [← hw3]; exact (Ext.refl wr).alloc _
            have hq3 : w3.heap[n]? = some (.cells #[.int .i64 ((p : Int) + 1), .int .i64 f1] 54 (0, 0)) := by rw [← hw3, ← hn]; exact blk_new wr _
            have HB3 := Lib.hid ((HXR.out.trans hx3).blk HB2.out)
            have HX3 := Lib.hid (HXR.out.trans hx3)
            have HO3 := Lib.hid (OwnRows.ext HO.out hx3)
            have cs3 : w3.cell? ⟨bs, os + p, none⟩ = some (.string s) := (Below.cell hx3 hbs).trans cs
            have HQ3 := Lib.hid hq3
            have HW3 := Lib.hid hw3
            have HN3 := Lib.hid hn
            have q0 := blk_cell hq3 0 _ rfl
            have q1 := blk_cell hq3 1 _ rfl
            have b0 := blk_cell HB3.out 0 _ rfl
            have HSP := Lib.hid hs
            clear hx3 hq3 hw3 hn cs hff hf hs
            obtain ⟨i0, I0, I1, I2, I3⟩ := info_parts Try.infoFr
            have J0 := Lib.hid I0
            have J1 := Lib.hid I1
            have J2 := Lib.hid I2
            have J3 := Lib.hid I3
            have hlr3 : (Tb.told t.ss (l.take j)).length = j := hlr
            have HLR := Lib.hid hlr3
            have HCS := Lib.hid (fun w' (hx : Ext wm w') => strs_get (HS.out.ext (HX2.out.trans hx)) HSP.out)
            have hwp : IntKind.i64.wrap (p : Int) = (p : Int) := IntWalk.i64_in _ (by omega)
            have hpi : (p : Int) < (t.ss.length : Int) := by omega
            have hpn : (0 : Int) ≤ (p : Int) := by omega
            clear I0 I1 I2 I3 hlr3
            rcases HO3.out.2 with ⟨hv0, hl0⟩ | ⟨gb, cap, cur, hv0, hgb, hgc, _⟩
            · rw [HLR.out] at hl0
              subst hl0
              simp only [Value.slice.injEq, true_and] at hv0
              obtain ⟨rfl, rfl⟩ := hv0
              simp only [Nat.zero_mul, Nat.add_zero] at c0 c1
              have HCS3 := Lib.hid (fun w' (hx : Ext w3 w') => HCS.out w' (HX3.out.trans hx))
              go_upto_region 9 with (rw [HW3.out, HN3.out])
              clear q0 q1 b0 cs3 c0 c1
              refine region_rgx ([(11, (fun u => ∃ x, u = .slice (some ⟨x, 0, none⟩) 1 1 : Value → Prop), (fun u w => OneRow w3.heap.size 45 fcL w (u 11).v (s, f1) : (Nat → GV) → World → Prop)), (12, (fun u => ∃ A c, u = .slice A 1 c : Value → Prop), (fun u w => OwnRows 45 2 fcL w wm.heap.size (u 12).v [(s, f1)] : (Nat → GV) → World → Prop))]) (w3) (by kernel_rfl) (by kernel_rfl) ?_ ?_ ?_
              · exact List.forall_mem_cons.2 ⟨⟨⟨_, 0, rfl⟩, fun u v w h ht => by show (fun u w => OneRow w3.heap.size 45 fcL w (u 11).v (s, f1) : (Nat → GV) → World → Prop) v w; dsimp only; rw [← h 11 (.inl rfl) (by kernel_rfl)]; exact ht, fun u w w2 hx ht => ht.ext hx⟩, List.forall_mem_cons.2 ⟨⟨⟨_, none, 0, rfl⟩, fun u v w h ht => by show (fun u w => OwnRows 45 2 fcL w wm.heap.size (u 12).v [(s, f1)] : (Nat → GV) → World → Prop) v w; dsimp only; rw [← h 12 (.inl rfl) (by kernel_rfl)]; exact ht, fun u w w2 hx ht => ht.ext hx⟩, List.forall_mem_nil _⟩⟩
              · first | assumption | exact Ext.refl _
              refine rg_pure (v := ?_) rfl (by kernel_rfl) (by kernel_rfl) (fun w hS hN => ?_) ?_
              rotate_left 1
              · clear hN
                go_simp
                refine givesP_mk ?_
                with_reducible rfl
              refine rg_pure (v := ?_) rfl (by kernel_rfl) (by kernel_rfl) (fun w hS hN => ?_) ?_
              rotate_left 1
              · clear hN
                go_simp
                refine givesP_mk ?_
                with_reducible rfl
              refine rg_pure (v := ?_) rfl (by kernel_rfl) (by kernel_rfl) (fun w hS hN => ?_) ?_
              rotate_left 1
              · have k0 := blk_cell (hS.blk HB3.out) 0 _ rfl
                clear hN
                go_simp
                refine givesP_mk ?_
                with_reducible rfl
              refine rg_pure (v := ?_) rfl (by kernel_rfl) (by kernel_rfl) (fun w hS hN => ?_) ?_
              rotate_left 1
              · clear hN
                go_simp
                refine givesP_mk ?_
                with_reducible rfl
              refine rg_pure (v := ?_) rfl (by kernel_rfl) (by kernel_rfl) (fun w hS hN => ?_) ?_
              rotate_left 1
              · have k0 := blk_cell (hS.blk HQ3.out) 0 _ rfl
                clear hN
                go_simp
                refine givesP_mk ?_
                with_reducible rfl
              refine rg_pure (v := ?_) rfl (by kernel_rfl) (by kernel_rfl) (fun w hS hN => ?_) ?_
              rotate_left 1
              · clear hN
                go_simp
                refine givesP_mk ?_
                with_reducible rfl
              refine rg_pure (v := ?_) rfl (by kernel_rfl) (by kernel_rfl) (fun w hS hN => ?_) ?_
              rotate_left 1
              · clear hN
                go_simp
                refine givesP_mk ?_
                with_reducible rfl
              refine rg_pure (v := ?_) rfl (by kernel_rfl) (by kernel_rfl) (fun w hS hN => ?_) ?_
              rotate_left 1
              · obtain ⟨b2, o2, hbo, _, k0⟩ := HCS3.out w hS
                simp only [Option.some.injEq, Addr.mk.injEq, and_true] at hbo
                obtain ⟨rfl, rfl⟩ := hbo
                clear hN
                go_simp
                refine givesP_mk ?_
                with_reducible rfl
              refine rg_pure (v := ?_) rfl (by kernel_rfl) (by kernel_rfl) (fun w hS hN => ?_) ?_
              rotate_left 1
              · clear hN
                go_simp
                refine givesP_mk ?_
                with_reducible rfl
              refine rg_pure (v := ?_) rfl (by kernel_rfl) (by kernel_rfl) (fun w hS hN => ?_) ?_
              rotate_left 1
              · have k0 := blk_cell (hS.blk HQ3.out) 1 _ rfl
                clear hN
                go_simp
                refine givesP_mk ?_
                with_reducible rfl
              refine rg_pure (v := ?_) rfl (by kernel_rfl) (by kernel_rfl) (fun w hS hN => ?_) ?_
              rotate_left 1
              · clear hN
                go_simp
                refine givesP_mk ?_
                with_reducible rfl
              refine rg_mem (fun u => ∃ x, u = .slice (some ⟨x, 0, none⟩) 1 1 : Value → Prop) (fun u w => OneRow w3.heap.size 45 fcL w (u 11).v (s, f1) : (Nat → GV) → World → Prop) (fun _ => Ext) rfl rfl rfl rfl (by kernel_rfl) (by kernel_rfl) (fun w hS hN R hR => ?_) ?_
              · have HR := Lib.hid hR
                clear hR
                (try clear hN)
                go_simp
                exact givesM_val (HR.out _ _ ⟨_, rfl⟩ (OneRow.made hS.size (s, f1)) ((Ext.refl w).alloc _))
              rintro u11 s11 t11 ⟨x11, rfl⟩
              refine rg_mem (fun u => ∃ A c, u = .slice A 1 c : Value → Prop) (fun u w => OwnRows 45 2 fcL w wm.heap.size (u 12).v [(s, f1)] : (Nat → GV) → World → Prop) (fun _ => Ext) rfl rfl rfl rfl (by kernel_rfl) (by kernel_rfl) (fun w hS hN R hR => ?_) ?_
              · have HR := Lib.hid hR
                clear hR
                have h11 : OneRow w3.heap.size 45 fcL w (.slice (some ⟨x11, 0, none⟩) 1 1) (s, f1) := hN.get 11 rfl (by kernel_rfl)
                obtain ⟨v', w', hr, ho, hg⟩ := OwnRows.append (P := Try.prog) (B := wm.heap.size) (xs := []) (ys := [(s, f1)]) (w := w) 26 Try.underlying26 J0.out J1.out J2.out J3.out rfl (by decide) fcL_len fcL_one (OwnRows.nil _ _) h11.rows (by unfold maxLen; simp) (by simp) (by have := HX3.out.size; have := hS.size; omega)
                obtain ⟨A', c', hv, _⟩ := (OwnRows.rows fcL_len ho).form
                simp only [List.nil_append, List.length_singleton] at hr ho hv
                refine givesM_append _ _ 26 rfl _ _ (by go_simp) (by go_simp) hr ?_
                exact HR.out _ _ ⟨_, _, hv⟩ ho ⟨hg.os, hg.tape, hg.output, hg.size, fun i hi => hg.block i hi (by simp [Value.ownBlock])⟩
              rintro u12 s12 t12 ⟨A12, c12, rfl⟩
              refine rg_pure (v := ?_) rfl (by kernel_rfl) (by kernel_rfl) (fun w hS hN => ?_) ?_
              rotate_left 1
              · clear hN
                go_simp
                refine givesP_mk ?_
                with_reducible rfl
              refine rg_done rfl (Nat.le_of_ble_eq_true (by kernel_rfl)) ?_
              intro w8 hS hT
              have h12 : OwnRows 45 2 fcL w8 wm.heap.size (.slice A12 1 c12) [(s, f1)] := hT (12, ⟨.slice A12 1 c12, s12, t12⟩) (by simp)
              have HO8 := Lib.hid h12
              have HX8 := Lib.hid (HX3.out.trans hS)
              clear h12 hS hT
              go_simp
              go_wp2
              go_roundw
              case rel => exact ⟨0 + 1, by omega, by go_num, by rw [HTN.out]; exact HO8.out, HX8.out⟩
              case measure => simp [intOf]; omega
            · simp only [Value.slice.injEq] at hv0
              obtain ⟨rfl, -, rfl⟩ := hv0
              have hgn : gb < n := by
                have := (OwnRows.lt HO.out gb rfl).2
                have := HN3.out
                omega
              have hn3 := blk_lt HQ3.out
              go_upto_region 9 with (rw [HW3.out, HN3.out])
              clear q0 q1 b0 cs3 c0 c1
              have hx3 := HX3.out
              have hfk : FrK n (.int .i64 ((p : Int) + 1)) (.int .i64 f1) wm.heap.size (.slice (some ⟨gb, 0, none⟩) j co) (Tb.told t.ss (l.take j)) w3 := ⟨HO3.out, HQ3.out⟩
              have hvl : (∀ k, (Value.slice (some ⟨gb, 0, none⟩) j co).ownBlock = some k → k < w3.heap.size) ∧ n < w3.heap.size := ⟨fun k hk => (HO3.out.lt k hk).2, hn3⟩
              refine region_rgz ([(11, (fun u => ∃ x, u = .slice (some ⟨x, 0, none⟩) 1 1 : Value → Prop), (fun u w => OneRow w3.heap.size 45 fcL w (u 11).v (s, f1) : (Nat → GV) → World → Prop)), (12, (fun u => ∃ A c, u = .slice A (j + 1) c : Value → Prop), (fun u w => OwnRows 45 2 fcL w wm.heap.size (u 12).v (Tb.told t.ss (l.take j) ++ [(s, f1)]) : (Nat → GV) → World → Prop))]) (wm) (w3.heap.size) (gb) (12) (FrK n (.int .i64 ((p : Int) + 1)) (.int .i64 f1) wm.heap.size (.slice (some ⟨gb, 0, none⟩) j co) (Tb.told t.ss (l.take j))) ([]) (by kernel_rfl) (by kernel_rfl) ?_ ?_ (by omega) (fun w w2 hl hk => by first | (obtain ⟨x, hx⟩ := hk; exact ⟨x, (hl _ (by omega)).trans hx⟩) | exact hk.low hl (by assumption)) ?_ ?_ ?_ ?_
              · exact List.forall_mem_nil _
              · exact List.forall_mem_cons.2 ⟨⟨⟨_, 0, rfl⟩, fun u v w h ht => by show (fun u w => OneRow w3.heap.size 45 fcL w (u 11).v (s, f1) : (Nat → GV) → World → Prop) v w; dsimp only; rw [← h 11 (.inl rfl) (by kernel_rfl)]; exact ht, fun u w w2 hx ht => ht.ext hx, List.forall_mem_nil _, fun _ u w w2 hz ht => ht.updz hz (by omega)⟩, List.forall_mem_cons.2 ⟨⟨⟨_, none, 0, rfl⟩, fun u v w h ht => by show (fun u w => OwnRows 45 2 fcL w wm.heap.size (u 12).v (Tb.told t.ss (l.take j) ++ [(s, f1)]) : (Nat → GV) → World → Prop) v w; dsimp only; rw [← h 12 (.inl rfl) (by kernel_rfl)]; exact ht, fun u w w2 hx ht => ht.ext hx, List.forall_mem_nil _, fun hne => absurd rfl hne⟩, List.forall_mem_nil _⟩⟩
              · first | assumption | exact Ext.refl _
              · first | assumption | omega
              · assumption
              refine rg_pure (v := ?_) rfl (by kernel_rfl) (by kernel_rfl) (fun w hS hN => ?_) ?_
              rotate_left 1
              · obtain ⟨hS, hM, hK⟩ := hS
                clear hN
                go_simp
                refine givesP_mk ?_
                with_reducible rfl
              refine rg_pure (v := ?_) rfl (by kernel_rfl) (by kernel_rfl) (fun w hS hN => ?_) ?_
              rotate_left 1
              · obtain ⟨hS, hM, hK⟩ := hS
                clear hN
                go_simp
                refine givesP_mk ?_
                with_reducible rfl
              refine rg_pure (v := ?_) rfl (by kernel_rfl) (by kernel_rfl) (fun w hS hN => ?_) ?_
              rotate_left 1
              · obtain ⟨hS, hM, hK⟩ := hS
                have k0 := blk_cell (hS.blk HB2.out) 0 _ rfl
                clear hN
                go_simp
                refine givesP_mk ?_
                with_reducible rfl
              refine rg_pure (v := ?_) rfl (by kernel_rfl) (by kernel_rfl) (fun w hS hN => ?_) ?_
              rotate_left 1
              · obtain ⟨hS, hM, hK⟩ := hS
                clear hN
                go_simp
                refine givesP_mk ?_
                with_reducible rfl
              refine rg_pure (v := ?_) rfl (by kernel_rfl) (by kernel_rfl) (fun w hS hN => ?_) ?_
              rotate_left 1
              · obtain ⟨hS, hM, hK⟩ := hS
                have k0 := blk_cell hK.box 0 _ rfl
                clear hN
                go_simp
                refine givesP_mk ?_
                with_reducible rfl
              refine rg_pure (v := ?_) rfl (by kernel_rfl) (by kernel_rfl) (fun w hS hN => ?_) ?_
              rotate_left 1
              · obtain ⟨hS, hM, hK⟩ := hS
                clear hN
                go_simp
                refine givesP_mk ?_
                with_reducible rfl
              refine rg_pure (v := ?_) rfl (by kernel_rfl) (by kernel_rfl) (fun w hS hN => ?_) ?_
              rotate_left 1
              · obtain ⟨hS, hM, hK⟩ := hS
                clear hN
                go_simp
                refine givesP_mk ?_
                with_reducible rfl
              refine rg_pure (v := ?_) rfl (by kernel_rfl) (by kernel_rfl) (fun w hS hN => ?_) ?_
              rotate_left 1
              · obtain ⟨hS, hM, hK⟩ := hS
                obtain ⟨b2, o2, hbo, _, k0⟩ := HCS.out w hS
                simp only [Option.some.injEq, Addr.mk.injEq, and_true] at hbo
                obtain ⟨rfl, rfl⟩ := hbo
                clear hN
                go_simp
                refine givesP_mk ?_
                with_reducible rfl
              refine rg_pure (v := ?_) rfl (by kernel_rfl) (by kernel_rfl) (fun w hS hN => ?_) ?_
              rotate_left 1
              · obtain ⟨hS, hM, hK⟩ := hS
                clear hN
                go_simp
                refine givesP_mk ?_
                with_reducible rfl
              refine rg_pure (v := ?_) rfl (by kernel_rfl) (by kernel_rfl) (fun w hS hN => ?_) ?_
              rotate_left 1
              · obtain ⟨hS, hM, hK⟩ := hS
                have k0 := blk_cell hK.box 1 _ rfl
                clear hN
                go_simp
                refine givesP_mk ?_
                with_reducible rfl
              refine rg_pure (v := ?_) rfl (by kernel_rfl) (by kernel_rfl) (fun w hS hN => ?_) ?_
              rotate_left 1
              · obtain ⟨hS, hM, hK⟩ := hS
                clear hN
                go_simp
                refine givesP_mk ?_
                with_reducible rfl
              refine rg_mem (fun u => ∃ x, u = .slice (some ⟨x, 0, none⟩) 1 1 : Value → Prop) (fun u w => OneRow w3.heap.size 45 fcL w (u 11).v (s, f1) : (Nat → GV) → World → Prop) (fun _ => Ext) rfl rfl rfl rfl (by kernel_rfl) (by kernel_rfl) (fun w hS hN R hR => ?_) ?_
              · obtain ⟨hS, hM, hK⟩ := hS
                have HR := Lib.hid hR
                clear hR
                (try clear hN)
                go_simp
                exact givesM_val (HR.out _ _ ⟨_, rfl⟩ (OneRow.made hM (s, f1)) ((Ext.refl w).alloc _))
              rintro u11 s11 t11 ⟨x11, rfl⟩
              refine rg_mem (fun u => ∃ A c, u = .slice A (j + 1) c : Value → Prop) (fun u w => OwnRows 45 2 fcL w wm.heap.size (u 12).v (Tb.told t.ss (l.take j) ++ [(s, f1)]) : (Nat → GV) → World → Prop) (fun _ w w2 => Upd (gb) w w2 ∧ (FrK n (.int .i64 ((p : Int) + 1)) (.int .i64 f1) wm.heap.size (.slice (some ⟨gb, 0, none⟩) j co) (Tb.told t.ss (l.take j)) : World → Prop) w2) rfl rfl rfl rfl (by kernel_rfl) (by kernel_rfl) (fun w hS hN R hR => ?_) ?_
              · obtain ⟨hS, hM, hK⟩ := hS
                have HR := Lib.hid hR
                clear hR
                have h11 : OneRow w3.heap.size 45 fcL w (.slice (some ⟨x11, 0, none⟩) 1 1) (s, f1) := hN.get 11 rfl (by kernel_rfl)
                obtain ⟨v', w', hr, ⟨A', c', rfl⟩, ho, hu, hk⟩ := OwnRows.appendZ (P := Try.prog) (ys := [(s, f1)]) (g := gb) 26 Try.underlying26 J0.out J1.out J2.out J3.out rfl (by decide) fcL_len fcL_one hS hK.own (fun k hk => by cases hk; rfl) rfl h11.rows (by rw [HLR.out]; unfold maxLen; simp; omega) (by rw [HLR.out]; simp; omega)
                simp only [HLR.out, List.length_singleton] at hr ho
                refine givesM_append _ _ 26 rfl _ _ (by go_simp) (by go_simp) hr ?_
                exact HR.out _ _ ⟨_, _, rfl⟩ ho ⟨hu, hk, hu.blk hK.box (by omega)⟩
              rintro u12 s12 t12 ⟨A12, c12, rfl⟩
              refine rg_pure (v := ?_) rfl (by kernel_rfl) (by kernel_rfl) (fun w hS hN => ?_) ?_
              rotate_left 1
              · obtain ⟨hS, hM, hK⟩ := hS
                clear hN
                go_simp
                refine givesP_mk ?_
                with_reducible rfl
              refine rg_done rfl (Nat.le_of_ble_eq_true (by kernel_rfl)) ?_
              intro w8 hS hT
              have h12 : OwnRows 45 2 fcL w8 wm.heap.size (.slice A12 (j + 1) c12) (Tb.told t.ss (l.take j) ++ [(s, f1)]) := hT (12, ⟨.slice A12 (j + 1) c12, s12, t12⟩) (by simp)
              have HO8 := Lib.hid h12
              have HX8 := Lib.hid hS.1
              clear h12 hS hT hfk hvl hx3
              go_simp
              go_wp2
              go_roundw
              case rel => exact ⟨j + 1, by omega, by go_num, by rw [HTN.out]; exact HO8.out, HX8.out⟩
              case measure => simp [intOf]; omega
          · obtain rfl : j = l.length := by omega
            rw [List.take_length] at HO
            go_wp2
            go_ret2
            rw [HT.out]
            exact ⟨_, rfl, by simp only [hlr] at *; exact OwnRows.rows fcL_len HO.out, HX2.out.trans HXR.out⟩
  · have HT : Hid (t.frames id = ([], false)) := Lib.hid (by unfold Tb.frames; rw [if_neg (fun h => hin ⟨h.1, h.2.1⟩)])
    by_cases hn : id < 0
    · go_enter Try.func17, Try.ntmps17
      go_wp2_with (rw [HW1.out])
      go_ret2
      exact HNIL.out _ _ (by first | exact HX1.out | (rw [HW1.out]; exact HX1.out)) HT.out
    · have hb : (t.ks.length : Int) < id := by omega
      go_enter Try.func17, Try.ntmps17
      go_wp2_with (rw [HW1.out])
      go_ret2
      exact HNIL.out _ _ (by first | exact HX1.out | (rw [HW1.out]; exact HX1.out)) HT.out

end Go.Proofs.Ythkalaohaholaaa
