/-
  The contract of the document's Encode (layer 8).
-/
import Derived.Test.YthkogcgdikgkaaaMx
import Derived.Test.YthkogcgdikgkaaaRy
set_option linter.unusedVariables false
set_option linter.unusedSimpArgs false
namespace Go.Proofs.Ythkogcgdikgkaaa
open Go.RowKit Go.Maps

def EncR (w1 : World) (L0 : List Int) (N : Nat → List Int) (n : Nat) (lv iv : Value) (wr : World) : Prop := ∃ (k g c : Nat) (L : List Int), k ≤ n ∧ iv = .int .i64 k ∧ lv = .slice (some ⟨g, 0, none⟩) L.length c ∧ Hid (L = L0 ++ N k) ∧ OwnInts wr w1.heap.size (.slice (some ⟨g, 0, none⟩) L.length c) L ∧ Ext w1 wr
theorem own_next {w : World} {B : Nat} {v : Value} {L m : List Int} (h : OwnInts w B v (L ++ m)) (h0 : 0 < (L ++ m).length) : ∃ g c, v = .slice (some ⟨g, 0, none⟩) (L ++ m).length c ∧ OwnInts w B (.slice (some ⟨g, 0, none⟩) (L ++ m).length c) (L ++ m) := by
  obtain ⟨g, c, rfl, _⟩ := h.block h0
  exact ⟨g, c, rfl, h⟩
set_option maxRecDepth 100000 in
set_option maxHeartbeats 4000000 in
theorem rsnenc_in (time : Int) (ps : List (Int × Int)) (gs : List Gs4) (A B : Option Addr) (c d : Nat) (w : World) (h2 : RowsAt 2 snPCells w (.slice A ps.length c) ps) (h3 : RowsAt 4 snGCells w (.slice B gs.length d) gs) (hl1 : ps.length ≤ 10000) (hl2 : gs.length ≤ 10000) (t : ByteArray) (ht : Sn.enc ⟨time, ps, gs⟩ = t) :
    Calls Try.prog 15 #[.agg #[.int .i64 time, .slice A ps.length c, .slice B gs.length d]] w fun e w' => e = .returned (.string t) ∧ Ext w w' := by
  have HB := Lib.hid (blk_new w (.cells #[.int .i64 time, .slice A ps.length c, .slice B gs.length d] 25))
  have H2' := Lib.hid h2
  have H3' := Lib.hid h3
  obtain ⟨sb, hsb⟩ : ∃ b, w.heap.size = b := ⟨_, rfl⟩
  obtain ⟨w1, hw1⟩ : ∃ v, w.alloc (.cells #[.int .i64 time, .slice A ps.length c, .slice B gs.length d] 25) = v := ⟨_, rfl⟩
  have HX1 : Hid (Ext w w1) := Lib.hid (by rw [← hw1]; exact (Ext.refl w).alloc _)
  have HB1 : Hid (w1.heap[sb]? = some (.cells #[.int .i64 time, .slice A ps.length c, .slice B gs.length d] 25 (0, 0))) := Lib.hid (by rw [← hw1, ← hsb]; exact blk_new w _)
  have HSB := Lib.hid hsb
  have HW1 := Lib.hid hw1
  have HKS : Hid (∀ v, Ext w1 v → v.cell? ⟨sb, 0, none⟩ = some (.int .i64 time) ∧ v.cell? ⟨sb, 1, none⟩ = some (.slice A ps.length c) ∧ v.cell? ⟨sb, 2, none⟩ = some (.slice B gs.length d)) := Lib.hid fun v hv =>
    ⟨blk_cell (hv.blk HB1.out) 0 _ rfl, blk_cell (hv.blk HB1.out) 1 _ rfl, blk_cell (hv.blk HB1.out) 2 _ rfl⟩
  have H2 := Lib.hid (H2'.out.ext HX1.out)
  have H3 := Lib.hid (H3'.out.ext HX1.out)
  clear hsb hw1 HB h2 h3 H2' H3' HB1
  have HT := Lib.hid ht
  clear ht
  cases hm : Sn.may ⟨time, ps, gs⟩ with
  | false =>
    obtain rfl : t = ⟨#[]⟩ := by rw [← HT.out]; exact (Sn.enc_nil _).2 hm
    have HM := Lib.hid hm
    clear hm HT
    go_enter Try.func15, Try.ntmps15
    go_wp2_with fail
    rw [HW1.out]
    refine (rsnmay_k _ ⟨time, ps, gs⟩ false _ HM.out ⟨A, c, B, d, rfl, H2.out, H3.out⟩ hl1 hl2).mono ?_
    rintro e w2 ⟨rfl, hx2⟩
    go_wp2
    go_ret
    exact ⟨rfl, HX1.out.trans hx2⟩
  | true =>
    obtain ⟨o1, o2, o3, o4, o5, o6⟩ := Sn.may_all hm
    have HM := Lib.hid hm
    have HNUM : Hid (Wi.nums (Sn.nums ⟨time, ps, gs⟩) = t) := Lib.hid (by rw [nums_of_ok _ o6, ← HT.out]; unfold Sn.enc; rw [if_pos hm])
    have hps : ps.length ≤ 64 := o2
    have hgs : gs.length ≤ 1000 := o3
    clear hm HT o1 o2 o3 o4 o5 o6
    go_enter Try.func15, Try.ntmps15
    go_wp2_with fail
    rw [HW1.out]
    (try rw [HSB.out])
    clear HW1 HSB
    refine (rsnmay_k _ ⟨time, ps, gs⟩ true _ HM.out ⟨A, c, B, d, rfl, H2.out, H3.out⟩ hl1 hl2).mono ?_
    rintro e w2 ⟨rfl, hx2⟩
    obtain ⟨q0, q1, q2⟩ := HKS.out w2 hx2
    have HO2 : Hid (OwnInts (w2.alloc (.cells #[.int .i64 time, .int .i64 (ps.length : Int)] 3)) w1.heap.size (.slice (some ⟨w2.heap.size, 0, none⟩) 2 2) [time, (ps.length : Int)]) := Lib.hid (OwnInts.madeL w2 [time, (ps.length : Int)] hx2.size (by simp [maxLen]))
    have HX2 := Lib.hid (hx2.alloc (.cells #[.int .i64 time, .int .i64 (ps.length : Int)] 3))
    clear hx2
    go_wp2
    clear q0 q1 q2
    go_loopw [3, 4] (fun lv iv wr => EncR w1 [time, (ps.length : Int)] (fun k => snPNums (ps.take k)) ps.length lv iv wr) (fun _ iv _ => ps.length - (intOf iv).toNat)
    case atStart => exact ⟨0, w2.heap.size, 2, [time, (ps.length : Int)], by omega, rfl, rfl, Lib.hid (by simp [snPNums]), HO2.out, HX2.out⟩
    case round =>
      clear HO2 HX2
      obtain ⟨k, g, cc, L, hk, rfl, rfl, HL, hown, hx⟩ := hrel
      have HX := Lib.hid hx
      have hll : L.length = 2 + 2 * k := by rw [HL.out, List.length_append, snPNums_len, List.length_take, Nat.min_eq_left hk]; rfl
      have HLL := Lib.hid hll
      have hL1 : 0 < L.length := by omega
      have hL2 : L.length ≤ 1000 := by omega
      have hgb := World.ownsRow.lt hown g rfl
      obtain ⟨hgb1, hgb2⟩ := hgb
      obtain ⟨q0, q1, q2⟩ := HKS.out wr hx
      clear hll
      by_cases hlt : k < ps.length
      · obtain ⟨_, _, hv, hd, hA2⟩ := H2.out
        simp only [Value.slice.injEq, true_and] at hv
        obtain ⟨rfl, rfl⟩ := hv
        obtain ⟨bb, o, rfl, hbb, hcell⟩ := hA2 (by omega)
        have h0 := hcell k ps[k] (List.getElem?_eq_getElem hlt)
        have HNX := Lib.hid (snPNums_next hlt)
        clear hA2 hcell
        generalize ps[k] = p at *
        obtain ⟨p0, p1⟩ := p
        have HC : Hid (∀ v, Ext w1 v → v.cell? ⟨bb, o + k * 2, none⟩ = some (.int .i64 p0) ∧ v.cell? ⟨bb, o + k * 2 + 1, none⟩ = some (.int .i64 p1)) := Lib.hid fun v hv => ⟨by rw [Below.cell hv hbb]; exact h0 0 _ rfl, by rw [Below.cell hv hbb]; exact h0 1 _ rfl⟩
        have i0 : (0 : Int) ≤ (k : Int) := by omega
        have i1 : (k : Int) < (ps.length : Int) := by omega
        have HOW := Lib.hid hown
        clear h0 hx hown
        go_upto_region 7 with fail
        clear q0 q1 q2
        have hown : OwnInts wr w1.heap.size (.slice (some ⟨g, 0, none⟩) L.length cc) L := HOW.out
        have hvl : ∀ k, (Value.slice (some ⟨g, 0, none⟩) L.length cc).ownBlock = some k → k < wr.heap.size := fun k hk => (World.ownsRow.lt hown k hk).2
        have hx := HX.out
        refine region_rgz ([(13, (fun u => ∃ x, u = .slice (some ⟨x, 0, none⟩) 2 2 : Value → Prop), (fun u w => NewInts wr.heap.size w (u 13).v [p0, p1] : (Nat → GV) → World → Prop)), (14, (fun u => ∃ A c, u = .slice A (L.length + 2) c : Value → Prop), (fun u w => OwnInts w w1.heap.size (u 14).v (L ++ [p0, p1]) : (Nat → GV) → World → Prop))]) (w1) (wr.heap.size) (g) (14) (fun w => OwnInts w w1.heap.size (.slice (some ⟨g, 0, none⟩) L.length cc) L) ([]) (by kernel_rfl) (by kernel_rfl) ?_ ?_ (by omega) (fun w w2 hl hk => by first | (obtain ⟨x, hx⟩ := hk; exact ⟨x, (hl _ (by omega)).trans hx⟩) | exact hk.low hl (by assumption)) ?_ ?_ ?_ ?_
        · exact List.forall_mem_nil _
        · exact List.forall_mem_cons.2 ⟨⟨⟨_, 0, rfl⟩, fun u v w h ht => by show (fun u w => NewInts wr.heap.size w (u 13).v [p0, p1] : (Nat → GV) → World → Prop) v w; dsimp only; rw [← h 13 (.inl rfl) (by kernel_rfl)]; exact ht, fun u w w2 hx ht => ht.ext hx, List.forall_mem_nil _, fun _ u w w2 hz ht => ht.updz hz (by omega)⟩, List.forall_mem_cons.2 ⟨⟨⟨_, none, 0, rfl⟩, fun u v w h ht => by show (fun u w => OwnInts w w1.heap.size (u 14).v (L ++ [p0, p1]) : (Nat → GV) → World → Prop) v w; dsimp only; rw [← h 14 (.inl rfl) (by kernel_rfl)]; exact ht, fun u w w2 hx ht => ht.ext hx, List.forall_mem_nil _, fun hne => absurd rfl hne⟩, List.forall_mem_nil _⟩⟩
        · first | assumption | exact Ext.refl _
        · first | assumption | omega
        · assumption
        refine rg_pure (v := ?_) rfl (by kernel_rfl) (by kernel_rfl) (fun w hS hN => ?_) ?_
        rotate_left 1
        · obtain ⟨hS, hM, hK⟩ := hS
          clear hN
          go_simp
          refine givesP_mk ?_
          with_reducible rfl
        refine rg_pure (v := ?_) rfl (by kernel_rfl) (by kernel_rfl) (fun w hS hN => ?_) ?_
        rotate_left 1
        · obtain ⟨hS, hM, hK⟩ := hS
          clear hN
          go_simp
          refine givesP_mk ?_
          with_reducible rfl
        refine rg_pure (v := ?_) rfl (by kernel_rfl) (by kernel_rfl) (fun w hS hN => ?_) ?_
        rotate_left 1
        · obtain ⟨hS, hM, hK⟩ := hS
          obtain ⟨k0, k1, k2⟩ := HKS.out w hS
          clear hN
          go_simp
          refine givesP_mk ?_
          with_reducible rfl
        refine rg_pure (v := ?_) rfl (by kernel_rfl) (by kernel_rfl) (fun w hS hN => ?_) ?_
        rotate_left 1
        · obtain ⟨hS, hM, hK⟩ := hS
          clear hN
          go_simp
          refine givesP_mk ?_
          with_reducible rfl
        refine rg_pure (v := ?_) rfl (by kernel_rfl) (by kernel_rfl) (fun w hS hN => ?_) ?_
        rotate_left 1
        · obtain ⟨hS, hM, hK⟩ := hS
          clear hN
          go_simp
          refine givesP_mk ?_
          with_reducible rfl
        refine rg_pure (v := ?_) rfl (by kernel_rfl) (by kernel_rfl) (fun w hS hN => ?_) ?_
        rotate_left 1
        · obtain ⟨hS, hM, hK⟩ := hS
          clear hN
          go_simp
          refine givesP_mk ?_
          with_reducible rfl
        refine rg_pure (v := ?_) rfl (by kernel_rfl) (by kernel_rfl) (fun w hS hN => ?_) ?_
        rotate_left 1
        · obtain ⟨hS, hM, hK⟩ := hS
          obtain ⟨k0, k1⟩ := HC.out w hS
          clear hN
          go_simp
          refine givesP_mk ?_
          with_reducible rfl
        refine rg_pure (v := ?_) rfl (by kernel_rfl) (by kernel_rfl) (fun w hS hN => ?_) ?_
        rotate_left 1
        · obtain ⟨hS, hM, hK⟩ := hS
          clear hN
          go_simp
          refine givesP_mk ?_
          with_reducible rfl
        refine rg_pure (v := ?_) rfl (by kernel_rfl) (by kernel_rfl) (fun w hS hN => ?_) ?_
        rotate_left 1
        · obtain ⟨hS, hM, hK⟩ := hS
          obtain ⟨k0, k1, k2⟩ := HKS.out w hS
          clear hN
          go_simp
          refine givesP_mk ?_
          with_reducible rfl
        refine rg_pure (v := ?_) rfl (by kernel_rfl) (by kernel_rfl) (fun w hS hN => ?_) ?_
        rotate_left 1
        · obtain ⟨hS, hM, hK⟩ := hS
          clear hN
          go_simp
          refine givesP_mk ?_
          with_reducible rfl
        refine rg_pure (v := ?_) rfl (by kernel_rfl) (by kernel_rfl) (fun w hS hN => ?_) ?_
        rotate_left 1
        · obtain ⟨hS, hM, hK⟩ := hS
          clear hN
          go_simp
          refine givesP_mk ?_
          with_reducible rfl
        refine rg_pure (v := ?_) rfl (by kernel_rfl) (by kernel_rfl) (fun w hS hN => ?_) ?_
        rotate_left 1
        · obtain ⟨hS, hM, hK⟩ := hS
          clear hN
          go_simp
          refine givesP_mk ?_
          with_reducible rfl
        refine rg_pure (v := ?_) rfl (by kernel_rfl) (by kernel_rfl) (fun w hS hN => ?_) ?_
        rotate_left 1
        · obtain ⟨hS, hM, hK⟩ := hS
          obtain ⟨k0, k1⟩ := HC.out w hS
          clear hN
          go_simp
          refine givesP_mk ?_
          with_reducible rfl
        refine rg_mem (fun u => ∃ x, u = .slice (some ⟨x, 0, none⟩) 2 2 : Value → Prop) (fun u w => NewInts wr.heap.size w (u 13).v [p0, p1] : (Nat → GV) → World → Prop) (fun _ => Ext) rfl rfl rfl rfl (by kernel_rfl) (by kernel_rfl) (fun w hS hN R hR => ?_) ?_
        · obtain ⟨hS, hM, hK⟩ := hS
          have HR := Lib.hid hR
          clear hR
          (try clear hN)
          go_simp
          exact givesM_val (HR.out _ _ ⟨_, rfl⟩ (NewInts.made hM [p0, p1]) ((Ext.refl w).alloc _))
        rintro u13 s13 t13 ⟨x13, rfl⟩
        refine rg_mem (fun u => ∃ A c, u = .slice A (L.length + 2) c : Value → Prop) (fun u w => OwnInts w w1.heap.size (u 14).v (L ++ [p0, p1]) : (Nat → GV) → World → Prop) (fun _ w w2 => Upd (g) w w2 ∧ (fun w => OwnInts w w1.heap.size (.slice (some ⟨g, 0, none⟩) L.length cc) L : World → Prop) w2) rfl rfl rfl rfl (by kernel_rfl) (by kernel_rfl) (fun w hS hN R hR => ?_) ?_
        · obtain ⟨hS, hM, hK⟩ := hS
          have HR := Lib.hid hR
          clear hR
          have h13 : NewInts wr.heap.size w (.slice (some ⟨x13, 0, none⟩) 2 2) [p0, p1] := hN.get 13 rfl (by kernel_rfl)
          obtain ⟨v', w', hr, ⟨A', c', rfl⟩, ho, hu, hk⟩ := OwnInts.appendZ (n := 2) 68 hS hK rfl h13.ints (by simp; omega)
          refine givesM_append _ _ 68 rfl _ _ (by go_simp) (by go_simp) hr ?_
          exact HR.out _ _ ⟨_, _, rfl⟩ ho ⟨hu, hk⟩
        rintro u14 s14 t14 ⟨A14, c14, rfl⟩
        refine rg_pure (v := ?_) rfl (by kernel_rfl) (by kernel_rfl) (fun w hS hN => ?_) ?_
        rotate_left 1
        · obtain ⟨hS, hM, hK⟩ := hS
          clear hN
          go_simp
          refine givesP_mk ?_
          with_reducible rfl
        refine rg_done rfl (Nat.le_of_ble_eq_true (by kernel_rfl)) ?_
        intro w8 hS hT
        have h14 : OwnInts w8 w1.heap.size (.slice A14 (L.length + 2) c14) (L ++ [p0, p1]) := hT (14, ⟨.slice A14 (L.length + 2) c14, s14, t14⟩) (by simp)
        obtain ⟨g', c', hv, hon⟩ := own_next h14 (by simp)
        have HV := Lib.hid hv
        have HON := Lib.hid hon
        have HX8 := Lib.hid hS.1
        have HLN : Hid (L ++ [p0, p1] = [time, (ps.length : Int)] ++ snPNums (ps.take (k + 1))) := Lib.hid (by rw [HNX.out, HL.out]; simp)
        clear h14 hv hon hS hT hown hvl hx HOW
        go_simp
        go_wp2
        go_roundw
        case rel => exact ⟨k + 1, g', c', L ++ [p0, p1], by omega, by go_num, HV.out, HLN, HON.out, HX8.out⟩
        case measure => simp [intOf]; omega
      · obtain rfl : k = ps.length := by omega
        have HX0 : Hid (Ext w1 (wr.alloc (.cells #[.int .i64 (gs.length : Int)] 3))) := Lib.hid (hx.alloc _)
        have hi1 : IntsAt (wr.alloc (.cells #[.int .i64 (gs.length : Int)] 3)) (.slice (some ⟨wr.heap.size, 0, none⟩) 1 1) [(gs.length : Int)] := ints_one wr _
        obtain ⟨v', w', hr, ⟨A', c', rfl⟩, ho, hu, _⟩ := OwnInts.appendZ (n := 1) 68 HX0.out (OwnInts.alloc hown _) rfl hi1 (by simp; omega)
        have HR := Lib.hid hr
        obtain ⟨g', c2, hv, hon⟩ := own_next ho (by simp)
        have HV := Lib.hid hv
        have HON := Lib.hid hon
        have HX8 := Lib.hid (HX0.out.upd hu (by omega))
        have HLN : Hid (L ++ [(gs.length : Int)] = ([time, (ps.length : Int)] ++ snPNums ps ++ [(gs.length : Int)]) ++ snGNums (gs.take 0)) := Lib.hid (by rw [HL.out]; show ([time, (ps.length : Int)] ++ snPNums (ps.take ps.length)) ++ _ = _; rw [List.take_length]; simp [snGNums])
        clear hr ho hv hon hu hi1 hown hx
        go_wp2_with (at_builtin; refine wpList_append_run rfl _ _ 68 rfl _ _ rfl rfl HR.out ?_)
        clear q0 q1 q2 HR HX HX0
        go_loopw [3, 5] (fun lv iv wr => EncR w1 ([time, (ps.length : Int)] ++ snPNums ps ++ [(gs.length : Int)]) (fun k => snGNums (gs.take k)) gs.length lv iv wr) (fun _ iv _ => gs.length - (intOf iv).toNat)
        case atStart => exact ⟨0, g', c2, L ++ [(gs.length : Int)], by omega, rfl, HV.out, HLN, HON.out, HX8.out⟩
        case round =>
          clear HV HON HX8 HLN HLL hL1 hL2 hgb1 hgb2 HL
          obtain ⟨k, g, cc, L, hk, rfl, rfl, HL, hown, hx⟩ := hrel
          have HX := Lib.hid hx
          have hll : L.length = 3 + 2 * ps.length + 4 * k := by rw [HL.out]; simp only [List.length_append, snPNums_len, snGNums_len, List.length_take, Nat.min_eq_left hk, List.length_cons, List.length_nil]; omega
          have hL1 : 0 < L.length := by omega
          have hL2 : L.length ≤ 5000 := by omega
          obtain ⟨hgb1, hgb2⟩ := World.ownsRow.lt hown g rfl
          obtain ⟨q0, q1, q2⟩ := HKS.out wr hx
          clear hll
          by_cases hlt : k < gs.length
          · obtain ⟨_, _, hv, hd, hA3⟩ := H3.out
            simp only [Value.slice.injEq, true_and] at hv
            obtain ⟨rfl, rfl⟩ := hv
            obtain ⟨bb, o, rfl, hbb, hcell⟩ := hA3 (by omega)
            have h0 := hcell k gs[k] (List.getElem?_eq_getElem hlt)
            have HNX := Lib.hid (snGNums_next hlt)
            clear hA3 hcell
            generalize gs[k] = p at *
            obtain ⟨g0, st, m, q⟩ := p
            have c0 : wr.cell? ⟨bb, o + k * 4, none⟩ = some (.int .i64 g0) := by rw [Below.cell hx hbb]; exact h0 0 _ rfl
            have c1 : wr.cell? ⟨bb, o + k * 4 + 1, none⟩ = some (.int .i64 st) := by rw [Below.cell hx hbb]; exact h0 1 _ rfl
            have c2 : wr.cell? ⟨bb, o + k * 4 + 2, none⟩ = some (.int .i64 m) := by rw [Below.cell hx hbb]; exact h0 2 _ rfl
            have c3 : wr.cell? ⟨bb, o + k * 4 + 3, none⟩ = some (.int .i64 q) := by rw [Below.cell hx hbb]; exact h0 3 _ rfl
            have HX0 : Hid (Ext w1 ((wr.alloc (.cells #[.int .i64 g0, .int .i64 st, .int .i64 m, .int .i64 q] 36)).alloc (.cells #[.int .i64 g0, .int .i64 st, .int .i64 m, .int .i64 q] 3))) := Lib.hid ((hx.alloc _).alloc _)
            have hi4 := ints_arr4 (wr.alloc (.cells #[.int .i64 g0, .int .i64 st, .int .i64 m, .int .i64 q] 36)) (wr.heap.size + 1) g0 st m q (by simp)
            obtain ⟨v', w', hr, ⟨A', c', rfl⟩, ho, hu, _⟩ := OwnInts.appendZ (n := 4) 68 HX0.out (OwnInts.alloc (OwnInts.alloc hown _) _) rfl hi4 (by simp; omega)
            have HR := Lib.hid hr
            obtain ⟨g', c'', hv, hon⟩ := own_next ho (by simp)
            have HV := Lib.hid hv
            have HON := Lib.hid hon
            have HX8 := Lib.hid (HX0.out.upd hu (by omega))
            have HLN : Hid (L ++ [g0, st, m, q] = ([time, (ps.length : Int)] ++ snPNums ps ++ [(gs.length : Int)]) ++ snGNums (gs.take (k + 1))) := Lib.hid (by rw [HNX.out, HL.out]; simp)
            clear hr ho hv hon hu hi4 hown hx h0
            go_wp2_with (at_builtin; refine wpList_append_run rfl _ _ 68 rfl _ _ rfl rfl HR.out ?_)
            go_roundw
            case rel => exact ⟨k + 1, g', c'', L ++ [g0, st, m, q], by omega, by go_num, HV.out, HLN, HON.out, HX8.out⟩
            case measure => simp [intOf]; omega
          · obtain rfl : k = gs.length := by omega
            obtain rfl : L = Sn.nums ⟨time, ps, gs⟩ := by rw [HL.out]; show _ ++ snGNums (gs.take gs.length) = _; rw [List.take_length]; rfl
            obtain ⟨A9, c9, hv9, hi9⟩ := OwnInts.ints hown
            have HI9 : Hid (IntsAt wr (.slice (some ⟨g, 0, none⟩) (Sn.nums ⟨time, ps, gs⟩).length cc) (Sn.nums ⟨time, ps, gs⟩)) := Lib.hid (by rw [hv9]; exact hi9)
            clear hv9 hi9 hown hx
            go_wp2_with fail
            clear q0 q1 q2
            refine (rnums_any _ (Sn.nums ⟨time, ps, gs⟩) _ HI9.out (by omega)).mono ?_
            rintro e w9 ⟨he, hx9⟩
            rw [HNUM.out] at he
            subst he
            have HX9 := Lib.hid (HX1.out.trans (HX.out.trans hx9))
            clear hx9
            go_wp2
            go_ret
            exact ⟨rfl, HX9.out⟩
theorem rsnenc_k (v : Value) (s : Sn) (t : ByteArray) (w : World) (ht : s.enc = t) (hs : SnAt w v s) (hp : s.ps.length ≤ 10000) (hg : s.gs.length ≤ 10000) :
    Calls Try.prog 15 #[v] w fun e w' => e = .returned (.string t) ∧ Ext w w' := by
  obtain ⟨A, c, B, d, rfl, h2, h3⟩ := hs
  exact rsnenc_in s.time s.ps s.gs A B c d w h2 h3 hp hg t ht

end Go.Proofs.Ythkogcgdikgkaaa
