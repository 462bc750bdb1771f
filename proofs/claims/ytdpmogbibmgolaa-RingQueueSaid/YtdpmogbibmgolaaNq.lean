/-
  The walk of the statement RingQueue: the loop.
-/
import Derived.Test.YtdpmogbibmgolaaNp
import Derived.Deep.DeepCutAuto
set_option linter.unusedVariables false
set_option linter.unusedSimpArgs false
namespace Go.Proofs.Ytdpmogbibmgolaa
open Go.RowKit
theorem OwnG.made1 {w0 w : World} (h : Ext w0 w) (x : Int) (u : Value) : OwnG w0 (w.alloc (.cells #[.int .i64 x] 3)) (.slice (some ⟨w.heap.size, 0, none⟩) 1 1) [x] [⟨u, w.heap.size, (w.alloc (.cells #[.int .i64 x] 3)).heap.size⟩] := by
  refine ⟨?_, InB.made (by simp) u⟩
  exact ⟨by simp [intsV], .inr ⟨w.heap.size, 1, #[.int .i64 x], rfl, h.size, blk_new w _, Nat.le_refl _, by decide, rfl, rfl⟩⟩
/-- Where the ways of a round meet. -/
def RQ (w : World) (s : Value) (wx : World) : Prop := ∃ (q : List Int) (A : Option Addr) (c : Nat) (d0 d1 d2 d3 d4 d5 d6 d7 dh dn : Int), s = .slice A q.length c ∧ q.length ≤ c ∧ Ri.Holds ⟨[d0, d1, d2, d3, d4, d5, d6, d7], dh, dn⟩ q ∧ IntsAt wx (.slice A q.length c) q ∧ FarI w.heap.size (.slice A q.length c) ∧ wx.heap[w.heap.size]? = some (.cells #[.int .i64 d0, .int .i64 d1, .int .i64 d2, .int .i64 d3, .int .i64 d4, .int .i64 d5, .int .i64 d6, .int .i64 d7, .int .i64 dh, .int .i64 dn] 24 (0, 0)) ∧ Ext w wx
theorem RQ.mk {w wx : World} {q : List Int} {A : Option Addr} {n c : Nat} {d0 d1 d2 d3 d4 d5 d6 d7 dh dn : Int} (hn : n = q.length) (hc : n ≤ c) (hh : Ri.Holds ⟨[d0, d1, d2, d3, d4, d5, d6, d7], dh, dn⟩ q) (hi : IntsAt wx (.slice A n c) q) (hf : FarI w.heap.size (.slice A n c)) (hb : wx.heap[w.heap.size]? = some (.cells #[.int .i64 d0, .int .i64 d1, .int .i64 d2, .int .i64 d3, .int .i64 d4, .int .i64 d5, .int .i64 d6, .int .i64 d7, .int .i64 dh, .int .i64 dn] 24 (0, 0))) (hx : Ext w wx) : RQ w (.slice A n c) wx := by
  subst hn; exact ⟨q, A, c, d0, d1, d2, d3, d4, d5, d6, d7, dh, dn, rfl, hc, hh, hi, hf, hb, hx⟩
theorem givesM_skip {P : Program} {R : Value → World → Prop} {w : World} (h : R undef w) : GivesM P R (.ok .skip w) := ⟨h⟩
set_option maxRecDepth 100000 in
set_option maxHeartbeats 12000000 in
theorem rqueue_in (b0 b1 b2 b3 b4 b5 b6 b7 hd nn : Int) (v : Value) (l : List Int) (w : World) (hI : IntsAt w v l) (hl60 : l.length ≤ 60) (p0 : List Int) (hh : Ri.Holds ⟨[b0, b1, b2, b3, b4, b5, b6, b7], hd, nn⟩ p0) :
    Calls Try.prog 3 #[.agg #[.int .i64 b0, .int .i64 b1, .int .i64 b2, .int .i64 b3, .int .i64 b4, .int .i64 b5, .int .i64 b6, .int .i64 b7, .int .i64 hd, .int .i64 nn], v] w fun e w' => e = .returned (.bool true) ∧ Ext w w' := by
  have HI := Lib.hid hI
  obtain ⟨A, c, rfl, hA⟩ := hI
  have HM := Lib.hid (Ri.may_of hh)
  have HL := Lib.hid (Ri.list_of hh)
  have HH := Lib.hid hh
  have HB := Lib.hid (blk_new w (.cells #[.int .i64 b0, .int .i64 b1, .int .i64 b2, .int .i64 b3, .int .i64 b4, .int .i64 b5, .int .i64 b6, .int .i64 b7, .int .i64 hd, .int .i64 nn] 24))
  clear hA hh
  have i60 : (l.length : Int) ≤ 60 := by omega
  go_enter Try.func3, Try.ntmps3
  go_wp2_with fail
  refine (rgfixed_yes _).mono ?_
  rintro r w1 ⟨rfl, hx1⟩
  obtain ⟨⟨q0, q1, q2, q3, q4⟩, q5, q6, q7, q8, q9⟩ := cells10 (hx1.blk HB.out)
  go_wp2_with fail
  refine (rrmay_k b0 b1 b2 b3 b4 b5 b6 b7 hd nn _ HM.out _).mono ?_
  rintro r w2 ⟨rfl, hx2⟩
  clear q0 q1 q2 q3 q4 q5 q6 q7 q8 q9
  have HB2 := Lib.hid (hx2.blk (hx1.blk HB.out))
  have HX2 := Lib.hid ((((Ext.refl w).alloc (.cells #[.int .i64 b0, .int .i64 b1, .int .i64 b2, .int .i64 b3, .int .i64 b4, .int .i64 b5, .int .i64 b6, .int .i64 b7, .int .i64 hd, .int .i64 nn] 24)).trans hx1).trans hx2)
  have hs2 := HX2.out.size
  have hsb := blk_lt HB2.out
  clear hx1 hx2 HB
  obtain ⟨⟨q0, q1, q2, q3, q4⟩, q5, q6, q7, q8, q9⟩ := cells10 HB2.out
  go_wp2_with fail
  refine (rrlist_k b0 b1 b2 b3 b4 b5 b6 b7 hd nn p0 HL.out _).mono ?_
  rintro r w3 ⟨v3, rfl, ho3, hx3⟩
  clear q0 q1 q2 q3 q4 q5 q6 q7 q8 q9
  obtain ⟨A3, c3, rfl⟩ := OwnInts.form ho3
  have HB3 := Lib.hid (hx3.blk HB2.out)
  have HX3 := Lib.hid (HX2.out.trans hx3)
  have HF3 : Hid (FarI w.heap.size (.slice A3 p0.length c3)) := Lib.hid fun k hk => by have := (World.ownsRow.lt ho3 k hk).1; omega
  have hcap3 : p0.length ≤ c3 := by
    rcases ho3.2 with ⟨he, h0⟩ | ⟨g, cap, cur, he, _, _, hle, _⟩
    · omega
    · simp only [Value.slice.injEq] at he; omega
  have HI3 : Hid (IntsAt w3 (.slice A3 p0.length c3) p0) := Lib.hid (by obtain ⟨A', c', e, h'⟩ := ho3.ints; simp only [Value.slice.injEq, true_and] at e; obtain ⟨rfl, rfl⟩ := e; exact h')
  clear hx3 ho3 HB2 HX2
  go_wp2
  go_loopw [5, 6] (fun ov iv wr => ∃ (u : Value) (j : Nat) (p : List Int) (c0 c1 c2 c3 c4 c5 c6 c7 ch cn : Int), u = ov ∧ j ≤ l.length ∧ iv = .int .i64 j ∧ Ri.Holds ⟨[c0, c1, c2, c3, c4, c5, c6, c7], ch, cn⟩ p ∧ (∃ A c, u = .slice A p.length c ∧ p.length ≤ c) ∧ IntsAt wr u p ∧ FarI w.heap.size u ∧ wr.heap[w.heap.size]? = some (.cells #[.int .i64 c0, .int .i64 c1, .int .i64 c2, .int .i64 c3, .int .i64 c4, .int .i64 c5, .int .i64 c6, .int .i64 c7, .int .i64 ch, .int .i64 cn] 24 (0, 0)) ∧ Ext w wr) (fun _ iv _ => l.length - (intOf iv).toNat)
  case atStart => exact ⟨_, 0, p0, b0, b1, b2, b3, b4, b5, b6, b7, hd, nn, rfl, by omega, rfl, HH.out, ⟨_, _, rfl, hcap3⟩, HI3.out, HF3.out, HB3.out, HX3.out⟩
  case round =>
    obtain ⟨u, j, p, c0, c1, c2, c3, c4, c5, c6, c7, ch, cn, hu, hj, rfl, hho, ⟨Ap, cp, rfl, hcp⟩, hip, hfp, hb, hx⟩ := hrel
    subst hu
    have HHO := Lib.hid hho
    have HIP := Lib.hid hip
    have HFP := Lib.hid hfp
    have HB := Lib.hid hb
    have HX := Lib.hid hx
    have hp8 := (Ri.holds_n hho).2
    have hsr := hx.size
    clear hho hip hfp hb hx
    by_cases hlt : j < l.length
    · obtain ⟨A0, c0', hv0, hA0⟩ := HI.out.ext HX.out
      simp only [Value.slice.injEq, true_and] at hv0
      obtain ⟨rfl, rfl⟩ := hv0
      obtain ⟨bb, oo, rfl, hbb, hcc⟩ := hA0 (by omega)
      obtain ⟨x, hxj⟩ : ∃ x, l[j] = x := ⟨_, rfl⟩
      have pj0 := hcc j l[j] (List.getElem?_eq_getElem hlt)
      rw [hxj] at pj0
      have HPJ : Hid (∀ v, Ext wr v → v.cell? ⟨bb, oo + j, none⟩ = some (.int .i64 x)) := Lib.hid fun v hv => by rw [Below.cell hv hbb]; exact pj0
      have i0 : (0 : Int) ≤ (j : Int) := by omega
      have i1 : (j : Int) < (l.length : Int) := by omega
      have HPW : Hid (∀ v, Ext w v → v.cell? ⟨bb, oo + j, none⟩ = some (.int .i64 x)) := Lib.hid fun v hv => by
        obtain ⟨A1, c1', hv1, hA1⟩ := HI.out
        simp only [Value.slice.injEq, true_and] at hv1
        obtain ⟨rfl, rfl⟩ := hv1
        obtain ⟨b1, o1, e1, hb1, hc1⟩ := hA1 (by omega)
        simp only [Option.some.injEq, Addr.mk.injEq, and_true] at e1
        obtain ⟨rfl, rfl⟩ := e1
        rw [Below.cell hv hb1, ← hxj]
        exact hc1 j _ (List.getElem?_eq_getElem hlt)
      clear hcc hxj hbb hA0
      go_upto_if 37 with fail
      go_cut [5] (fun s5 wx => RQ w s5 wx)
      case first =>
        rename_i m1 m2 m3 m4
        by_cases hx0 : 0 < x
        · by_cases h8 : p.length < 8
          · obtain ⟨r', hp, hh'⟩ := Ri.holds_push HHO.out (show 1 ≤ x by omega) h8
            obtain ⟨d0, d1, d2, d3, d4, d5, d6, d7, dh, dn, rfl⟩ := Ri.open8 (Ri.holds_len hh')
            obtain ⟨k, hk⟩ : ∃ k, k = true := ⟨_, rfl⟩
            rw [← hk] at hp
            have HP := Lib.hid hp
            have HH' := Lib.hid hh'
            clear hp hh'
            go_wp2
            clear pj0
            refine region_rgw ([(5, (fun u => u = .tuple #[.agg #[.int .i64 d0, .int .i64 d1, .int .i64 d2, .int .i64 d3, .int .i64 d4, .int .i64 d5, .int .i64 d6, .int .i64 d7, .int .i64 dh, .int .i64 dn], .bool k] : Value → Prop), (fun _ _ => True : (Nat → GV) → World → Prop)), (9, (fun u => ∃ g, u = .pointer (some ⟨g, 0, none⟩) : Value → Prop), (fun u w => BoxR wr w (u 9) : (Nat → GV) → World → Prop)), (10, (fun u => u = undef : Value → Prop), (fun u w => HasR wr w (u 9) #[.int .i64 d0, .int .i64 d1, .int .i64 d2, .int .i64 d3, .int .i64 d4, .int .i64 d5, .int .i64 d6, .int .i64 d7, .int .i64 dh, .int .i64 dn] : (Nat → GV) → World → Prop))]) (wr) ([(10, 0, [9])]) (by kernel_rfl) (by kernel_rfl) ?_ ?_ ?_ ?_
            · exact List.forall_mem_cons.2 ⟨List.forall_mem_cons.2 ⟨by kernel_rfl, List.forall_mem_nil _⟩, List.forall_mem_nil _⟩
            · exact List.forall_mem_cons.2 ⟨⟨⟨_, rfl⟩, fun _ _ _ _ _ => trivial, fun _ _ _ _ _ => trivial, List.forall_mem_cons.2 ⟨fun _ _ _ _ _ _ _ _ => trivial, List.forall_mem_nil _⟩⟩, List.forall_mem_cons.2 ⟨⟨⟨_, 0, rfl⟩, fun u v w h ht => by show (fun u w => BoxR wr w (u 9) : (Nat → GV) → World → Prop) v w; dsimp only; rw [← h 9 (.inl rfl) (by kernel_rfl)]; exact ht, fun u w w2 hx ht => ht.ext hx, List.forall_mem_cons.2 ⟨fun _ hp => by first | (intro u w w2 hap hc ht; (exact ht.chg hc); done) | exact rg_vac hp (by kernel_rfl), List.forall_mem_nil _⟩⟩, List.forall_mem_cons.2 ⟨⟨⟨_, rfl⟩, fun u v w h ht => by show (fun u w => HasR wr w (u 9) #[.int .i64 d0, .int .i64 d1, .int .i64 d2, .int .i64 d3, .int .i64 d4, .int .i64 d5, .int .i64 d6, .int .i64 d7, .int .i64 dh, .int .i64 dn] : (Nat → GV) → World → Prop) v w; dsimp only; rw [← h 9 (.inr (by kernel_rfl)) (by kernel_rfl)]; exact ht, fun u w w2 hx ht => ht.ext hx, List.forall_mem_cons.2 ⟨fun hne => absurd rfl hne, List.forall_mem_nil _⟩⟩, List.forall_mem_nil _⟩⟩⟩
            · first | assumption | exact Ext.refl _
            refine rg_pure (v := ?_) rfl (by kernel_rfl) (by kernel_rfl) (fun w hS hN => ?_) ?_
            rotate_left 1
            · obtain ⟨⟨k0, k1, k2, k3, k4⟩, k5, k6, k7, k8, k9⟩ := cells10 (hS.blk HB.out)
              clear hN
              go_simp
              refine givesP_mk ?_
              with_reducible rfl
            refine rg_pure (v := ?_) rfl (by kernel_rfl) (by kernel_rfl) (fun w hS hN => ?_) ?_
            rotate_left 1
            · clear hN
              go_simp
              refine givesP_mk ?_
              with_reducible rfl
            refine rg_pure (v := ?_) rfl (by kernel_rfl) (by kernel_rfl) (fun w hS hN => ?_) ?_
            rotate_left 1
            · clear hN
              go_simp
              refine givesP_mk ?_
              with_reducible rfl
            refine rg_pure (v := ?_) rfl (by kernel_rfl) (by kernel_rfl) (fun w hS hN => ?_) ?_
            rotate_left 1
            · clear hN
              go_simp
              refine givesP_mk ?_
              with_reducible rfl
            refine rg_pure (v := ?_) rfl (by kernel_rfl) (by kernel_rfl) (fun w hS hN => ?_) ?_
            rotate_left 1
            · have pj := HPJ.out w hS
              clear hN
              go_simp
              refine givesP_mk ?_
              with_reducible rfl
            refine rg_mem (fun u => u = .tuple #[.agg #[.int .i64 d0, .int .i64 d1, .int .i64 d2, .int .i64 d3, .int .i64 d4, .int .i64 d5, .int .i64 d6, .int .i64 d7, .int .i64 dh, .int .i64 dn], .bool k] : Value → Prop) (fun _ _ => True : (Nat → GV) → World → Prop) (fun _ => Ext) rfl rfl rfl rfl (by kernel_rfl) (by kernel_rfl) (fun w hS hN R hR => ?_) ?_
            · have HR := Lib.hid hR
              clear hR
              (try clear hN)
              go_simp
              refine givesM_call ((rpush_k c0 c1 c2 c3 c4 c5 c6 c7 ch cn x d0 d1 d2 d3 d4 d5 d6 d7 dh dn k HP.out w).mono ?_)
              rintro e w' ⟨rfl, hx⟩
              exact ⟨_, rfl, HR.out _ _ rfl trivial hx⟩
            rintro u5 s5 t5 rfl
            refine rg_pure (v := ?_) rfl (by kernel_rfl) (by kernel_rfl) (fun w hS hN => ?_) ?_
            rotate_left 1
            · clear hN
              go_simp
              refine givesP_mk ?_
              with_reducible rfl
            refine rg_pure (v := ?_) rfl (by kernel_rfl) (by kernel_rfl) (fun w hS hN => ?_) ?_
            rotate_left 1
            · clear hN
              go_simp
              refine givesP_mk ?_
              with_reducible rfl
            refine rg_pure (v := ?_) rfl (by kernel_rfl) (by kernel_rfl) (fun w hS hN => ?_) ?_
            rotate_left 1
            · clear hN
              go_simp
              refine givesP_mk ?_
              with_reducible rfl
            refine rg_mem (fun u => ∃ g, u = .pointer (some ⟨g, 0, none⟩) : Value → Prop) (fun u w => BoxR wr w (u 9) : (Nat → GV) → World → Prop) (fun _ => Ext) rfl rfl rfl rfl (by kernel_rfl) (by kernel_rfl) (fun w hS hN R hR => ?_) ?_
            · have HR := Lib.hid hR
              clear hR
              (try clear hN)
              go_simp
              exact givesM_val (HR.out _ _ ⟨_, rfl⟩ (BoxR.made hS) ((Ext.refl w).alloc _))
            rintro u9 s9 t9 ⟨g9, rfl⟩
            refine rg_mem (fun u => u = undef : Value → Prop) (fun u w => HasR wr w (u 9) #[.int .i64 d0, .int .i64 d1, .int .i64 d2, .int .i64 d3, .int .i64 d4, .int .i64 d5, .int .i64 d6, .int .i64 d7, .int .i64 dh, .int .i64 dn] : (Nat → GV) → World → Prop) (fun u => ChgIn (wr) (0) ([9].map u)) rfl rfl rfl rfl (by kernel_rfl) (by kernel_rfl) (fun w hS hN R hR => ?_) ?_
            · have HR := Lib.hid hR
              clear hR
              have h9 : BoxR wr w ⟨.pointer (some ⟨g9, 0, none⟩), s9, t9⟩ := hN.get 9 rfl (by kernel_rfl)
              obtain ⟨g, z0', z1', z2', z3', z4', z5', z6', z7', z8', z9', hg, hg2, hg3, hg4⟩ := h9
              simp only [Value.pointer.injEq, Option.some.injEq, Addr.mk.injEq, and_true] at hg
              subst hg
              have HZB := Lib.hid hg4
              have HG2 := Lib.hid hg2
              have HG3 := Lib.hid hg3
              clear hg4 hg2 hg3 hN
              obtain ⟨⟨z0, z1, z2, z3, z4⟩, z5, z6, z7, z8, z9⟩ := cells10 HZB.out
              obtain ⟨⟨y0, y1, y2, y3, y4⟩, y5, y6, y7, y8, y9⟩ := frozen10 HZB.out
              (try clear hN)
              go_simp
              refine givesM_skip (HR.out _ _ rfl ⟨g9, rfl, HG2.out, set10_at HZB.out _ _ _ _ _ _ _ _ _ _⟩ (ChgIn.set10 hS HG2.out HG3.out HZB.out _ _ _ _ _ _ _ _ _ _))
            rintro u10 s10 t10 rfl
            refine rg_pure (v := ?_) rfl (by kernel_rfl) (by kernel_rfl) (fun w hS hN => ?_) ?_
            rotate_left 1
            · clear hN
              go_simp
              refine givesP_mk ?_
              with_reducible rfl
            refine rg_done rfl (Nat.le_of_ble_eq_true (by kernel_rfl)) ?_
            intro w8 hS hT
            have h10 : HasR wr w8 ⟨.pointer (some ⟨g9, 0, none⟩), s9, t9⟩ #[.int .i64 d0, .int .i64 d1, .int .i64 d2, .int .i64 d3, .int .i64 d4, .int .i64 d5, .int .i64 d6, .int .i64 d7, .int .i64 dh, .int .i64 dn] := hT (10, ⟨undef, s10, t10⟩) (by simp)
            obtain ⟨g, hg1, hg2, hg3⟩ := h10
            simp only [Value.pointer.injEq, Option.some.injEq, Addr.mk.injEq, and_true] at hg1
            subst hg1 hk
            have HB8 := Lib.hid (hS.blk HB.out)
            have HN8 := Lib.hid hg3
            have HX8 := Lib.hid (HX.out.trans hS)
            have HIP8 := Lib.hid (HIP.out.ext hS)
            clear hT hg3 hS
            have i8 : (p.length : Int) < 8 := by omega
            have HU := Lib.hid (upd10 w.heap.size w8 (.int .i64 d0) (.int .i64 d1) (.int .i64 d2) (.int .i64 d3) (.int .i64 d4) (.int .i64 d5) (.int .i64 d6) (.int .i64 d7) (.int .i64 dh) (.int .i64 dn))
            have HR9 := Lib.hid (set10_at HB8.out (.int .i64 d0) (.int .i64 d1) (.int .i64 d2) (.int .i64 d3) (.int .i64 d4) (.int .i64 d5) (.int .i64 d6) (.int .i64 d7) (.int .i64 dh) (.int .i64 dn))
            have HX9 := Lib.hid (set10_ext HX8.out (Nat.le_refl _) (.int .i64 d0) (.int .i64 d1) (.int .i64 d2) (.int .i64 d3) (.int .i64 d4) (.int .i64 d5) (.int .i64 d6) (.int .i64 d7) (.int .i64 dh) (.int .i64 dn))
            go_simp
            have HZB := HB8
            obtain ⟨⟨z0, z1, z2, z3, z4⟩, z5, z6, z7, z8, z9⟩ := cells10 HZB.out
            obtain ⟨⟨y0, y1, y2, y3, y4⟩, y5, y6, y7, y8, y9⟩ := frozen10 HZB.out
            obtain ⟨⟨q0, q1, q2, q3, q4⟩, q5, q6, q7, q8, q9⟩ := cells10 HN8.out
            go_upto_region 13 with fail
            generalize hw9 : ((((((((((w8.setCell ⟨w.heap.size, 0, none⟩ (.int .i64 d0)).setCell ⟨w.heap.size, 1, none⟩ (.int .i64 d1)).setCell ⟨w.heap.size, 2, none⟩ (.int .i64 d2)).setCell ⟨w.heap.size, 3, none⟩ (.int .i64 d3)).setCell ⟨w.heap.size, 4, none⟩ (.int .i64 d4)).setCell ⟨w.heap.size, 5, none⟩ (.int .i64 d5)).setCell ⟨w.heap.size, 6, none⟩ (.int .i64 d6)).setCell ⟨w.heap.size, 7, none⟩ (.int .i64 d7)).setCell ⟨w.heap.size, 8, none⟩ (.int .i64 dh)).setCell ⟨w.heap.size, 9, none⟩ (.int .i64 dn)) = w9 at *
            have HI9 := Lib.hid (FarI.set HFP.out HIP8.out HU.out)
            have HPJ9 : Hid (∀ v, Ext w9 v → v.cell? ⟨bb, oo + j, none⟩ = some (.int .i64 x)) := Lib.hid fun v hv => (HPW.out v (HX9.out.trans hv))
            have hs9 := HX9.out.size
            have hb9 := blk_lt HR9.out
            obtain ⟨nz, hnz⟩ : ∃ n, p.length + 1 = n := ⟨_, rfl⟩
            have HN1 := Lib.hid hnz
            clear hnz hw9 z0 z1 z2 z3 z4 z5 z6 z7 z8 z9 y0 y1 y2 y3 y4 y5 y6 y7 y8 y9 HZB HB8 HN8 HIP8 HU HX8 HP
            clear q0 q1 q2 q3 q4 q5 q6 q7 q8 q9
            refine region_rgw ([(0, (fun u => ∃ g, u = .slice (some ⟨g, 0, none⟩) 0 0 : Value → Prop), (fun u w => OwnG w9 w (u 0).v [] [u 0] : (Nat → GV) → World → Prop)), (2, (fun u => ∃ A c, u = .slice A p.length c : Value → Prop), (fun u w => OwnG w9 w (u 2).v p [u 2, u 0] : (Nat → GV) → World → Prop)), (7, (fun u => ∃ g, u = .slice (some ⟨g, 0, none⟩) 1 1 : Value → Prop), (fun u w => OwnG w9 w (u 7).v [x] [u 7] : (Nat → GV) → World → Prop)), (8, (fun u => ∃ A c, u = .slice A nz c : Value → Prop), (fun u w => OwnG w9 w (u 8).v (p ++ [x]) [u 8, u 2, u 0] : (Nat → GV) → World → Prop))]) (w9) ([(2, 0, [0]), (8, p.length, [2, 0])]) (by kernel_rfl) (by kernel_rfl) ?_ ?_ ?_ ?_
            · exact List.forall_mem_cons.2 ⟨List.forall_mem_cons.2 ⟨by kernel_rfl, List.forall_mem_nil _⟩, List.forall_mem_cons.2 ⟨List.forall_mem_cons.2 ⟨by kernel_rfl, List.forall_mem_cons.2 ⟨by kernel_rfl, List.forall_mem_nil _⟩⟩, List.forall_mem_nil _⟩⟩
            · exact List.forall_mem_cons.2 ⟨⟨⟨_, 0, rfl⟩, fun u v w h ht => by show (fun u w => OwnG w9 w (u 0).v [] [u 0] : (Nat → GV) → World → Prop) v w; dsimp only; rw [← h 0 (.inl rfl) (by kernel_rfl)]; exact ht, fun u w w2 hx ht => ht.ext hx, List.forall_mem_cons.2 ⟨fun _ hp => by first | (intro u w w2 hap hc ht; refine ht.chg hc ?_; simp; done) | exact rg_vac hp (by kernel_rfl), List.forall_mem_cons.2 ⟨fun _ hp => by first | (intro u w w2 hap hc ht; refine ht.chg hc ?_; simp; done) | exact rg_vac hp (by kernel_rfl), List.forall_mem_nil _⟩⟩⟩, List.forall_mem_cons.2 ⟨⟨⟨_, none, 0, rfl⟩, fun u v w h ht => by show (fun u w => OwnG w9 w (u 2).v p [u 2, u 0] : (Nat → GV) → World → Prop) v w; dsimp only; rw [← h 2 (.inl rfl) (by kernel_rfl), ← h 0 (.inr (by kernel_rfl)) (by kernel_rfl)]; exact ht, fun u w w2 hx ht => ht.ext hx, List.forall_mem_cons.2 ⟨fun hne => absurd rfl hne, List.forall_mem_cons.2 ⟨fun _ hp => by first | (intro u w w2 hap hc ht; refine ht.chg hc ?_; simp; done) | exact rg_vac hp (by kernel_rfl), List.forall_mem_nil _⟩⟩⟩, List.forall_mem_cons.2 ⟨⟨⟨_, 0, rfl⟩, fun u v w h ht => by show (fun u w => OwnG w9 w (u 7).v [x] [u 7] : (Nat → GV) → World → Prop) v w; dsimp only; rw [← h 7 (.inl rfl) (by kernel_rfl)]; exact ht, fun u w w2 hx ht => ht.ext hx, List.forall_mem_cons.2 ⟨fun _ hp => by first | (intro u w w2 hap hc ht; (refine ht.far hc ?_; simpa using hap); done) | exact rg_vac hp (by kernel_rfl), List.forall_mem_cons.2 ⟨fun _ hp => by first | (intro u w w2 hap hc ht; (refine ht.far hc ?_; simpa using hap); done) | exact rg_vac hp (by kernel_rfl), List.forall_mem_nil _⟩⟩⟩, List.forall_mem_cons.2 ⟨⟨⟨_, none, 0, rfl⟩, fun u v w h ht => by show (fun u w => OwnG w9 w (u 8).v (p ++ [x]) [u 8, u 2, u 0] : (Nat → GV) → World → Prop) v w; dsimp only; rw [← h 8 (.inl rfl) (by kernel_rfl), ← h 2 (.inr (by kernel_rfl)) (by kernel_rfl), ← h 0 (.inr (by kernel_rfl)) (by kernel_rfl)]; exact ht, fun u w w2 hx ht => ht.ext hx, List.forall_mem_cons.2 ⟨fun _ hp => by first | (intro u w w2 hap hc ht; refine ht.chg hc ?_; simp; done) | exact rg_vac hp (by kernel_rfl), List.forall_mem_cons.2 ⟨fun hne => absurd rfl hne, List.forall_mem_nil _⟩⟩⟩, List.forall_mem_nil _⟩⟩⟩⟩
            · first | assumption | exact Ext.refl _
            refine rg_mem (fun u => ∃ g, u = .slice (some ⟨g, 0, none⟩) 0 0 : Value → Prop) (fun u w => OwnG w9 w (u 0).v [] [u 0] : (Nat → GV) → World → Prop) (fun _ => Ext) rfl rfl rfl rfl (by kernel_rfl) (by kernel_rfl) (fun w hS hN R hR => ?_) ?_
            · have HR := Lib.hid hR
              clear hR
              (try clear hN)
              go_simp
              exact givesM_val (HR.out _ _ ⟨_, rfl⟩ (OwnG.made hS _) ((Ext.refl w).alloc _))
            rintro u0 s0 t0 ⟨g0, rfl⟩
            refine rg_pure (v := ?_) rfl (by kernel_rfl) (by kernel_rfl) (fun w hS hN => ?_) ?_
            rotate_left 1
            · clear hN
              go_simp
              refine givesP_mk ?_
              with_reducible rfl
            refine rg_mem (fun u => ∃ A c, u = .slice A p.length c : Value → Prop) (fun u w => OwnG w9 w (u 2).v p [u 2, u 0] : (Nat → GV) → World → Prop) (fun u => ChgIn (w9) (0) ([0].map u)) rfl rfl rfl rfl (by kernel_rfl) (by kernel_rfl) (fun w hS hN R hR => ?_) ?_
            · have HR := Lib.hid hR
              clear hR
              have h0 : OwnG w9 w (.slice (some ⟨g0, 0, none⟩) 0 0) [] _ := hN.get 0 rfl (by kernel_rfl)
              obtain ⟨u', w', hr, ⟨A', c', rfl⟩, ho, hin, hc⟩ := OwnInts.append_chg 25 hS h0.1 h0.2 (HI9.out.ext hS) (by simp; omega)
              simp only [List.length_nil, Nat.zero_add, List.nil_append] at hr ho hin hc
              refine givesM_append _ _ 25 rfl _ _ (by go_simp) (by go_simp) hr ?_
              exact HR.out _ _ ⟨_, _, rfl⟩ ⟨ho, hin⟩ hc
            rintro u2 s2 t2 ⟨A2, c2, rfl⟩
            refine rg_pure (v := ?_) rfl (by kernel_rfl) (by kernel_rfl) (fun w hS hN => ?_) ?_
            rotate_left 1
            · clear hN
              go_simp
              refine givesP_mk ?_
              with_reducible rfl
            refine rg_pure (v := ?_) rfl (by kernel_rfl) (by kernel_rfl) (fun w hS hN => ?_) ?_
            rotate_left 1
            · clear hN
              go_simp
              refine givesP_mk ?_
              with_reducible rfl
            refine rg_pure (v := ?_) rfl (by kernel_rfl) (by kernel_rfl) (fun w hS hN => ?_) ?_
            rotate_left 1
            · clear hN
              go_simp
              refine givesP_mk ?_
              with_reducible rfl
            refine rg_pure (v := ?_) rfl (by kernel_rfl) (by kernel_rfl) (fun w hS hN => ?_) ?_
            rotate_left 1
            · have pj := HPJ9.out w hS
              clear hN
              go_simp
              refine givesP_mk ?_
              with_reducible rfl
            refine rg_mem (fun u => ∃ g, u = .slice (some ⟨g, 0, none⟩) 1 1 : Value → Prop) (fun u w => OwnG w9 w (u 7).v [x] [u 7] : (Nat → GV) → World → Prop) (fun _ => Ext) rfl rfl rfl rfl (by kernel_rfl) (by kernel_rfl) (fun w hS hN R hR => ?_) ?_
            · have HR := Lib.hid hR
              clear hR
              (try clear hN)
              go_simp
              exact givesM_val (HR.out _ _ ⟨_, rfl⟩ (OwnG.made1 hS _ _) ((Ext.refl w).alloc _))
            rintro u7 s7 t7 ⟨g7, rfl⟩
            refine rg_mem (fun u => ∃ A c, u = .slice A nz c : Value → Prop) (fun u w => OwnG w9 w (u 8).v (p ++ [x]) [u 8, u 2, u 0] : (Nat → GV) → World → Prop) (fun u => ChgIn (w9) (p.length) ([2, 0].map u)) rfl rfl rfl rfl (by kernel_rfl) (by kernel_rfl) (fun w hS hN R hR => ?_) ?_
            · have HR := Lib.hid hR
              clear hR
              have h2 : OwnG w9 w (.slice A2 p.length c2) p _ := hN.get 2 rfl (by kernel_rfl)
              have h7 : OwnG w9 w (.slice (some ⟨g7, 0, none⟩) 1 1) [x] _ := hN.get 7 rfl (by kernel_rfl)
              obtain ⟨u', w', hr, ⟨A', c', hu⟩, ho, hin, hc⟩ := OwnInts.append_chg (m := [x]) 25 hS h2.1 h2.2 h7.ints (by simp; omega)
              rw [show p.length + [x].length = nz from HN1.out] at hu
              subst hu
              simp only [List.length_singleton] at hr
              refine givesM_append _ _ 25 rfl _ _ (by go_simp) (by go_simp) hr ?_
              exact HR.out _ _ ⟨_, _, rfl⟩ ⟨ho, hin⟩ hc
            rintro u8 s8 t8 ⟨A8, c8, rfl⟩
            refine rg_pure (v := ?_) rfl (by kernel_rfl) (by kernel_rfl) (fun w hS hN => ?_) ?_
            rotate_left 1
            · clear hN
              go_simp
              refine givesP_mk ?_
              with_reducible rfl
            refine rg_done rfl (Nat.le_of_ble_eq_true (by kernel_rfl)) ?_
            intro w10 hS hT
            have h8 : OwnG w9 w10 (.slice A8 nz c8) (p ++ [x]) [⟨.slice A8 nz c8, s8, t8⟩, _, _] := hT (8, ⟨.slice A8 nz c8, s8, t8⟩) (by simp)
            have hnn : nz = (p ++ [x]).length := by rw [← HN1.out]; simp
            have HOUT : Hid (RQ w (.slice A8 nz c8) w10) := Lib.hid (RQ.mk hnn (by
              rcases h8.1.2 with ⟨he, h0⟩ | ⟨g, cap, cur, he, _, _, hle, _⟩
              · simp only [Value.slice.injEq] at he; omega
              · simp only [Value.slice.injEq] at he; omega) HH'.out (by have := h8.ints; rwa [← hnn] at this) (fun k hk => by have := (World.ownsRow.lt h8.1 k hk).1; omega) (hS.blk HR9.out) (HX9.out.trans hS))
            clear hT hS h8 hnn HN1 HR9 HX9 HPJ9 HI9
            go_simp
            try go_wp2
            first | refine m4 _ _ (Met.intro (m3 _ _ ?_)) | refine Met.intro (m3 _ _ ?_) | refine m3 _ _ ?_
            repeat apply Exists.intro
            refine ⟨?rel, rfl⟩
            case rel => exact HOUT.out
          · have hp88 : p.length = 8 := by omega
            have hp := Ri.push_no HHO.out (g := x) (.inr hp88)
            obtain ⟨d0, d1, d2, d3, d4, d5, d6, d7, dh, dn, hdz⟩ := Ri.open8 (r := Ri.zero) rfl
            rw [hdz] at hp
            obtain ⟨k, hk⟩ : ∃ k, k = false := ⟨_, rfl⟩
            rw [← hk] at hp
            have HP := Lib.hid hp
            have i8 : decide ((p.length : Int) < 8) = false := by rw [hp88]; rfl
            clear hp hdz hp88
            go_wp2
            clear pj0
            refine region_rgw ([(5, (fun u => u = .tuple #[.agg #[.int .i64 d0, .int .i64 d1, .int .i64 d2, .int .i64 d3, .int .i64 d4, .int .i64 d5, .int .i64 d6, .int .i64 d7, .int .i64 dh, .int .i64 dn], .bool k] : Value → Prop), (fun _ _ => True : (Nat → GV) → World → Prop)), (9, (fun u => ∃ g, u = .pointer (some ⟨g, 0, none⟩) : Value → Prop), (fun u w => BoxR wr w (u 9) : (Nat → GV) → World → Prop)), (10, (fun u => u = undef : Value → Prop), (fun u w => HasR wr w (u 9) #[.int .i64 d0, .int .i64 d1, .int .i64 d2, .int .i64 d3, .int .i64 d4, .int .i64 d5, .int .i64 d6, .int .i64 d7, .int .i64 dh, .int .i64 dn] : (Nat → GV) → World → Prop))]) (wr) ([(10, 0, [9])]) (by kernel_rfl) (by kernel_rfl) ?_ ?_ ?_ ?_
            · exact List.forall_mem_cons.2 ⟨List.forall_mem_cons.2 ⟨by kernel_rfl, List.forall_mem_nil _⟩, List.forall_mem_nil _⟩
            · exact List.forall_mem_cons.2 ⟨⟨⟨_, rfl⟩, fun _ _ _ _ _ => trivial, fun _ _ _ _ _ => trivial, List.forall_mem_cons.2 ⟨fun _ _ _ _ _ _ _ _ => trivial, List.forall_mem_nil _⟩⟩, List.forall_mem_cons.2 ⟨⟨⟨_, 0, rfl⟩, fun u v w h ht => by show (fun u w => BoxR wr w (u 9) : (Nat → GV) → World → Prop) v w; dsimp only; rw [← h 9 (.inl rfl) (by kernel_rfl)]; exact ht, fun u w w2 hx ht => ht.ext hx, List.forall_mem_cons.2 ⟨fun _ hp => by first | (intro u w w2 hap hc ht; (exact ht.chg hc); done) | exact rg_vac hp (by kernel_rfl), List.forall_mem_nil _⟩⟩, List.forall_mem_cons.2 ⟨⟨⟨_, rfl⟩, fun u v w h ht => by show (fun u w => HasR wr w (u 9) #[.int .i64 d0, .int .i64 d1, .int .i64 d2, .int .i64 d3, .int .i64 d4, .int .i64 d5, .int .i64 d6, .int .i64 d7, .int .i64 dh, .int .i64 dn] : (Nat → GV) → World → Prop) v w; dsimp only; rw [← h 9 (.inr (by kernel_rfl)) (by kernel_rfl)]; exact ht, fun u w w2 hx ht => ht.ext hx, List.forall_mem_cons.2 ⟨fun hne => absurd rfl hne, List.forall_mem_nil _⟩⟩, List.forall_mem_nil _⟩⟩⟩
            · first | assumption | exact Ext.refl _
            refine rg_pure (v := ?_) rfl (by kernel_rfl) (by kernel_rfl) (fun w hS hN => ?_) ?_
            rotate_left 1
            · obtain ⟨⟨k0, k1, k2, k3, k4⟩, k5, k6, k7, k8, k9⟩ := cells10 (hS.blk HB.out)
              clear hN
              go_simp
              refine givesP_mk ?_
              with_reducible rfl
            refine rg_pure (v := ?_) rfl (by kernel_rfl) (by kernel_rfl) (fun w hS hN => ?_) ?_
            rotate_left 1
            · clear hN
              go_simp
              refine givesP_mk ?_
              with_reducible rfl
            refine rg_pure (v := ?_) rfl (by kernel_rfl) (by kernel_rfl) (fun w hS hN => ?_) ?_
            rotate_left 1
            · clear hN
              go_simp
              refine givesP_mk ?_
              with_reducible rfl
            refine rg_pure (v := ?_) rfl (by kernel_rfl) (by kernel_rfl) (fun w hS hN => ?_) ?_
            rotate_left 1
            · clear hN
              go_simp
              refine givesP_mk ?_
              with_reducible rfl
            refine rg_pure (v := ?_) rfl (by kernel_rfl) (by kernel_rfl) (fun w hS hN => ?_) ?_
            rotate_left 1
            · have pj := HPJ.out w hS
              clear hN
              go_simp
              refine givesP_mk ?_
              with_reducible rfl
            refine rg_mem (fun u => u = .tuple #[.agg #[.int .i64 d0, .int .i64 d1, .int .i64 d2, .int .i64 d3, .int .i64 d4, .int .i64 d5, .int .i64 d6, .int .i64 d7, .int .i64 dh, .int .i64 dn], .bool k] : Value → Prop) (fun _ _ => True : (Nat → GV) → World → Prop) (fun _ => Ext) rfl rfl rfl rfl (by kernel_rfl) (by kernel_rfl) (fun w hS hN R hR => ?_) ?_
            · have HR := Lib.hid hR
              clear hR
              (try clear hN)
              go_simp
              refine givesM_call ((rpush_k c0 c1 c2 c3 c4 c5 c6 c7 ch cn x d0 d1 d2 d3 d4 d5 d6 d7 dh dn k HP.out w).mono ?_)
              rintro e w' ⟨rfl, hx⟩
              exact ⟨_, rfl, HR.out _ _ rfl trivial hx⟩
            rintro u5 s5 t5 rfl
            refine rg_pure (v := ?_) rfl (by kernel_rfl) (by kernel_rfl) (fun w hS hN => ?_) ?_
            rotate_left 1
            · clear hN
              go_simp
              refine givesP_mk ?_
              with_reducible rfl
            refine rg_pure (v := ?_) rfl (by kernel_rfl) (by kernel_rfl) (fun w hS hN => ?_) ?_
            rotate_left 1
            · clear hN
              go_simp
              refine givesP_mk ?_
              with_reducible rfl
            refine rg_pure (v := ?_) rfl (by kernel_rfl) (by kernel_rfl) (fun w hS hN => ?_) ?_
            rotate_left 1
            · clear hN
              go_simp
              refine givesP_mk ?_
              with_reducible rfl
            refine rg_mem (fun u => ∃ g, u = .pointer (some ⟨g, 0, none⟩) : Value → Prop) (fun u w => BoxR wr w (u 9) : (Nat → GV) → World → Prop) (fun _ => Ext) rfl rfl rfl rfl (by kernel_rfl) (by kernel_rfl) (fun w hS hN R hR => ?_) ?_
            · have HR := Lib.hid hR
              clear hR
              (try clear hN)
              go_simp
              exact givesM_val (HR.out _ _ ⟨_, rfl⟩ (BoxR.made hS) ((Ext.refl w).alloc _))
            rintro u9 s9 t9 ⟨g9, rfl⟩
            refine rg_mem (fun u => u = undef : Value → Prop) (fun u w => HasR wr w (u 9) #[.int .i64 d0, .int .i64 d1, .int .i64 d2, .int .i64 d3, .int .i64 d4, .int .i64 d5, .int .i64 d6, .int .i64 d7, .int .i64 dh, .int .i64 dn] : (Nat → GV) → World → Prop) (fun u => ChgIn (wr) (0) ([9].map u)) rfl rfl rfl rfl (by kernel_rfl) (by kernel_rfl) (fun w hS hN R hR => ?_) ?_
            · have HR := Lib.hid hR
              clear hR
              have h9 : BoxR wr w ⟨.pointer (some ⟨g9, 0, none⟩), s9, t9⟩ := hN.get 9 rfl (by kernel_rfl)
              obtain ⟨g, z0', z1', z2', z3', z4', z5', z6', z7', z8', z9', hg, hg2, hg3, hg4⟩ := h9
              simp only [Value.pointer.injEq, Option.some.injEq, Addr.mk.injEq, and_true] at hg
              subst hg
              have HZB := Lib.hid hg4
              have HG2 := Lib.hid hg2
              have HG3 := Lib.hid hg3
              clear hg4 hg2 hg3 hN
              obtain ⟨⟨z0, z1, z2, z3, z4⟩, z5, z6, z7, z8, z9⟩ := cells10 HZB.out
              obtain ⟨⟨y0, y1, y2, y3, y4⟩, y5, y6, y7, y8, y9⟩ := frozen10 HZB.out
              (try clear hN)
              go_simp
              refine givesM_skip (HR.out _ _ rfl ⟨g9, rfl, HG2.out, set10_at HZB.out _ _ _ _ _ _ _ _ _ _⟩ (ChgIn.set10 hS HG2.out HG3.out HZB.out _ _ _ _ _ _ _ _ _ _))
            rintro u10 s10 t10 rfl
            refine rg_pure (v := ?_) rfl (by kernel_rfl) (by kernel_rfl) (fun w hS hN => ?_) ?_
            rotate_left 1
            · clear hN
              go_simp
              refine givesP_mk ?_
              with_reducible rfl
            refine rg_done rfl (Nat.le_of_ble_eq_true (by kernel_rfl)) ?_
            intro w8 hS hT
            subst hk
            have HOUT : Hid (RQ w (.slice Ap p.length cp) w8) := Lib.hid (RQ.mk rfl hcp HHO.out (HIP.out.ext hS) HFP.out (hS.blk HB.out) (HX.out.trans hS))
            clear hT hS HP h8
            go_simp
            go_wp2
            first | refine m4 _ _ (Met.intro (m3 _ _ ?_)) | refine Met.intro (m3 _ _ ?_) | refine m3 _ _ ?_
            repeat apply Exists.intro
            refine ⟨?rel, rfl⟩
            case rel => exact HOUT.out
        · have hx1 : x ≤ 0 := by omega
          clear hx0
          obtain ⟨⟨q0, q1, q2, q3, q4⟩, q5, q6, q7, q8, q9⟩ := cells10 HB.out
          obtain hpp | ⟨g, p', hpp⟩ : p = [] ∨ ∃ g p', p = g :: p' := by cases p <;> simp
          · subst hpp
            simp only [List.length_nil] at *
            have HP := Lib.hid (Ri.pop_nil HHO.out)
            go_wp2_with fail
            refine (rpop_k c0 c1 c2 c3 c4 c5 c6 c7 ch cn c0 c1 c2 c3 c4 c5 c6 c7 ch cn 0 false HP.out _).mono ?_
            rintro r wq ⟨rfl, hx5⟩
            clear q0 q1 q2 q3 q4 q5 q6 q7 q8 q9
            clear pj0
            have HX5 : Hid (Ext w (wq.alloc (.cells #[.int .i64 c0, .int .i64 c1, .int .i64 c2, .int .i64 c3, .int .i64 c4, .int .i64 c5, .int .i64 c6, .int .i64 c7, .int .i64 ch, .int .i64 cn] 24))) := Lib.hid ((HX.out.trans hx5).alloc _)
            have HB5 : Hid ((wq.alloc (.cells #[.int .i64 c0, .int .i64 c1, .int .i64 c2, .int .i64 c3, .int .i64 c4, .int .i64 c5, .int .i64 c6, .int .i64 c7, .int .i64 ch, .int .i64 cn] 24)).heap[w.heap.size]? = some (.cells #[.int .i64 c0, .int .i64 c1, .int .i64 c2, .int .i64 c3, .int .i64 c4, .int .i64 c5, .int .i64 c6, .int .i64 c7, .int .i64 ch, .int .i64 cn] 24 (0, 0))) := Lib.hid (blk_alloc (hx5.blk HB.out) _)
            have HN5 : Hid ((wq.alloc (.cells #[.int .i64 c0, .int .i64 c1, .int .i64 c2, .int .i64 c3, .int .i64 c4, .int .i64 c5, .int .i64 c6, .int .i64 c7, .int .i64 ch, .int .i64 cn] 24)).heap[wq.heap.size]? = some (.cells #[.int .i64 c0, .int .i64 c1, .int .i64 c2, .int .i64 c3, .int .i64 c4, .int .i64 c5, .int .i64 c6, .int .i64 c7, .int .i64 ch, .int .i64 cn] 24 (0, 0))) := Lib.hid (blk_new _ _)
            have HIP5 : Hid (IntsAt (wq.alloc (.cells #[.int .i64 c0, .int .i64 c1, .int .i64 c2, .int .i64 c3, .int .i64 c4, .int .i64 c5, .int .i64 c6, .int .i64 c7, .int .i64 ch, .int .i64 cn] 24)) (.slice Ap 0 cp) []) := Lib.hid (HIP.out.ext (hx5.alloc _))
            clear hx5
            go_upto_region 15 with fail
            generalize hw5 : wq.alloc (.cells #[.int .i64 c0, .int .i64 c1, .int .i64 c2, .int .i64 c3, .int .i64 c4, .int .i64 c5, .int .i64 c6, .int .i64 c7, .int .i64 ch, .int .i64 cn] 24) = w5 at *
            clear hw5
            have HU := Lib.hid (upd10 w.heap.size w5 (.int .i64 c0) (.int .i64 c1) (.int .i64 c2) (.int .i64 c3) (.int .i64 c4) (.int .i64 c5) (.int .i64 c6) (.int .i64 c7) (.int .i64 ch) (.int .i64 cn))
            have HR9 := Lib.hid (set10_at HB5.out (.int .i64 c0) (.int .i64 c1) (.int .i64 c2) (.int .i64 c3) (.int .i64 c4) (.int .i64 c5) (.int .i64 c6) (.int .i64 c7) (.int .i64 ch) (.int .i64 cn))
            have HX9 := Lib.hid (set10_ext HX5.out (Nat.le_refl _) (.int .i64 c0) (.int .i64 c1) (.int .i64 c2) (.int .i64 c3) (.int .i64 c4) (.int .i64 c5) (.int .i64 c6) (.int .i64 c7) (.int .i64 ch) (.int .i64 cn))
            have HOUT := Lib.hid (RQ.mk (q := []) rfl hcp HHO.out (FarI.set HFP.out HIP5.out HU.out) HFP.out HR9.out HX9.out)
            have HZB := HB5
            obtain ⟨⟨z0, z1, z2, z3, z4⟩, z5, z6, z7, z8, z9⟩ := cells10 HZB.out
            obtain ⟨⟨y0, y1, y2, y3, y4⟩, y5, y6, y7, y8, y9⟩ := frozen10 HZB.out
            obtain ⟨⟨q0, q1, q2, q3, q4⟩, q5, q6, q7, q8, q9⟩ := cells10 HN5.out
            go_wp2
            first | refine m4 _ _ (Met.intro (m3 _ _ ?_)) | refine Met.intro (m3 _ _ ?_) | refine m3 _ _ ?_
            repeat apply Exists.intro
            refine ⟨?rel, rfl⟩
            case rel => exact HOUT.out
          · subst hpp
            simp only [List.length_cons] at *
            obtain ⟨r', hp, hh'⟩ := Ri.holds_pop HHO.out
            obtain ⟨d0, d1, d2, d3, d4, d5, d6, d7, dh, dn, rfl⟩ := Ri.open8 (Ri.holds_len hh')
            have HP := Lib.hid hp
            have HZ := Lib.hid hh'
            clear hp hh'
            go_wp2_with fail
            refine (rpop_k c0 c1 c2 c3 c4 c5 c6 c7 ch cn d0 d1 d2 d3 d4 d5 d6 d7 dh dn g true HP.out _).mono ?_
            rintro r wq ⟨rfl, hx5⟩
            clear q0 q1 q2 q3 q4 q5 q6 q7 q8 q9
            clear pj0
            have HX5 : Hid (Ext w (wq.alloc (.cells #[.int .i64 d0, .int .i64 d1, .int .i64 d2, .int .i64 d3, .int .i64 d4, .int .i64 d5, .int .i64 d6, .int .i64 d7, .int .i64 dh, .int .i64 dn] 24))) := Lib.hid ((HX.out.trans hx5).alloc _)
            have HB5 : Hid ((wq.alloc (.cells #[.int .i64 d0, .int .i64 d1, .int .i64 d2, .int .i64 d3, .int .i64 d4, .int .i64 d5, .int .i64 d6, .int .i64 d7, .int .i64 dh, .int .i64 dn] 24)).heap[w.heap.size]? = some (.cells #[.int .i64 c0, .int .i64 c1, .int .i64 c2, .int .i64 c3, .int .i64 c4, .int .i64 c5, .int .i64 c6, .int .i64 c7, .int .i64 ch, .int .i64 cn] 24 (0, 0))) := Lib.hid (blk_alloc (hx5.blk HB.out) _)
            have HN5 : Hid ((wq.alloc (.cells #[.int .i64 d0, .int .i64 d1, .int .i64 d2, .int .i64 d3, .int .i64 d4, .int .i64 d5, .int .i64 d6, .int .i64 d7, .int .i64 dh, .int .i64 dn] 24)).heap[wq.heap.size]? = some (.cells #[.int .i64 d0, .int .i64 d1, .int .i64 d2, .int .i64 d3, .int .i64 d4, .int .i64 d5, .int .i64 d6, .int .i64 d7, .int .i64 dh, .int .i64 dn] 24 (0, 0))) := Lib.hid (blk_new _ _)
            have HIP5 : Hid (IntsAt (wq.alloc (.cells #[.int .i64 d0, .int .i64 d1, .int .i64 d2, .int .i64 d3, .int .i64 d4, .int .i64 d5, .int .i64 d6, .int .i64 d7, .int .i64 dh, .int .i64 dn] 24)) (.slice Ap (p'.length + 1) cp) (g :: p')) := Lib.hid (HIP.out.ext (hx5.alloc _))
            clear hx5
            go_upto_region 15 with fail
            generalize hw5 : wq.alloc (.cells #[.int .i64 d0, .int .i64 d1, .int .i64 d2, .int .i64 d3, .int .i64 d4, .int .i64 d5, .int .i64 d6, .int .i64 d7, .int .i64 dh, .int .i64 dn] 24) = w5 at *
            clear hw5
            have HU := Lib.hid (upd10 w.heap.size w5 (.int .i64 d0) (.int .i64 d1) (.int .i64 d2) (.int .i64 d3) (.int .i64 d4) (.int .i64 d5) (.int .i64 d6) (.int .i64 d7) (.int .i64 dh) (.int .i64 dn))
            have HR9 := Lib.hid (set10_at HB5.out (.int .i64 d0) (.int .i64 d1) (.int .i64 d2) (.int .i64 d3) (.int .i64 d4) (.int .i64 d5) (.int .i64 d6) (.int .i64 d7) (.int .i64 dh) (.int .i64 dn))
            have HX9 := Lib.hid (set10_ext HX5.out (Nat.le_refl _) (.int .i64 d0) (.int .i64 d1) (.int .i64 d2) (.int .i64 d3) (.int .i64 d4) (.int .i64 d5) (.int .i64 d6) (.int .i64 d7) (.int .i64 dh) (.int .i64 dn))
            have HI9 := Lib.hid (FarI.set HFP.out HIP5.out HU.out)
            have hip5 := HIP5.out
            obtain ⟨A1, c1', hv1, hA1⟩ := hip5
            simp only [Value.slice.injEq, List.length_cons, true_and] at hv1
            obtain ⟨rfl, rfl⟩ := hv1
            obtain ⟨b9, o9, rfl, hb9, hc9⟩ := hA1 (by simp)
            have pg := hc9 0 g rfl
            simp only [Nat.add_zero] at pg
            have hgg : (g != g) = false := by simp
            have S1 := irun_from1 (some ⟨b9, o9, none⟩) (p'.length + 1) cp (by omega) hcp
            have hlt1 : p'.length + 1 - 1 = p'.length := by omega
            rw [hlt1] at S1
            have HOUT := Lib.hid (RQ.mk (n := p'.length) (A := advI (some ⟨b9, o9, none⟩) cp) (c := cp - 1) rfl (by omega) HZ.out (by have := advI_ints HI9.out hcp; rwa [hlt1] at this) (FarI.adv HFP.out) HR9.out HX9.out)
            clear hc9 hb9 hA1 hlt1
            generalize advI (some ⟨b9, o9, none⟩) cp = A8 at *
            generalize cp - 1 = c8 at *
            have HZB := HB5
            obtain ⟨⟨z0, z1, z2, z3, z4⟩, z5, z6, z7, z8, z9⟩ := cells10 HZB.out
            obtain ⟨⟨y0, y1, y2, y3, y4⟩, y5, y6, y7, y8, y9⟩ := frozen10 HZB.out
            obtain ⟨⟨q0, q1, q2, q3, q4⟩, q5, q6, q7, q8, q9⟩ := cells10 HN5.out
            go_wp2
            first | refine m4 _ _ (Met.intro (m3 _ _ ?_)) | refine Met.intro (m3 _ _ ?_) | refine m3 _ _ ?_
            repeat apply Exists.intro
            refine ⟨?rel, rfl⟩
            case rel => exact HOUT.out
      case rest =>
        obtain ⟨q, A8, c8, d0, d1, d2, d3, d4, d5, d6, d7, dh, dn, rfl, hcz, hh', hiz, hfz, hbz, hxz⟩ := hcut
        have HZ := Lib.hid hh'
        have IZ := Lib.hid hiz
        have FZ := Lib.hid hfz
        have RB := Lib.hid hbz
        have XZ := Lib.hid hxz
        have hq8 := (Ri.holds_n hh').2
        have HMZ := Lib.hid (Ri.may_of hh')
        have HLZ := Lib.hid (Ri.list_of hh')
        clear hh' hiz hfz hbz hxz pj0
        obtain ⟨⟨q0, q1, q2, q3, q4⟩, q5, q6, q7, q8, q9⟩ := cells10 RB.out
        go_wp2_with fail
        refine (rmay_eq d0 d1 d2 d3 d4 d5 d6 d7 dh dn true HMZ.out _).mono ?_
        rintro r wa ⟨rfl, hxa⟩
        clear q0 q1 q2 q3 q4 q5 q6 q7 q8 q9
        have RB2 := Lib.hid (hxa.blk RB.out)
        obtain ⟨⟨q0, q1, q2, q3, q4⟩, q5, q6, q7, q8, q9⟩ := cells10 RB2.out
        go_wp2_with fail
        refine (rlist_k d0 d1 d2 d3 d4 d5 d6 d7 dh dn q HLZ.out _).mono ?_
        rintro r wb ⟨vb, rfl, hib, hxb⟩
        clear q0 q1 q2 q3 q4 q5 q6 q7 q8 q9
        have HIB := Lib.hid hib
        have EAB := Lib.hid (hxa.trans hxb)
        clear hib hxa hxb RB2
        go_wp2_with fail
        refine (rints_self' _ _ q _ HIB.out (IZ.out.ext EAB.out) (by omega)).mono ?_
        rintro r wc ⟨rfl, hxc⟩
        have HEND : Hid (IntsAt wc (.slice A8 q.length c8) q ∧ wc.heap[w.heap.size]? = some (.cells #[.int .i64 d0, .int .i64 d1, .int .i64 d2, .int .i64 d3, .int .i64 d4, .int .i64 d5, .int .i64 d6, .int .i64 d7, .int .i64 dh, .int .i64 dn] 24 (0, 0)) ∧ Ext w wc) := Lib.hid ⟨(IZ.out.ext EAB.out).ext hxc, hxc.blk (EAB.out.blk RB.out), XZ.out.trans (EAB.out.trans hxc)⟩
        clear hxc
        go_wp2
        go_roundw
        case rel => exact ⟨.slice A8 q.length c8, j + 1, q, d0, d1, d2, d3, d4, d5, d6, d7, dh, dn, rfl, by omega, by go_num, HZ.out, ⟨A8, c8, rfl, hcz⟩, HEND.out.1, FZ.out, HEND.out.2.1, HEND.out.2.2⟩
        case measure => simp [intOf]; omega
    · obtain rfl : j = l.length := by omega
      go_wp2
      go_ret
      exact ⟨rfl, HX.out⟩

theorem walk_RingQueue (b0 b1 b2 b3 b4 b5 b6 b7 hd n : Int) (a : Option Addr) (len cap : Nat) (zs : List Int) (w : World) (_ : ∀ z ∈ [b0, b1, b2, b3, b4, b5, b6, b7, hd, n], (Lit.int .i64 z).wf = true) (hz : IsRow .i64 w a len cap zs) :
    Calls Try.prog 3 #[.agg #[.int .i64 b0, .int .i64 b1, .int .i64 b2, .int .i64 b3, .int .i64 b4, .int .i64 b5, .int .i64 b6, .int .i64 b7, .int .i64 hd, .int .i64 n], .slice a len cap] w fun e w' => e = .returned (.bool true) ∧ Ext w w' := by
  obtain ⟨hI, hlen, _⟩ := ints_of_row hz
  generalize zs.take len = l at *
  cases hm : Ri.may ⟨[b0, b1, b2, b3, b4, b5, b6, b7], hd, n⟩ with
  | false => exact rqueue_out b0 b1 b2 b3 b4 b5 b6 b7 hd n _ l w hI false hm (.inl rfl)
  | true =>
    by_cases h60 : 60 < l.length
    · exact rqueue_out b0 b1 b2 b3 b4 b5 b6 b7 hd n _ l w hI true hm (.inr ⟨rfl, h60⟩)
    · exact rqueue_in b0 b1 b2 b3 b4 b5 b6 b7 hd n _ l w hI (by omega) _ (Ri.holds_may rfl hm)

end Go.Proofs.Ytdpmogbibmgolaa
